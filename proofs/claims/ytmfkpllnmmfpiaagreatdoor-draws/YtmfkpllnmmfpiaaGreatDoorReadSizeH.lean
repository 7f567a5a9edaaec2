/-
  Plain: what a closure on the trail changes back; that all that was changed can be changed back.
-/
import Derived.Test.YtmfkpllnmmfpiaaGreatDoorUndoH
import Derived.Test.YtmfkpllnmmfpiaaGreatDoorSentH
namespace Go.Proofs.YtmfkpllnmmfpiaaGreatDoor
open Go.RowKit

def undo1 (S : WS) (u : Un) : WS :=
  if u.tag = 0 then { S with said := S.said.dropLast }
  else if u.tag = 1 then { S with shapes := S.shapes.take u.a, classes := S.classes.take u.a, numbers := setF S.numbers u.sh none, nums := S.nums - 1 }
  else if u.tag = 2 then { S with alike := setF S.alike u.sh none, files := S.files - 1 }
  else { S with classes := S.classes.set u.a u.b }

/-- It can be changed back. -/
def okUn (S : WS) (u : Un) : Prop :=
  (u.tag = 0 ∧ 0 < S.said.length) ∨ (u.tag = 1 ∧ u.a < S.shapes.length ∧ u.a < S.classes.length ∧ S.shapes.length ≤ 1000000 ∧ GoodSh u.sh ∧ (S.numbers u.sh).isSome = true) ∨ (u.tag = 2 ∧ GoodSh u.sh ∧ (S.alike u.sh).isSome = true) ∨ (u.tag = 3 ∧ u.a < S.classes.length)

/-- So many closures lead from S back to S0. -/
def CanBack : Nat → WS → WS → Prop
  | 0, S, S0 => S = S0
  | n + 1, S, S0 => ∃ us u, S.trail = us ++ [u] ∧ okUn { S with trail := us } u ∧ CanBack n (undo1 { S with trail := us } u) S0
def Goes (S0 S : WS) : Prop := ∃ n, S.trail.length = S0.trail.length + n ∧ CanBack n S S0

theorem Goes.refl (S : WS) : Goes S S := ⟨0, rfl, rfl⟩
theorem Goes.step {S0 S S' : WS} {u : Un} (h : Goes S0 S) (ht : S'.trail = S.trail ++ [u]) (ho : okUn { S' with trail := S.trail } u) (hu : undo1 { S' with trail := S.trail } u = S) : Goes S0 S' := by
  obtain ⟨n, hn, hc⟩ := h
  exact ⟨n + 1, by rw [ht]; simp; omega, S.trail, u, ht, ho, by rw [hu]; exact hc⟩

theorem setF_back {f : Sh → Option Nat} {s : Sh} {v : Option Nat} (h : f s = none) : setF (setF f s v) s none = f := by
  funext t
  unfold setF
  split
  · rename_i e; rw [e, h]
  · rfl

theorem Goes.note {S0 S : WS} (h : Goes S0 S) (x : Nat × Nat × Nat) : Goes S0 { S with said := S.said ++ [x], trail := S.trail ++ [⟨0, (⟨#[]⟩, 0, 0, 0, 0), 0, 0⟩] } :=
  h.step rfl (.inl ⟨rfl, by simp⟩) (by simp [undo1])
theorem Goes.file {S0 S : WS} (h : Goes S0 S) {s : Sh} (hs : Fits S s) (n : Nat) : Goes S0 (fileM S s n).2 := by
  unfold fileM
  split
  · exact h
  · rename_i hk
    exact h.step rfl (.inr (.inr (.inl ⟨rfl, keyTo_good hs _, by simp [setF]⟩))) (by simp [undo1, setF_back hk])
theorem Goes.enter {S0 S : WS} (h : Goes S0 S) {s : Sh} (hs : Fits S s) (hg : GoodSh s) (hl : S.shapes.length = S.classes.length) (hm : S.shapes.length < 1000000) (hn : S.numbers s = none) : Goes S0 (enterM S s).2 := by
  obtain ⟨r1, r2, r3, r4, r5, r6, r7⟩ := fileM_rows S s S.shapes.length
  refine (h.file hs S.shapes.length).step (u := ⟨1, s, S.shapes.length, 0⟩) rfl (.inr (.inl ⟨rfl, ?_, ?_, ?_, hg, ?_⟩)) ?_
  · simp [enterM, r1]
  · show S.shapes.length < ((fileM S s S.shapes.length).2.classes ++ [_]).length
    rw [r2]
    simp [hl]
  · simp [enterM, r1]; omega
  · simp [enterM, setF]
  · have e1 : (S.classes ++ [if (fileM S s S.shapes.length).1 = S.shapes.length then S.shapes.length else classAt (fileM S s S.shapes.length).2 (fileM S s S.shapes.length).1]).take S.shapes.length = S.classes := by rw [hl]; exact List.take_left
    simp only [undo1, enterM]
    simp only [if_neg (by decide : ¬ (1 : Nat) = 0), if_true, r1, r2, e1, List.take_left, setF_back (show (fileM S s S.shapes.length).2.numbers s = none by rw [r3]; exact hn), Nat.add_sub_cancel]
    generalize (fileM S s S.shapes.length).2 = T at *
    obtain ⟨_, _, _, _, _, _, _, _, _⟩ := T
    simp only at r1 r2
    subst r1 r2
    rfl

theorem Goes.addAll {α : Type} {S0 : WS} {f : WS → α → Nat × WS} {size : α → Nat} {ok : α → Prop} (hf : ∀ S x, Inv S → ok x → Adds S (size x) (f S x).1 (f S x).2)
    (hg : ∀ S x, Inv S → ok x → S.shapes.length + size x ≤ 50000 → Goes S0 S → Goes S0 (f S x).2) : ∀ (l : List α) (S : WS), Inv S → allOf ok l → S.shapes.length + sumOf size l ≤ 50000 → Goes S0 S → Goes S0 (addAll f S l).2
  | [], _, _, _, _, h => h
  | x :: l, S, hi, hok, hr, h => by
    have h1 := hf S x hi hok.1
    have h2 := h1.hi
    simp only [sumOf] at hr
    exact Goes.addAll hf hg l _ h1.inv hok.2 (by omega) (hg S x hi hok.1 (by omega) h)
theorem Goes.addM {S0 : WS} : ∀ (n : Nat) (S : WS) (t : Tm n), Inv S → Narrow n t → S.shapes.length + sizeT n t ≤ 50000 → Goes S0 S → Goes S0 (addM n S t).2
  | 0, _, _, _, h, _, _ => h.elim
  | n + 1, S, t, hi, hn, hr, h => by
    simp only [sizeT] at hr
    have h1 := Goes.addAll (addM_adds n) (fun S x => Goes.addM n S x) t.parts S hi hn.2.2 (by omega) h
    obtain ⟨⟨b1, b2, b3, b4, b5, b6, b7⟩, hl⟩ := addAll_adds (addM_adds n) t.parts S hi hn.2.2
    unfold Go.Proofs.YtmfkpllnmmfpiaaGreatDoor.addM
    simp only
    split
    · exact h1
    · rename_i hk
      obtain ⟨f1, f2⟩ := Fits.of b1 hn.1 (by rw [hl]; exact hn.2.1) b2 (by omega)
      exact h1.enter f1 f2 b1.len (by omega) hk

theorem classAt_set {S : WS} {i t : Nat} (h : i < S.classes.length) : (S.classes.set i t).set i (classAt S i) = S.classes := by
  rw [List.set_set]
  unfold classAt
  rw [List.getD_eq_getElem?_getD, List.getElem?_eq_getElem h]
  simp
theorem Goes.moveTo {S0 S : WS} (h : Goes S0 S) (f t : Nat) : ∀ i, i ≤ S.classes.length → Goes S0 (moveTo S f t i)
  | 0, _ => h
  | i + 1, hi => by
    have h1 := Goes.moveTo h f t i (by omega)
    have hl := (moveTo_rows S f t i).1
    unfold Go.Proofs.YtmfkpllnmmfpiaaGreatDoor.moveTo
    simp only
    split
    · rename_i he
      refine h1.step rfl (.inr (.inr (.inr ⟨rfl, by simp; omega⟩))) ?_
      simp only [undo1, if_neg (by decide : ¬ (3 : Nat) = 0), if_neg (by decide : ¬ (3 : Nat) = 1), if_neg (by decide : ¬ (3 : Nat) = 2)]
      have hcs := classAt_set (S := Go.Proofs.YtmfkpllnmmfpiaaGreatDoor.moveTo S f t i) (i := i) (t := t) (by omega)
      rw [he] at hcs
      rw [hcs]
    · exact h1
theorem Goes.move {S0 S : WS} (h : Goes S0 S) (f t : Nat) : Goes S0 (moveM S f t) := h.moveTo f t _ (Nat.le_refl _)
theorem Goes.twinsTo {S0 S : WS} (h : Goes S0 S) (hfit : ∀ i, i < S.shapes.length → Fits S (shapeAt S i)) : ∀ i, i ≤ S.shapes.length → Goes S0 (twinsTo S i).2
  | 0, _ => h
  | i + 1, hi => by
    have h1 := Goes.twinsTo h hfit i (by omega)
    exact h1.file ((hfit i (by omega)).same (twinsTo_same S i).classes) i
theorem Goes.twins {S0 S : WS} (h : Goes S0 S) (hfit : ∀ i, i < S.shapes.length → Fits S (shapeAt S i)) : Goes S0 (twinsM S).2 := h.twinsTo hfit _ (Nat.le_refl _)
end Go.Proofs.YtmfkpllnmmfpiaaGreatDoor

/-
  Plain: 'join', and what it does: the law of the classes.
-/
namespace Go.Proofs.YtmfkpllnmmfpiaaGreatDoor
open Go.RowKit

/-- One pair after the other: their classes become one, and then those of their twins. -/
def joinF : Nat → List (Nat × Nat) → WS → WS
  | 0, _, S => S
  | _ + 1, [], S => S
  | k + 1, p :: ps, S =>
    if classAt S p.1 = classAt S p.2 then joinF k ps S
    else joinF k (ps ++ (twinsM (moveM S (classAt S p.2) (classAt S p.1))).1) (twinsM (moveM S (classAt S p.2) (classAt S p.1))).2

/-- How many of the first m terms stand for their class. -/
def reps (S : WS) : Nat → Nat
  | 0 => 0
  | i + 1 => reps S i + if classAt S i = i then 1 else 0
theorem reps_le (S : WS) : ∀ m, reps S m ≤ m
  | 0 => Nat.le_refl _
  | i + 1 => by have := reps_le S i; unfold reps; split <;> omega
theorem reps_congr {S T : WS} : ∀ m, (∀ i, i < m → (classAt S i = i ↔ classAt T i = i)) → reps S m = reps T m
  | 0, _ => rfl
  | i + 1, h => by
    have h1 := reps_congr (S := S) (T := T) i (fun j hj => h j (by omega))
    have h2 := h i (by omega)
    unfold reps
    rw [h1]
    by_cases e : classAt S i = i
    · rw [if_pos e, if_pos (h2.1 e)]
    · rw [if_neg e, if_neg (fun e' => e (h2.2 e'))]
theorem reps_less {S T : WS} {a : Nat} (ha : classAt S a = a) (hb : ¬ classAt T a = a) : ∀ m, a < m → (∀ i, i < m → i ≠ a → (classAt S i = i ↔ classAt T i = i)) → reps T m + 1 = reps S m
  | 0, h, _ => by omega
  | i + 1, hm, h => by
    by_cases e : i = a
    · subst e
      have h1 := reps_congr (S := S) (T := T) i (fun j hj => h j (by omega) (by omega))
      unfold reps
      rw [h1, if_pos ha, if_neg hb]
    · have h1 := reps_less ha hb i (by omega) (fun j hj hne => h j (by omega) hne)
      have h2 := h i (by omega) e
      unfold reps
      by_cases e' : classAt S i = i
      · rw [if_pos e', if_pos (h2.1 e')]; omega
      · rw [if_neg e', if_neg (fun e'' => e' (h2.2 e''))]; omega

/-- A relation that is closed: an equivalence, what is said to be equal, what has the same name and related parts. -/
structure Closed (S : WS) (R : Nat → Nat → Prop) : Prop where
  refl : ∀ i, R i i
  symm : ∀ i j, R i j → R j i
  trans : ∀ i j k, R i j → R j k → R i k
  said : ∀ x ∈ S.said, x.1 = 0 → R x.2.1 x.2.2
  cong : ∀ (i j : Nat) (s t : Sh), S.shapes[i]? = some s → S.shapes[j]? = some t → s.1 = t.1 → s.2.1 = t.2.1 → (∀ k, k < s.2.1 → R (partAt s k) (partAt t k)) → R i j
theorem Closed.mono {S T : WS} {R : Nat → Nat → Prop} (h : Closed T R) (hs : ∀ (i : Nat) (s : Sh), S.shapes[i]? = some s → T.shapes[i]? = some s) (hd : ∀ x ∈ S.said, x ∈ T.said) : Closed S R :=
  ⟨h.refl, h.symm, h.trans, fun x hx => h.said x (hd x hx), fun i j s t hi hj => h.cong i j s t (hs i s hi) (hs j t hj)⟩

/-- A shape that may stand at place i. -/
structure ShOK (i : Nat) (s : Sh) : Prop where
  name : s.1.size ≤ 1000
  count : s.2.1 ≤ 3
  part : ∀ j, j < s.2.1 → partAt s j < i
  rest : ∀ j, s.2.1 ≤ j → j < 3 → partAt s j = 0

/-- What always holds of a Web: its rows in order, and all that is drawn is rightly drawn. -/
structure Base (S : WS) : Prop where
  inv : Inv S
  good : ∀ (i : Nat) (s : Sh), S.shapes[i]? = some s → ShOK i s
  num : ∀ (s : Sh) (i : Nat), S.numbers s = some i ↔ S.shapes[i]? = some s
  rep : ∀ i, i < S.classes.length → classAt S (classAt S i) = classAt S i
  saidLt : ∀ x ∈ S.said, x.2.1 < S.classes.length ∧ x.2.2 < S.classes.length
  cls : ∀ R, Closed S R → ∀ i, i < S.classes.length → R i (classAt S i)
  alk : ∀ R, Closed S R → ∀ k t, S.alike k = some t → ∃ s, S.shapes[t]? = some s ∧ s.1 = k.1 ∧ s.2.1 = k.2.1 ∧ ∀ j, j < s.2.1 → R (partAt s j) (partAt k j)

/-- And, where nothing is left to be joined. -/
structure Web (S : WS) : Prop where
  base : Base S
  eqs : ∀ x ∈ S.said, x.1 = 0 → classAt S x.2.1 = classAt S x.2.2
  stable : ∀ (i : Nat) (s : Sh), S.shapes[i]? = some s → ∃ t, S.alike (keyOfSh S s) = some t ∧ classAt S t = classAt S i

theorem Sh.ext' {s t : Sh} (h0 : s.1 = t.1) (h1 : s.2.1 = t.2.1) (h : ∀ j, j < 3 → partAt s j = partAt t j) : s = t := by
  obtain ⟨a, b, c, d, e⟩ := s
  obtain ⟨a', b', c', d', e'⟩ := t
  have h2 := h 0 (by omega)
  have h3 := h 1 (by omega)
  have h4 := h 2 (by omega)
  simp [partAt] at h0 h1 h2 h3 h4
  subst h0 h1 h2 h3 h4
  rfl
theorem keyTo_part (S : WS) (s : Sh) : ∀ (m j : Nat), m ≤ 3 → j < m → partAt (keyTo S s m) j = classAt S (partAt s j)
  | 0, _, _, h => by omega
  | m + 1, j, hm, hj => by
    unfold keyTo
    by_cases e : m = j
    · subst e
      exact setPart_same
    · rw [setPart_other (by omega) (by omega) e]
      exact keyTo_part S s m j (by omega) (by omega)
theorem key_part {S : WS} {s : Sh} (hs : s.2.1 ≤ 3) {j : Nat} (hj : j < s.2.1) : partAt (keyOfSh S s) j = classAt S (partAt s j) := keyTo_part S s _ j hs hj
theorem key_rest {S : WS} {s : Sh} {j : Nat} (hj : s.2.1 ≤ j) (h3 : j < 3) : partAt (keyOfSh S s) j = partAt s j := keyTo_later S s _ j hj h3
theorem key_name {S : WS} {s : Sh} : (keyOfSh S s).1 = s.1 ∧ (keyOfSh S s).2.1 = s.2.1 := keyTo_name S s _
/-- Two shapes have one key just if their parts' classes are the same. -/
theorem key_eq {S : WS} {s t : Sh} {i j : Nat} (hs : ShOK i s) (ht : ShOK j t) (h0 : s.1 = t.1) (h1 : s.2.1 = t.2.1) (h : ∀ k, k < s.2.1 → classAt S (partAt s k) = classAt S (partAt t k)) : keyOfSh S s = keyOfSh S t := by
  refine Sh.ext' (by rw [key_name.1, key_name.1, h0]) (by rw [key_name.2, key_name.2, h1]) fun k hk => ?_
  by_cases hc : k < s.2.1
  · rw [key_part hs.count hc, key_part ht.count (by omega), h k hc]
  · rw [key_rest (by omega) hk, key_rest (by omega) hk, hs.rest k (by omega) hk, ht.rest k (by omega) hk]
theorem key_classes {S T : WS} {s : Sh} (hs : s.2.1 ≤ 3) (h : ∀ k, k < s.2.1 → classAt S (partAt s k) = classAt T (partAt s k)) : keyOfSh S s = keyOfSh T s := by
  refine Sh.ext' (by rw [key_name.1, key_name.1]) (by rw [key_name.2, key_name.2]) fun k hk => ?_
  by_cases hc : k < s.2.1
  · rw [key_part hs hc, key_part hs hc, h k hc]
  · rw [key_rest (by omega) hk, key_rest (by omega) hk]

/-- What is equal by a Web's classes is just what every closed relation relates. -/
theorem Web.closed {S : WS} (h : Web S) : Closed S (fun i j => i = j ∨ (i < S.classes.length ∧ j < S.classes.length ∧ classAt S i = classAt S j)) := by
  refine ⟨fun i => .inl rfl, fun i j e => ?_, fun i j k e f => ?_, fun x hx h0 => ?_, fun i j s t hi hj h0 h1 hp => ?_⟩
  · rcases e with e | ⟨a, b, c⟩
    · exact .inl e.symm
    · exact .inr ⟨b, a, c.symm⟩
  · rcases e with rfl | ⟨a, b, c⟩
    · exact f
    · rcases f with rfl | ⟨a', b', c'⟩
      · exact .inr ⟨a, b, c⟩
      · exact .inr ⟨a, b', c.trans c'⟩
  · obtain ⟨a, b⟩ := h.base.saidLt x hx
    exact .inr ⟨a, b, h.eqs x hx h0⟩
  · obtain ⟨ti, e1, e2⟩ := h.stable i s hi
    obtain ⟨tj, f1, f2⟩ := h.stable j t hj
    have hk : keyOfSh S s = keyOfSh S t := key_eq (h.base.good i s hi) (h.base.good j t hj) h0 h1 (fun k hk => by
      rcases hp k hk with e | ⟨_, _, e⟩
      · rw [e]
      · exact e)
    rw [hk, f1] at e1
    cases e1
    have hli := (List.getElem?_eq_some_iff.1 hi).1
    have hlj := (List.getElem?_eq_some_iff.1 hj).1
    have hlen := h.base.inv.len
    exact .inr ⟨by omega, by omega, e2.symm.trans f2⟩
theorem Web.eq_iff {S : WS} (h : Web S) {i j : Nat} (hi : i < S.classes.length) (hj : j < S.classes.length) : classAt S i = classAt S j ↔ ∀ R, Closed S R → R i j := by
  constructor
  · intro e R hR
    have h1 := h.base.cls R hR i hi
    have h2 := h.base.cls R hR j hj
    rw [e] at h1
    exact hR.trans _ _ _ h1 (hR.symm _ _ h2)
  · intro hall
    rcases hall _ h.closed with e | ⟨_, _, e⟩
    · rw [e]
    · exact e
end Go.Proofs.YtmfkpllnmmfpiaaGreatDoor

/-
  Plain: each step keeps what holds of a Web: a term entered, a sentence noted, a class moved, twins filed.
-/
namespace Go.Proofs.YtmfkpllnmmfpiaaGreatDoor
open Go.RowKit

theorem key_same {S T : WS} (h : S.classes = T.classes) (s : Sh) : keyOfSh S s = keyOfSh T s := by
  have : ∀ m, keyTo S s m = keyTo T s m := fun m => by
    induction m with
    | zero => rfl
    | succ m ih => unfold keyTo classAt; rw [ih, h]
  exact this _
theorem classAt_same {S T : WS} (h : S.classes = T.classes) (i : Nat) : classAt S i = classAt T i := by unfold classAt; rw [h]

theorem getElem?_snoc_lt {α : Type} {l : List α} {x y : α} {i : Nat} (h : (l ++ [x])[i]? = some y) : (i < l.length ∧ l[i]? = some y) ∨ (i = l.length ∧ y = x) := by
  by_cases hi : i < l.length
  · rw [List.getElem?_append_left hi] at h
    exact .inl ⟨hi, h⟩
  · rw [List.getElem?_append_right (by omega)] at h
    by_cases h0 : i - l.length = 0
    · rw [h0] at h
      simp at h
      exact .inr ⟨by omega, h.symm⟩
    · rw [List.getElem?_eq_none (by simp; omega)] at h
      cases h

theorem ShOK.mono {i j : Nat} {s : Sh} (h : ShOK i s) (hij : i ≤ j) : ShOK j s := ⟨h.name, h.count, fun k hk => Nat.lt_of_lt_of_le (h.part k hk) hij, h.rest⟩

theorem Base.lt {S : WS} (h : Base S) {i : Nat} {s : Sh} (hi : S.shapes[i]? = some s) : i < S.classes.length := by
  have := (List.getElem?_eq_some_iff.1 hi).1
  have := h.inv.len
  omega

/-- A shape is found by 'file' where a term of that key is filed. -/
theorem fileM_some {S : WS} {s : Sh} {n t : Nat} (h : S.alike (keyOfSh S s) = some t) : fileM S s n = (t, S) := by unfold fileM; rw [h]
theorem fileM_none {S : WS} {s : Sh} {n : Nat} (h : S.alike (keyOfSh S s) = none) : fileM S s n = (n, { S with alike := setF S.alike (keyOfSh S s) (some n), files := S.files + 1, trail := S.trail ++ [⟨2, keyOfSh S s, 0, 0⟩] }) := by unfold fileM; rw [h]

/-- A term entered, plainly: with a twin or without. -/
theorem enterM_twin {S : WS} {s : Sh} {t : Nat} (h : S.alike (keyOfSh S s) = some t) (ht : t < S.shapes.length) :
    enterM S s = (S.shapes.length, { S with shapes := S.shapes ++ [s], classes := S.classes ++ [classAt S t], numbers := setF S.numbers s (some S.shapes.length), nums := S.nums + 1, trail := S.trail ++ [⟨1, s, S.shapes.length, 0⟩] }) := by
  unfold enterM
  simp only [fileM_some h]
  rw [if_neg (by omega)]
theorem enterM_alone {S : WS} {s : Sh} (h : S.alike (keyOfSh S s) = none) :
    enterM S s = (S.shapes.length, { S with shapes := S.shapes ++ [s], classes := S.classes ++ [S.shapes.length], numbers := setF S.numbers s (some S.shapes.length), nums := S.nums + 1, alike := setF S.alike (keyOfSh S s) (some S.shapes.length), files := S.files + 1, trail := S.trail ++ [⟨2, keyOfSh S s, 0, 0⟩] ++ [⟨1, s, S.shapes.length, 0⟩] }) := by
  unfold enterM
  simp only [fileM_none h, if_true]

theorem classAt_snoc_lt {S S' : WS} {c i : Nat} (h : S'.classes = S.classes ++ [c]) (hi : i < S.classes.length) : classAt S' i = classAt S i := by
  unfold classAt
  rw [h]
  simp [List.getD_eq_getElem?_getD, List.getElem?_append_left hi]
theorem classAt_snoc_eq {S S' : WS} {c : Nat} (h : S'.classes = S.classes ++ [c]) : classAt S' S.classes.length = c := by
  unfold classAt
  rw [h]
  simp [List.getD_eq_getElem?_getD]

/-- Entering, seen from outside. -/
structure Entered (S : WS) (s : Sh) (c : Nat) (S' : WS) : Prop where
  shapes : S'.shapes = S.shapes ++ [s]
  classes : S'.classes = S.classes ++ [c]
  numbers : S'.numbers = setF S.numbers s (some S.shapes.length)
  said : S'.said = S.said
  how : (∃ t, S.alike (keyOfSh S s) = some t ∧ c = classAt S t ∧ S'.alike = S.alike) ∨ (S.alike (keyOfSh S s) = none ∧ c = S.shapes.length ∧ S'.alike = setF S.alike (keyOfSh S s) (some S.shapes.length))
theorem Inv.entered {S : WS} (h : Inv S) (s : Sh) : ∃ c, Entered S s c (enterM S s).2 := by
  cases hk : S.alike (keyOfSh S s) with
  | none => rw [enterM_alone hk]; exact ⟨S.shapes.length, rfl, rfl, rfl, rfl, .inr ⟨hk, rfl, rfl⟩⟩
  | some t => rw [enterM_twin hk (h.al _ _ hk)]; exact ⟨classAt S t, rfl, rfl, rfl, rfl, .inl ⟨t, hk, rfl, rfl⟩⟩

theorem Base.key_rel {S : WS} (_h : Base S) {R : Nat → Nat → Prop} (hR : ∀ i, i < S.classes.length → R i (classAt S i)) {s : Sh} {i : Nat} (hs : ShOK i s) (hi : i ≤ S.classes.length) : ∀ j, j < s.2.1 → R (partAt s j) (partAt (keyOfSh S s) j) := fun j hj => by
  rw [key_part hs.count hj]
  exact hR _ (Nat.lt_of_lt_of_le (hs.part j hj) hi)

theorem Base.enter {S : WS} (h : Base S) {s : Sh} (hs : ShOK S.shapes.length s) (hn : S.numbers s = none) : Base (enterM S s).2 := by
  obtain ⟨c, E⟩ := h.inv.entered s
  have hI := (h.inv.enter s).1
  generalize (enterM S s).2 = S' at *
  have hlen := h.inv.len
  have lt : ∀ i, i < S.classes.length → classAt S' i = classAt S i := fun i hi => classAt_snoc_lt E.classes hi
  have eq : classAt S' S.classes.length = c := classAt_snoc_eq E.classes
  have hl' : S'.classes.length = S.classes.length + 1 := by rw [E.classes]; simp
  have sub : ∀ (i : Nat) (t : Sh), S.shapes[i]? = some t → S'.shapes[i]? = some t := fun i t hi => by
    rw [E.shapes, List.getElem?_append_left (List.getElem?_eq_some_iff.1 hi).1]; exact hi
  have last : S'.shapes[S.shapes.length]? = some s := by rw [E.shapes]; simp
  have clt : ∀ i, i < S.classes.length → classAt S i < S.classes.length := fun i hi => h.inv.class_lt i (by omega)
  have hcls : ∀ R, Closed S' R → ∀ i, i < S.classes.length → R i (classAt S i) := fun R hR i hi => h.cls R (hR.mono sub (by rw [E.said]; exact fun x hx => hx)) i hi
  have halk : ∀ R, Closed S' R → ∀ k t, S.alike k = some t → ∃ s, S.shapes[t]? = some s ∧ s.1 = k.1 ∧ s.2.1 = k.2.1 ∧ ∀ j, j < s.2.1 → R (partAt s j) (partAt k j) := fun R hR => h.alk R (hR.mono sub (by rw [E.said]; exact fun x hx => hx))
  refine ⟨hI, fun i t hi => ?_, fun t i => ?_, fun i hi => ?_, fun x hx => ?_, fun R hR i hi => ?_, fun R hR k t hk => ?_⟩
  · rw [E.shapes] at hi
    rcases getElem?_snoc_lt hi with ⟨_, h1⟩ | ⟨rfl, rfl⟩
    · exact h.good i t h1
    · exact hs
  · rw [E.numbers, E.shapes]
    unfold setF
    by_cases e : t = s
    · subst e
      rw [if_pos rfl]
      constructor
      · intro h1; cases h1; simp
      · intro h1
        rcases getElem?_snoc_lt h1 with ⟨_, h2⟩ | ⟨rfl, _⟩
        · have := (h.num t i).2 h2; rw [hn] at this; cases this
        · rfl
    · rw [if_neg e]
      constructor
      · intro h1
        have h2 := (h.num t i).1 h1
        rw [List.getElem?_append_left (List.getElem?_eq_some_iff.1 h2).1]; exact h2
      · intro h1
        rcases getElem?_snoc_lt h1 with ⟨_, h2⟩ | ⟨_, h2⟩
        · exact (h.num t i).2 h2
        · exact absurd h2 e
  · rw [hl'] at hi
    by_cases e : i < S.classes.length
    · rw [lt i e, lt _ (clt i e)]
      exact h.rep i e
    · obtain rfl : i = S.classes.length := by omega
      rw [eq]
      rcases E.how with ⟨t, h1, rfl, _⟩ | ⟨_, rfl, _⟩
      · have ht : t < S.classes.length := by have := h.inv.al _ _ h1; omega
        rw [lt _ (clt t ht)]
        exact h.rep t ht
      · rw [hlen]; exact eq.trans hlen
  · rw [E.said] at hx
    have := h.saidLt x hx
    rw [hl']
    omega
  · rw [hl'] at hi
    by_cases e : i < S.classes.length
    · rw [lt i e]
      exact hcls R hR i e
    · obtain rfl : i = S.classes.length := by omega
      rw [eq]
      rcases E.how with ⟨t, h1, rfl, _⟩ | ⟨_, rfl, _⟩
      · have ht : t < S.classes.length := by have := h.inv.al _ _ h1; omega
        obtain ⟨st, g1, g2, g3, g4⟩ := halk R hR _ _ h1
        refine hR.trans _ _ _ (hR.symm _ _ ?_) (hcls R hR t ht)
        refine hR.cong t _ st s (sub t st g1) (by rw [← hlen]; exact last) (by rw [g2, key_name.1]) (by rw [g3, key_name.2]) fun k hk => ?_
        have hk' : k < s.2.1 := by rw [g3, key_name.2] at hk; exact hk
        exact hR.trans _ _ _ (g4 k hk) (hR.symm _ _ (h.key_rel (hcls R hR) hs (by omega) k hk'))
      · rw [hlen]; exact hR.refl _
  · rcases E.how with ⟨_, _, _, h3⟩ | ⟨_, _, h3⟩
    · rw [h3] at hk
      obtain ⟨st, g1, g2⟩ := halk R hR k t hk
      exact ⟨st, sub t st g1, g2⟩
    · rw [h3] at hk
      unfold setF at hk
      split at hk
      · rename_i e
        cases hk
        refine ⟨s, last, by rw [e, key_name.1], by rw [e, key_name.2], fun j hj => ?_⟩
        rw [e]
        exact h.key_rel (hcls R hR) hs (by omega) j hj
      · obtain ⟨st, g1, g2⟩ := halk R hR k t hk
        exact ⟨st, sub t st g1, g2⟩

theorem Web.enter {S : WS} (h : Web S) {s : Sh} (hs : ShOK S.shapes.length s) (hn : S.numbers s = none) : Web (enterM S s).2 := by
  have hB := h.base.enter hs hn
  obtain ⟨c, E⟩ := h.base.inv.entered s
  generalize (enterM S s).2 = S' at *
  have hlen := h.base.inv.len
  have lt : ∀ i, i < S.classes.length → classAt S' i = classAt S i := fun i hi => classAt_snoc_lt E.classes hi
  have eq : classAt S' S.classes.length = c := classAt_snoc_eq E.classes
  have hkey : ∀ i t, ShOK i t → i ≤ S.classes.length → keyOfSh S' t = keyOfSh S t := fun i t ht hi => key_classes ht.count fun k hk => lt _ (Nat.lt_of_lt_of_le (ht.part k hk) hi)
  refine ⟨hB, fun x hx h0 => ?_, fun i t hi => ?_⟩
  · rw [E.said] at hx
    obtain ⟨a, b⟩ := h.base.saidLt x hx
    rw [lt _ a, lt _ b]
    exact h.eqs x hx h0
  · rw [E.shapes] at hi
    rcases getElem?_snoc_lt hi with ⟨hil, h1⟩ | ⟨rfl, rfl⟩
    · obtain ⟨u, g1, g2⟩ := h.stable i t h1
      have hu : u < S.classes.length := by have := h.base.inv.al _ _ g1; omega
      rw [hkey i t (h.base.good i t h1) (by omega), lt i (by omega)]
      refine ⟨u, ?_, by rw [lt u hu]; exact g2⟩
      rcases E.how with ⟨_, _, _, h3⟩ | ⟨h4, _, h3⟩
      · rw [h3]; exact g1
      · rw [h3]
        unfold setF
        rw [if_neg (fun e => by rw [e, h4] at g1; cases g1)]
        exact g1
    · rw [hkey _ t hs (by omega)]
      have eq' : classAt S' S.shapes.length = c := by rw [hlen]; exact eq
      rcases E.how with ⟨u, h4, h5, h3⟩ | ⟨h4, h5, h3⟩
      · have hu : u < S.classes.length := by have := h.base.inv.al _ _ h4; omega
        exact ⟨u, by rw [h3]; exact h4, by rw [eq', lt u hu, h5]⟩
      · exact ⟨S.shapes.length, by rw [h3]; simp [setF], rfl⟩

/-- A sentence noted. -/
def noteM (S : WS) (x : Nat × Nat × Nat) : WS := { S with said := S.said ++ [x], trail := S.trail ++ [⟨0, (⟨#[]⟩, 0, 0, 0, 0), 0, 0⟩] }
theorem Base.note {S : WS} (h : Base S) {x : Nat × Nat × Nat} (h1 : x.2.1 < S.classes.length) (h2 : x.2.2 < S.classes.length) : Base (noteM S x) := by
  have sub : ∀ R, Closed (noteM S x) R → Closed S R := fun R hR => hR.mono (fun _ _ hi => hi) (fun y hy => by simp [noteM, hy])
  exact ⟨⟨h.inv.len, h.inv.nums, h.inv.cl, h.inv.al, h.inv.nu⟩, h.good, h.num, h.rep, fun y hy => by
    simp only [noteM, List.mem_append, List.mem_singleton] at hy
    rcases hy with hy | rfl
    · exact h.saidLt y hy
    · exact ⟨h1, h2⟩, fun R hR => h.cls R (sub R hR), fun R hR => h.alk R (sub R hR)⟩
theorem Web.note_unequal {S : WS} (h : Web S) {x : Nat × Nat × Nat} (h0 : x.1 ≠ 0) (h1 : x.2.1 < S.classes.length) (h2 : x.2.2 < S.classes.length) : Web (noteM S x) :=
  ⟨h.base.note h1 h2, fun y hy hz => by
    simp only [noteM, List.mem_append, List.mem_singleton] at hy
    rcases hy with hy | rfl
    · exact h.eqs y hy hz
    · exact absurd hz h0, fun i s hi => by
    obtain ⟨t, g1, g2⟩ := h.stable i s hi
    exact ⟨t, by rw [key_same (S := noteM S x) (T := S) rfl]; exact g1, g2⟩⟩

theorem moveTo_class (S : WS) (f t : Nat) : ∀ j i, i < S.classes.length → classAt (moveTo S f t j) i = if i < j ∧ classAt S i = f then t else classAt S i
  | 0, i, _ => by simp [moveTo]
  | j + 1, i, hi => by
    have h1 := moveTo_class S f t j i hi
    have hl := (moveTo_rows S f t j).1
    unfold moveTo
    simp only
    by_cases e : i = j
    · subst e
      rw [if_neg (by omega)] at h1
      rw [h1]
      by_cases hf : classAt S i = f
      · rw [if_pos hf, if_pos ⟨by omega, hf⟩]
        unfold classAt
        simp [List.getD_eq_getElem?_getD, hl, hi]
      · rw [if_neg hf, if_neg (fun e => hf e.2), h1]
    · have h2 : (if i < j + 1 ∧ classAt S i = f then t else classAt S i) = (if i < j ∧ classAt S i = f then t else classAt S i) := by
        by_cases hc : i < j
        · simp [hc, Nat.lt_succ_of_lt hc]
        · rw [if_neg (fun e' => by omega), if_neg (fun e' => hc e'.1)]
      rw [h2, ← h1]
      split
      · unfold classAt
        simp [List.getD_eq_getElem?_getD, List.getElem?_set_ne (Ne.symm e)]
      · rfl
theorem moveM_class {S : WS} {f t i : Nat} (hi : i < S.classes.length) : classAt (moveM S f t) i = if classAt S i = f then t else classAt S i := by
  unfold moveM
  rw [moveTo_class S f t _ i hi]
  simp [hi]
theorem Base.move {S : WS} (h : Base S) {a b : Nat} (ha : a < S.classes.length) (hb : b < S.classes.length) (hR : ∀ R, Closed S R → R a b) (hne : classAt S a ≠ classAt S b) : Base (moveM S (classAt S b) (classAt S a)) := by
  obtain ⟨r1, r2, r3, r4, r5, r6, r7, r8⟩ := moveTo_rows S (classAt S b) (classAt S a) S.classes.length
  have hm : ∀ i, i < S.classes.length → classAt (moveM S (classAt S b) (classAt S a)) i = if classAt S i = classAt S b then classAt S a else classAt S i := fun i hi => moveM_class hi
  change (moveM S (classAt S b) (classAt S a)).classes.length = _ at r1
  change (moveM S (classAt S b) (classAt S a)).shapes = _ at r2
  change (moveM S (classAt S b) (classAt S a)).numbers = _ at r3
  change (moveM S (classAt S b) (classAt S a)).alike = _ at r4
  change (moveM S (classAt S b) (classAt S a)).said = _ at r5
  change (moveM S (classAt S b) (classAt S a)).nums = _ at r6
  generalize moveM S (classAt S b) (classAt S a) = S' at *
  have clt : ∀ i, i < S.classes.length → classAt S i < S.classes.length := fun i hi => h.inv.class_lt i (by omega)
  have sub : ∀ R, Closed S' R → Closed S R := fun R hC => hC.mono (by rw [r2]; exact fun _ _ hi => hi) (by rw [r5]; exact fun _ hx => hx)
  refine ⟨⟨by rw [r2, r1]; exact h.inv.len, by rw [r6, r2]; exact h.inv.nums, fun c hc => ?_, by rw [r4, r2]; exact h.inv.al, by rw [r3, r2]; exact h.inv.nu⟩, by rw [r2]; exact h.good, by rw [r3, r2]; exact h.num, fun i hi => ?_, by rw [r5, r1]; exact h.saidLt, fun R hC i hi => ?_, fun R hC => by rw [r4, r2]; exact h.alk R (sub R hC)⟩
  · obtain ⟨i, hi, rfl⟩ := List.getElem_of_mem hc
    have h1 : classAt S' i = S'.classes[i] := by unfold classAt; simp [List.getD_eq_getElem?_getD, hi]
    rw [← h1, r1, hm i (by omega)]
    split
    · exact clt a ha
    · exact clt i (by omega)
  · rw [r1] at hi
    rw [hm i hi]
    split
    · rw [hm _ (clt a ha), h.rep a ha, if_neg hne]
    · rename_i e
      rw [hm _ (clt i hi), h.rep i hi, if_neg e]
  · rw [r1] at hi
    rw [hm i hi]
    have hc := sub R hC
    split
    · rename_i e
      have h1 := h.cls R hc i hi
      rw [e] at h1
      exact hC.trans _ _ _ (hC.trans _ _ _ h1 (hC.symm _ _ (h.cls R hc b hb))) (hC.trans _ _ _ (hC.symm _ _ (hR R hc)) (h.cls R hc a ha))
    · exact h.cls R hc i hi
/-- One class fewer. -/
theorem Base.move_reps {S : WS} (h : Base S) {a b : Nat} (ha : a < S.classes.length) (hb : b < S.classes.length) (hne : classAt S a ≠ classAt S b) : reps (moveM S (classAt S b) (classAt S a)) S.classes.length + 1 = reps S S.classes.length := by
  have clt : ∀ i, i < S.classes.length → classAt S i < S.classes.length := fun i hi => h.inv.class_lt i (by omega)
  refine reps_less (a := classAt S b) (h.rep b hb) ?_ _ (clt b hb) fun i hi hia => ?_
  · rw [moveM_class (clt b hb), if_pos (h.rep b hb)]
    exact hne
  · rw [moveM_class hi]
    split
    · rename_i e
      constructor
      · intro e'; exact absurd (e'.symm.trans e) hia
      · intro e'
        have := h.rep a ha
        rw [e', e] at this
        exact absurd this.symm hia
    · exact Iff.rfl
theorem move_merges {S : WS} {f t i j : Nat} (hi : i < S.classes.length) (hj : j < S.classes.length) (h : classAt S i = classAt S j) : classAt (moveM S f t) i = classAt (moveM S f t) j := by
  rw [moveM_class hi, moveM_class hj, h]
end Go.Proofs.YtmfkpllnmmfpiaaGreatDoor

/-
  Plain: twins, and 'join' as a whole.
-/
namespace Go.Proofs.YtmfkpllnmmfpiaaGreatDoor
open Go.RowKit

/-- What holds behind the first i terms of 'twins'. -/
structure TwinsAt (S : WS) (i : Nat) (ps : List (Nat × Nat)) (T : WS) : Prop where
  same : Same S T i
  keep : ∀ k t, S.alike k = some t → T.alike k = some t
  base : Base T
  pairs : ∀ p ∈ ps, p.1 < S.classes.length ∧ p.2 < S.classes.length ∧ ∀ R, Closed S R → R p.1 p.2
  done : ∀ (j : Nat) (s : Sh), j < i → S.shapes[j]? = some s → ∃ t, T.alike (keyOfSh S s) = some t ∧ (classAt S t = classAt S j ∨ (t, j) ∈ ps)

theorem shapeAt_some {S : WS} {i : Nat} (hi : i < S.shapes.length) : S.shapes[i]? = some (shapeAt S i) := by
  unfold shapeAt
  rw [List.getD_eq_getElem?_getD, List.getElem?_eq_getElem hi]
  rfl

theorem Base.filed {T : WS} (h : Base T) {s : Sh} {i : Nat} (hi : T.shapes[i]? = some s) (hk : T.alike (keyOfSh T s) = none) : Base (fileM T s i).2 := by
  rw [fileM_none hk]
  have hl := h.lt hi
  have sub : ∀ R, Closed { T with alike := setF T.alike (keyOfSh T s) (some i), files := T.files + 1, trail := T.trail ++ [⟨2, keyOfSh T s, 0, 0⟩] } R → Closed T R := fun R hR => hR.mono (fun _ _ e => e) (fun _ e => e)
  refine ⟨⟨h.inv.len, h.inv.nums, h.inv.cl, fun k t hkt => ?_, h.inv.nu⟩, h.good, h.num, h.rep, h.saidLt, fun R hR => h.cls R (sub R hR), fun R hR k t hkt => ?_⟩
  · simp only [setF] at hkt
    split at hkt
    · cases hkt; exact (List.getElem?_eq_some_iff.1 hi).1
    · exact h.inv.al k t hkt
  · simp only [setF] at hkt
    split at hkt
    · rename_i e
      cases hkt
      refine ⟨s, hi, by rw [e, key_name.1], by rw [e, key_name.2], fun j hj => ?_⟩
      rw [e]
      exact h.key_rel (h.cls R (sub R hR)) (h.good i s hi) (by omega) j hj
    · exact h.alk R (sub R hR) k t hkt

theorem twinsTo_at {S : WS} (h : Base S) : ∀ i, i ≤ S.shapes.length → TwinsAt S i (twinsTo S i).1 (twinsTo S i).2
  | 0, _ => ⟨twinsTo_same S 0, fun _ _ h => h, h, fun p hp => by simp [twinsTo] at hp, fun j _ hj => by omega⟩
  | i + 1, hi => by
    have ih := twinsTo_at h i (by omega)
    have hs := shapeAt_some (S := S) (i := i) (by omega)
    have same := twinsTo_same S (i + 1)
    simp only [twinsTo] at same ⊢
    generalize hT : (twinsTo S i).2 = T at *
    generalize (twinsTo S i).1 = ps at *
    generalize shapeAt S i = s at *
    have hc := ih.same.classes
    have hkey : keyOfSh T s = keyOfSh S s := key_same hc s
    have hTs : T.shapes[i]? = some s := by rw [ih.same.shapes]; exact hs
    have hlen := h.inv.len
    have hCl : ∀ R, Closed S R → Closed T R := fun R hR => hR.mono (by rw [ih.same.shapes]; exact fun _ _ e => e) (by rw [ih.same.said]; exact fun _ e => e)
    cases hk : T.alike (keyOfSh T s) with
    | some t =>
      rw [fileM_some hk] at same ⊢
      simp only at same ⊢
      have ht : t < S.classes.length := by have := ih.base.inv.al _ _ hk; rw [ih.same.shapes] at this; omega
      have hrel : ∀ R, Closed S R → R t i := fun R hR => by
        obtain ⟨st, g1, g2, g3, g4⟩ := ih.base.alk R (hCl R hR) _ _ hk
        rw [ih.same.shapes] at g1
        refine hR.cong t i st s g1 hs (by rw [g2, key_name.1]) (by rw [g3, key_name.2]) fun k hk' => ?_
        have hk2 : k < s.2.1 := by rw [g3, key_name.2] at hk'; exact hk'
        exact hR.trans _ _ _ (g4 k hk') (hR.symm _ _ (ih.base.key_rel (ih.base.cls R (hCl R hR)) (h.good i s hs) (by rw [hc]; omega) k hk2))
      by_cases he : classAt S t = classAt S i
      · rw [if_pos he]
        refine ⟨same, ih.keep, ih.base, ih.pairs, fun j s' hj hs' => ?_⟩
        by_cases e : j < i
        · exact ih.done j s' e hs'
        · obtain rfl : j = i := by omega
          rw [hs] at hs'
          cases hs'
          exact ⟨t, by rw [← hkey]; exact hk, .inl he⟩
      · rw [if_neg he]
        refine ⟨same, ih.keep, ih.base, fun p hp => ?_, fun j s' hj hs' => ?_⟩
        · simp only [List.mem_append, List.mem_singleton] at hp
          rcases hp with hp | rfl
          · exact ih.pairs p hp
          · exact ⟨ht, by show i < _; omega, hrel⟩
        · by_cases e : j < i
          · obtain ⟨u, g1, g2⟩ := ih.done j s' e hs'
            exact ⟨u, g1, g2.imp id (fun g => List.mem_append_left _ g)⟩
          · obtain rfl : j = i := by omega
            rw [hs] at hs'
            cases hs'
            exact ⟨t, by rw [← hkey]; exact hk, .inr (by simp)⟩
    | none =>
      have hB := ih.base.filed hTs hk
      rw [fileM_none hk] at same hB ⊢
      simp only [if_true] at same hB ⊢
      refine ⟨same, fun k t hkt => ?_, hB, ih.pairs, fun j s' hj hs' => ?_⟩
      · simp only [setF]
        rw [if_neg (fun e => by have := ih.keep k t hkt; rw [e, hk] at this; cases this)]
        exact ih.keep k t hkt
      · simp only [setF]
        by_cases e : j < i
        · obtain ⟨u, g1, g2⟩ := ih.done j s' e hs'
          refine ⟨u, ?_, g2⟩
          rw [if_neg (fun e' => by rw [e', hk] at g1; cases g1)]
          exact g1
        · obtain rfl : j = i := by omega
          rw [hs] at hs'
          cases hs'
          exact ⟨j, by rw [hkey, if_pos rfl], .inl rfl⟩
theorem twinsM_at {S : WS} (h : Base S) : TwinsAt S S.shapes.length (twinsM S).1 (twinsM S).2 := twinsTo_at h _ (Nat.le_refl _)

/-- Where 'join' stands, with pairs that are still to be joined. -/
structure Joining (ps : List (Nat × Nat)) (S : WS) : Prop where
  base : Base S
  pairs : ∀ p ∈ ps, p.1 < S.classes.length ∧ p.2 < S.classes.length ∧ ∀ R, Closed S R → R p.1 p.2
  stable : ∀ (i : Nat) (s : Sh), S.shapes[i]? = some s → ∃ t, S.alike (keyOfSh S s) = some t ∧ (classAt S t = classAt S i ∨ ∃ p ∈ ps, classAt S p.1 = classAt S t ∧ classAt S p.2 = classAt S i)

/-- What a part of 'join' leaves as it is, and how far it goes. -/
structure Joined (S T : WS) : Prop where
  shapes : T.shapes = S.shapes
  numbers : T.numbers = S.numbers
  nums : T.nums = S.nums
  said : T.said = S.said
  clen : T.classes.length = S.classes.length
  merges : ∀ i j, i < S.classes.length → j < S.classes.length → classAt S i = classAt S j → classAt T i = classAt T j
  trail : T.trail.length + 1000 * reps T T.classes.length ≤ S.trail.length + 1000 * reps S S.classes.length
  files : T.files + 1000 * reps T T.classes.length ≤ S.files + 1000 * reps S S.classes.length
theorem Joined.refl (S : WS) : Joined S S := ⟨rfl, rfl, rfl, rfl, rfl, fun _ _ _ _ h => h, Nat.le_refl _, Nat.le_refl _⟩
theorem Joined.trans {S T U : WS} (h : Joined S T) (k : Joined T U) : Joined S U :=
  ⟨k.shapes.trans h.shapes, k.numbers.trans h.numbers, k.nums.trans h.nums, k.said.trans h.said, k.clen.trans h.clen, fun i j hi hj e => k.merges i j (by rw [h.clen]; exact hi) (by rw [h.clen]; exact hj) (h.merges i j hi hj e), Nat.le_trans k.trail h.trail, Nat.le_trans k.files h.files⟩

theorem Joining.skip {p : Nat × Nat} {ps : List (Nat × Nat)} {S : WS} (h : Joining (p :: ps) S) (he : classAt S p.1 = classAt S p.2) : Joining ps S := by
  refine ⟨h.base, fun q hq => h.pairs q (List.mem_cons_of_mem _ hq), fun i s hi => ?_⟩
  obtain ⟨t, h1, h2⟩ := h.stable i s hi
  refine ⟨t, h1, ?_⟩
  rcases h2 with h2 | ⟨q, hq, h3, h4⟩
  · exact .inl h2
  · simp only [List.mem_cons] at hq
    rcases hq with rfl | hq
    · exact .inl (h3.symm.trans (he.trans h4))
    · exact .inr ⟨q, hq, h3, h4⟩
theorem Joining.go {p : Nat × Nat} {ps : List (Nat × Nat)} {S : WS} (h : Joining (p :: ps) S) (he : classAt S p.1 ≠ classAt S p.2) (hn : S.classes.length ≤ 400) :
    Joining (ps ++ (twinsM (moveM S (classAt S p.2) (classAt S p.1))).1) (twinsM (moveM S (classAt S p.2) (classAt S p.1))).2 ∧ Joined S (twinsM (moveM S (classAt S p.2) (classAt S p.1))).2 ∧
      classAt (twinsM (moveM S (classAt S p.2) (classAt S p.1))).2 p.1 = classAt (twinsM (moveM S (classAt S p.2) (classAt S p.1))).2 p.2 ∧ (twinsM (moveM S (classAt S p.2) (classAt S p.1))).1.length ≤ S.classes.length ∧
      reps (twinsM (moveM S (classAt S p.2) (classAt S p.1))).2 S.classes.length + 1 = reps S S.classes.length ∧ Base (moveM S (classAt S p.2) (classAt S p.1)) := by
  obtain ⟨hp1, hp2, hpR⟩ := h.pairs p (List.mem_cons_self ..)
  have hB := h.base.move hp1 hp2 hpR he
  have hreps := h.base.move_reps hp1 hp2 he
  obtain ⟨r1, r2, r3, r4, r5, r6, r7, r8⟩ := moveTo_rows S (classAt S p.2) (classAt S p.1) S.classes.length
  change (moveM S (classAt S p.2) (classAt S p.1)).classes.length = _ at r1
  change (moveM S (classAt S p.2) (classAt S p.1)).shapes = _ at r2
  change (moveM S (classAt S p.2) (classAt S p.1)).numbers = _ at r3
  change (moveM S (classAt S p.2) (classAt S p.1)).said = _ at r5
  change (moveM S (classAt S p.2) (classAt S p.1)).nums = _ at r6
  change (moveM S (classAt S p.2) (classAt S p.1)).files = _ at r7
  change (moveM S (classAt S p.2) (classAt S p.1)).trail.length ≤ _ at r8
  have hmm : ∀ i j, i < S.classes.length → j < S.classes.length → classAt S i = classAt S j → classAt (moveM S (classAt S p.2) (classAt S p.1)) i = classAt (moveM S (classAt S p.2) (classAt S p.1)) j := fun i j hi hj e => move_merges hi hj e
  have hpp : classAt (moveM S (classAt S p.2) (classAt S p.1)) p.1 = classAt (moveM S (classAt S p.2) (classAt S p.1)) p.2 := by
    rw [moveM_class hp1, moveM_class hp2, if_neg he, if_pos rfl]
  generalize moveM S (classAt S p.2) (classAt S p.1) = M at *
  have hT := twinsM_at hB
  have hTl : (twinsM M).1.length ≤ M.shapes.length := twinsTo_length M _
  generalize (twinsM M).2 = T at *
  generalize (twinsM M).1 = qs at *
  have hcT := hT.same.classes
  have cA : ∀ i, classAt T i = classAt M i := fun i => classAt_same hcT i
  have hlen := h.base.inv.len
  have hlM := hB.inv.len
  have sub : ∀ R, Closed T R → Closed S R := fun R hR => hR.mono (by rw [hT.same.shapes, r2]; exact fun _ _ e => e) (by rw [hT.same.said, r5]; exact fun _ e => e)
  have subM : ∀ R, Closed T R → Closed M R := fun R hR => hR.mono (by rw [hT.same.shapes]; exact fun _ _ e => e) (by rw [hT.same.said]; exact fun _ e => e)
  have hrT : reps T S.classes.length = reps M S.classes.length := reps_congr _ fun i _ => by rw [cA]
  have htr := hT.same.trail
  have hfl := hT.same.files
  refine ⟨⟨hT.base, fun q hq => ?_, fun i s hi => ?_⟩, ⟨hT.same.shapes.trans r2, hT.same.numbers.trans r3, hT.same.nums.trans r6, hT.same.said.trans r5, by rw [hcT, r1], fun i j hi hj e => by rw [cA, cA]; exact hmm i j hi hj e, ?_, ?_⟩, by rw [cA, cA]; exact hpp, by omega, by omega, hB⟩
  · simp only [List.mem_append] at hq
    rw [hcT, r1]
    rcases hq with hq | hq
    · obtain ⟨a, b, c⟩ := h.pairs q (List.mem_cons_of_mem _ hq)
      exact ⟨a, b, fun R hR => c R (sub R hR)⟩
    · obtain ⟨a, b, c⟩ := hT.pairs q hq
      exact ⟨by omega, by omega, fun R hR => c R (subM R hR)⟩
  · rw [hT.same.shapes] at hi
    have hil := (List.getElem?_eq_some_iff.1 hi).1
    obtain ⟨t, g1, g2⟩ := hT.done i s hil hi
    refine ⟨t, by rw [key_same hcT]; exact g1, ?_⟩
    rw [cA, cA]
    rcases g2 with g2 | g2
    · exact .inl g2
    · exact .inr ⟨(t, i), List.mem_append_right _ g2, by rw [cA], by rw [cA]⟩
  · rw [hcT, r1]; omega
  · rw [hcT, r1]; omega

/-- 'join' as a whole. -/
structure JoinEnd (ps : List (Nat × Nat)) (S T : WS) : Prop where
  base : Base T
  stable : ∀ (i : Nat) (s : Sh), T.shapes[i]? = some s → ∃ t, T.alike (keyOfSh T s) = some t ∧ classAt T t = classAt T i
  joined : Joined S T
  pairs : ∀ p ∈ ps, classAt T p.1 = classAt T p.2
def need (ps : List (Nat × Nat)) (S : WS) : Nat := reps S S.classes.length * (S.classes.length + 1) + ps.length + 1
theorem need_go {ps qs : List (Nat × Nat)} {n d d' k : Nat} (hq : qs.length ≤ n) (hd : d' + 1 = d) (hk : d * (n + 1) + (ps.length + 1) + 1 ≤ k + 1) : d' * (n + 1) + (ps ++ qs).length + 1 ≤ k := by
  subst hd
  rw [Nat.add_mul, Nat.one_mul] at hk
  simp only [List.length_append]
  omega
theorem joinF_end : ∀ (k : Nat) (ps : List (Nat × Nat)) (S : WS), Joining ps S → S.classes.length ≤ 400 → need ps S ≤ k → JoinEnd ps S (joinF k ps S)
  | 0, _, _, _, _, h => by unfold need at h; omega
  | k + 1, [], S, h, _, _ => by
    refine ⟨h.base, fun i s hi => ?_, Joined.refl S, fun p hp => by cases hp⟩
    obtain ⟨t, h1, h2⟩ := h.stable i s hi
    rcases h2 with h2 | ⟨_, hq, _⟩
    · exact ⟨t, h1, h2⟩
    · cases hq
  | k + 1, p :: ps, S, h, hn, hk => by
    obtain ⟨hp1, hp2, _⟩ := h.pairs p (List.mem_cons_self ..)
    unfold joinF
    by_cases he : classAt S p.1 = classAt S p.2
    · rw [if_pos he]
      have E := joinF_end k ps S (h.skip he) hn (by unfold need at hk ⊢; simp only [List.length_cons] at hk; omega)
      refine ⟨E.base, E.stable, E.joined, fun q hq => ?_⟩
      simp only [List.mem_cons] at hq
      rcases hq with rfl | hq
      · exact E.joined.merges _ _ hp1 hp2 he
      · exact E.pairs q hq
    · rw [if_neg he]
      obtain ⟨g1, g2, g3, g4, g5, _⟩ := h.go he hn
      have hc := g2.clen
      have E := joinF_end k _ _ g1 (by omega) (by
        unfold need at hk ⊢
        simp only [List.length_cons] at hk
        rw [hc]
        exact need_go g4 g5 hk)
      refine ⟨E.base, E.stable, g2.trans E.joined, fun q hq => ?_⟩
      simp only [List.mem_cons] at hq
      rcases hq with rfl | hq
      · exact E.joined.merges _ _ (by omega) (by omega) g3
      · exact E.pairs q (List.mem_append_left _ hq)

/-- The fuel that 'join' never uses up. -/
def joinM (S : WS) (l r : Nat) : WS := joinF (need [(l, r)] S) [(l, r)] S
/-- More fuel than is needed changes nothing. -/
theorem joinF_more : ∀ (k : Nat) (ps : List (Nat × Nat)) (S : WS), Joining ps S → S.classes.length ≤ 400 → need ps S ≤ k → joinF (k + 1) ps S = joinF k ps S
  | 0, _, _, _, _, h => by unfold need at h; omega
  | k + 1, [], S, _, _, _ => rfl
  | k + 1, p :: ps, S, h, hn, hk => by
    rw [joinF]
    conv => rhs; rw [joinF]
    by_cases he : classAt S p.1 = classAt S p.2
    · rw [if_pos he, if_pos he]
      exact joinF_more k ps S (h.skip he) hn (by unfold need at hk ⊢; simp only [List.length_cons] at hk; omega)
    · rw [if_neg he, if_neg he]
      obtain ⟨g1, g2, g3, g4, g5, _⟩ := h.go he hn
      have hc := g2.clen
      exact joinF_more k _ _ g1 (by omega) (by
        unfold need at hk ⊢
        simp only [List.length_cons] at hk
        rw [hc]
        exact need_go g4 g5 hk)

theorem Base.fits {S : WS} (h : Base S) (hn : S.classes.length ≤ 400) (i : Nat) (hi : i < S.shapes.length) : Fits S (shapeAt S i) := by
  have hs := shapeAt_some hi
  have hg := h.good i _ hs
  have hlen := h.inv.len
  have hp : ∀ j, j < 3 → partAt (shapeAt S i) j ≤ 1000000 := fun j hj => by
    by_cases e : j < (shapeAt S i).2.1
    · have := hg.part j e; omega
    · rw [hg.rest j (by omega) hj]; omega
  exact ⟨hg.name, hg.count, fun j hj => by have := hg.part j hj; omega, ⟨hp 0 (by omega), hp 1 (by omega), hp 2 (by omega)⟩, fun j => by have := h.inv.class_lt j (by omega); omega⟩

theorem Goes.joinF {S0 : WS} : ∀ (k : Nat) (ps : List (Nat × Nat)) (S : WS), Joining ps S → S.classes.length ≤ 400 → Goes S0 S → Goes S0 (joinF k ps S)
  | 0, _, _, _, _, h => h
  | k + 1, [], S, _, _, h => h
  | k + 1, p :: ps, S, h, hn, hg => by
    rw [Go.Proofs.YtmfkpllnmmfpiaaGreatDoor.joinF]
    by_cases he : classAt S p.1 = classAt S p.2
    · rw [if_pos he]
      exact Goes.joinF k ps S (h.skip he) hn hg
    · rw [if_neg he]
      obtain ⟨g1, g2, g3, g4, g5, g6⟩ := h.go he hn
      have hc := g2.clen
      have hl := (moveTo_rows S (classAt S p.2) (classAt S p.1) S.classes.length).1
      change (moveM S (classAt S p.2) (classAt S p.1)).classes.length = _ at hl
      exact Goes.joinF k _ _ g1 (by omega) ((hg.move _ _).twins (g6.fits (by omega)))
end Go.Proofs.YtmfkpllnmmfpiaaGreatDoor

/-
  Plain: terms and the numbers that stand for them; a sentence said.
-/
namespace Go.Proofs.YtmfkpllnmmfpiaaGreatDoor
open Go.RowKit

/-- The number i stands for the term t. -/
def Den (S : WS) : (n : Nat) → Tm n → Nat → Prop
  | 0, _, _ => False
  | n + 1, t, i => ∃ ks, S.shapes[i]? = some (shapeOf t.name ks) ∧ AllIs (Den S n) t.parts ks
theorem Den.mono {S T : WS} (h : ∀ (i : Nat) (s : Sh), S.shapes[i]? = some s → T.shapes[i]? = some s) : ∀ {n : Nat} {t : Tm n} {i : Nat}, Den S n t i → Den T n t i
  | 0, _, _, hd => hd.elim
  | _ + 1, _, _, ⟨ks, h1, h2⟩ => ⟨ks, h _ _ h1, h2.mono fun _ _ hd => hd.mono h⟩
theorem Den.same {S T : WS} (h : T.shapes = S.shapes) {n : Nat} {t : Tm n} {i : Nat} (hd : Den S n t i) : Den T n t i := hd.mono (by rw [h]; exact fun _ _ e => e)
theorem Den.lt {S : WS} : ∀ {n : Nat} {t : Tm n} {i : Nat}, Den S n t i → i < S.shapes.length
  | 0, _, _, hd => hd.elim
  | _ + 1, _, _, ⟨_, h1, _⟩ => (List.getElem?_eq_some_iff.1 h1).1

theorem AllIs.inj {α β : Type} {R : α → β → Prop} (h : ∀ a b c, R a b → R a c → b = c) : ∀ {xs : List α} {ys zs : List β}, AllIs R xs ys → AllIs R xs zs → ys = zs
  | [], [], [], _, _ => rfl
  | _ :: _, _ :: _, _ :: _, h1, h2 => by rw [h _ _ _ h1.1 h2.1, AllIs.inj h h1.2 h2.2]
  | [], _ :: _, _, h1, _ => h1.elim
  | [], [], _ :: _, _, h2 => h2.elim
  | _ :: _, [], _, h1, _ => h1.elim
  | _ :: _, _ :: _, [], _, h2 => h2.elim
theorem Base.inj {S : WS} (h : Base S) {i j : Nat} {s : Sh} (hi : S.shapes[i]? = some s) (hj : S.shapes[j]? = some s) : i = j := by
  have h1 := (h.num s i).2 hi
  have h2 := (h.num s j).2 hj
  rw [h1] at h2
  exact Option.some.inj h2
theorem Base.den_inj {S : WS} (h : Base S) : ∀ {n : Nat} {t : Tm n} {i j : Nat}, Den S n t i → Den S n t j → i = j
  | 0, _, _, _, hd, _ => hd.elim
  | n + 1, t, _, _, ⟨ks, h1, h2⟩, ⟨ls, h3, h4⟩ => by
    obtain rfl := AllIs.inj (R := Den S n) (fun a b c (x : Den S n a b) (y : Den S n a c) => h.den_inj x y) h2 h4
    exact h.inj h1 h3

/-- What adding terms does to a Web. -/
structure Added (S T : WS) : Prop where
  shapes : ∀ (i : Nat) (s : Sh), S.shapes[i]? = some s → T.shapes[i]? = some s
  len : S.shapes.length ≤ T.shapes.length
  classes : ∀ i, i < S.classes.length → classAt T i = classAt S i
  said : T.said = S.said
  trail : T.trail.length + 1000 * reps T T.classes.length + 1002 * S.shapes.length ≤ S.trail.length + 1000 * reps S S.classes.length + 1002 * T.shapes.length
  files : T.files + 1000 * reps T T.classes.length + 1001 * S.shapes.length ≤ S.files + 1000 * reps S S.classes.length + 1001 * T.shapes.length
theorem Added.refl (S : WS) : Added S S := ⟨fun _ _ h => h, Nat.le_refl _, fun _ _ => rfl, rfl, Nat.le_refl _, Nat.le_refl _⟩
theorem Added.trans {S T U : WS} (h : Added S T) (k : Added T U) (hS : S.classes.length ≤ T.classes.length) : Added S U := by
  have h1 := h.trail
  have h2 := h.files
  have k1 := k.trail
  have k2 := k.files
  exact ⟨fun i s hi => k.shapes i s (h.shapes i s hi), Nat.le_trans h.len k.len, fun i hi => (k.classes i (by omega)).trans (h.classes i hi), k.said.trans h.said, by omega, by omega⟩

theorem reps_snoc {S S' : WS} {c : Nat} (h : S'.classes = S.classes ++ [c]) : reps S' S'.classes.length ≤ reps S S.classes.length + 1 := by
  have hl : S'.classes.length = S.classes.length + 1 := by rw [h]; simp
  rw [hl]
  rw [reps]
  rw [reps_congr (S := S') (T := S) S.classes.length (fun i hi => by rw [classAt_snoc_lt h hi])]
  split <;> omega
theorem Base.entered {S : WS} (h : Base S) (s : Sh) : Added S (enterM S s).2 := by
  obtain ⟨c, E⟩ := h.inv.entered s
  obtain ⟨_, _, e3, e4, e5, _⟩ := h.inv.enter s
  generalize (enterM S s).2 = S' at *
  have hr := reps_snoc E.classes
  refine ⟨fun i t hi => ?_, by omega, fun i hi => classAt_snoc_lt E.classes hi, E.said, by omega, by omega⟩
  rw [E.shapes, List.getElem?_append_left (List.getElem?_eq_some_iff.1 hi).1]
  exact hi

theorem shapeOf_ok {name : ByteArray} {ks : List Nat} {n : Nat} (hn : name.size ≤ 1000) (hl : ks.length ≤ 3) (hk : ∀ k ∈ ks, k < n) : ShOK n (shapeOf name ks) := by
  have get : ∀ i, i < ks.length → ks.getD i 0 < n := fun i hi => by
    rw [List.getD_eq_getElem?_getD, List.getElem?_eq_getElem hi]
    exact hk _ (List.getElem_mem hi)
  have none' : ∀ i, ks.length ≤ i → ks.getD i 0 = 0 := fun i hi => by rw [List.getD_eq_getElem?_getD, List.getElem?_eq_none (by omega)]; rfl
  refine ⟨hn, hl, fun j hj => ?_, fun j hj h3 => ?_⟩
  · have hj' : j < ks.length := hj
    have hg := get j hj'
    match j, hj', hg with
    | 0, _, hg => exact hg
    | 1, _, hg => exact hg
    | 2, _, hg => exact hg
    | j + 3, hj', _ => omega
  · have hj' : ks.length ≤ j := hj
    have hg := none' j hj'
    match j, h3, hg with
    | 0, _, hg => exact hg
    | 1, _, hg => exact hg
    | 2, _, hg => exact hg
    | j + 3, h3, _ => omega

structure AddEnd (S : WS) (T : WS) : Prop where
  web : Web T
  added : Added S T
theorem addAll_end {α : Type} {f : WS → α → Nat × WS} {ok : α → Prop} {den : WS → α → Nat → Prop} (hf : ∀ S x, Web S → ok x → AddEnd S (f S x).2 ∧ den (f S x).2 x (f S x).1)
    (hm : ∀ S T x i, (∀ (i : Nat) (s : Sh), S.shapes[i]? = some s → T.shapes[i]? = some s) → den S x i → den T x i) : ∀ (l : List α) (S : WS), Web S → allOf ok l → AddEnd S (addAll f S l).2 ∧ AllIs (den (addAll f S l).2) l (addAll f S l).1
  | [], S, h, _ => ⟨⟨h, Added.refl S⟩, trivial⟩
  | x :: l, S, h, hok => by
    obtain ⟨⟨a1, a2⟩, a3⟩ := hf S x h hok.1
    obtain ⟨⟨b1, b2⟩, b3⟩ := addAll_end hf hm l _ a1 hok.2
    have e1 := h.base.inv.len
    have e2 := a1.base.inv.len
    have e3 := a2.len
    exact ⟨⟨b1, a2.trans b2 (by omega)⟩, hm _ _ _ _ b2.shapes a3, b3⟩
theorem addM_end : ∀ (n : Nat) (S : WS) (t : Tm n), Web S → Narrow n t → AddEnd S (addM n S t).2 ∧ Den (addM n S t).2 n t (addM n S t).1
  | 0, _, _, _, h => h.elim
  | n + 1, S, t, h, hn => by
    obtain ⟨⟨a1, a2⟩, a3⟩ := addAll_end (den := fun S x i => Den S n x i) (addM_end n) (fun _ _ _ _ hst hd => Den.mono hst hd) t.parts S h hn.2.2
    obtain ⟨⟨b1, b2, b3, b4, b5, b6, b7⟩, hl⟩ := addAll_adds (addM_adds n) t.parts S h.base.inv hn.2.2
    unfold addM
    simp only
    generalize (addAll (addM n) S t.parts).2 = T at *
    generalize (addAll (addM n) S t.parts).1 = ks at *
    split
    · rename_i k hk
      exact ⟨⟨a1, a2⟩, ks, (a1.base.num _ _).1 hk, a3⟩
    · rename_i hk
      have hs : ShOK T.shapes.length (shapeOf t.name ks) := shapeOf_ok hn.1 (by rw [hl]; exact hn.2.1) b2
      have e1 := h.base.inv.len
      have e2 := a1.base.inv.len
      have hA := a1.base.entered (shapeOf t.name ks)
      refine ⟨⟨a1.enter hs hk, a2.trans hA (by omega)⟩, ks, ?_, a3.mono fun _ _ hd => hd.mono hA.shapes⟩
      obtain ⟨c, E⟩ := a1.base.inv.entered (shapeOf t.name ks)
      rw [E.shapes, (a1.base.inv.enter _).2.1]
      simp

/-- A sentence said. -/
def sayM {n : Nat} (S : WS) (x : Snt n) : WS :=
  let p := addM n S x.left
  let q := addM n p.2 x.right
  if x.eq then joinM (noteM q.2 (0, p.1, q.1)) p.1 q.1 else noteM q.2 (1, p.1, q.1)
def sizeS {n : Nat} (x : Snt n) : Nat := sizeT n x.left + sizeT n x.right
def NarrowS {n : Nat} (x : Snt n) : Prop := Narrow n x.left ∧ Narrow n x.right

/-- How long the trail may be. -/
structure Pot (S : WS) : Prop where
  trail : S.trail.length + 1000 * reps S S.classes.length ≤ 1002 * S.shapes.length + S.said.length
  files : S.files + 1000 * reps S S.classes.length ≤ 1001 * S.shapes.length
theorem Added.pot {S T : WS} (h : Added S T) (hp : Pot S) : Pot T := by
  have h1 := h.trail
  have h2 := h.files
  have h3 := hp.trail
  have h4 := hp.files
  exact ⟨by rw [h.said]; omega, by omega⟩
theorem noteM_pot {S : WS} (hp : Pot S) (x : Nat × Nat × Nat) : Pot (noteM S x) := by
  have h3 := hp.trail
  have h4 := hp.files
  have e : reps (noteM S x) S.classes.length = reps S S.classes.length := reps_congr _ fun _ _ => Iff.rfl
  refine ⟨?_, ?_⟩
  · show (S.trail ++ [_]).length + 1000 * reps (noteM S x) S.classes.length ≤ 1002 * S.shapes.length + (S.said ++ [x]).length
    rw [e]
    simp only [List.length_append, List.length_singleton]
    omega
  · show S.files + 1000 * reps (noteM S x) S.classes.length ≤ 1001 * S.shapes.length
    rw [e]
    exact h4
theorem Joined.pot {S T : WS} (h : Joined S T) (hp : Pot S) : Pot T := by
  have h1 := h.trail
  have h2 := h.files
  have h3 := hp.trail
  have h4 := hp.files
  exact ⟨by rw [h.said, h.shapes]; omega, by rw [h.shapes]; omega⟩

/-- What a sentence that is said does to a Web. -/
structure SaidEnd {n : Nat} (S : WS) (x : Snt n) (T : WS) : Prop where
  web : Web T
  shapes : ∀ (i : Nat) (s : Sh), S.shapes[i]? = some s → T.shapes[i]? = some s
  len : T.shapes.length ≤ S.shapes.length + sizeS x
  said : ∃ i j, Den T n x.left i ∧ Den T n x.right j ∧ T.said = S.said ++ [((if x.eq then 0 else 1), i, j)]
  pot : Pot S → Pot T
  goes : ∀ S0, Goes S0 S → Goes S0 T

theorem Web.joining {S : WS} (h : Web S) {i j : Nat} (hi : i < S.classes.length) (hj : j < S.classes.length) : Joining [(i, j)] (noteM S (0, i, j)) := by
  refine ⟨h.base.note hi hj, fun p hp => ?_, fun k s hk => ?_⟩
  · simp only [List.mem_singleton] at hp
    subst hp
    exact ⟨hi, hj, fun R hR => hR.said (0, i, j) (by simp [noteM]) rfl⟩
  · obtain ⟨t, h1, h2⟩ := h.stable k s hk
    exact ⟨t, by rw [key_same (S := noteM S (0, i, j)) (T := S) rfl]; exact h1, .inl h2⟩

theorem sayM_end {n : Nat} {S : WS} (h : Web S) {x : Snt n} (hx : NarrowS x) (hr : S.shapes.length + sizeS x ≤ 400) : SaidEnd S x (sayM S x) := by
  obtain ⟨⟨a1, a2⟩, a3⟩ := addM_end n S x.left h hx.1
  have a4 := addM_adds n S x.left h.base.inv hx.1
  obtain ⟨⟨b1, b2⟩, b3⟩ := addM_end n (addM n S x.left).2 x.right a1 hx.2
  have b4 := addM_adds n (addM n S x.left).2 x.right a1.base.inv hx.2
  unfold sizeS at hr
  have hg : ∀ S0, Goes S0 S → Goes S0 (addM n (addM n S x.left).2 x.right).2 := fun S0 h0 => Goes.addM n _ _ a1.base.inv hx.2 (by have := a4.hi; omega) (Goes.addM n S x.left h.base.inv hx.1 (by omega) h0)
  unfold sayM
  simp only
  generalize (addM n S x.left).2 = P at *
  generalize (addM n S x.left).1 = i at *
  generalize (addM n P x.right).2 = Q at *
  generalize (addM n P x.right).1 = j at *
  have l1 := a4.hi
  have l2 := b4.hi
  have l3 := b4.lo
  have e1 := b1.base.inv.len
  have hi : i < Q.classes.length := by have := a4.lt; omega
  have hj : j < Q.classes.length := by have := b4.lt; omega
  have di : Den Q n x.left i := a3.mono b2.shapes
  have hsaid : Q.said = S.said := b2.said.trans a2.said
  have hshapes : ∀ (i : Nat) (s : Sh), S.shapes[i]? = some s → Q.shapes[i]? = some s := fun i s hi => b2.shapes i s (a2.shapes i s hi)
  cases hxe : x.eq with
  | false =>
    simp only [Bool.false_eq_true, if_false]
    exact ⟨b1.note_unequal (by simp) hi hj, hshapes, by unfold sizeS; simp only [noteM]; omega, ⟨i, j, Den.same (S := Q) (T := noteM Q (1, i, j)) rfl di, Den.same (S := Q) (T := noteM Q (1, i, j)) rfl b3, by simp [noteM, hsaid, hxe]⟩, fun hp => noteM_pot (b2.pot (a2.pot hp)) _, fun S0 h0 => (hg S0 h0).note _⟩
  | true =>
    simp only [if_true]
    have hJ := b1.joining hi hj
    have hN : (noteM Q (0, i, j)).classes.length ≤ 400 := by simp only [noteM]; omega
    have E := joinF_end _ _ _ hJ hN (Nat.le_refl (need [(i, j)] (noteM Q (0, i, j))))
    have hgj : ∀ S0, Goes S0 S → Goes S0 (joinM (noteM Q (0, i, j)) i j) := fun S0 h0 => Goes.joinF _ _ _ hJ hN ((hg S0 h0).note _)
    unfold joinM at *
    generalize joinF (need [(i, j)] (noteM Q (0, i, j))) [(i, j)] (noteM Q (0, i, j)) = T at *
    have hTs : T.shapes = Q.shapes := E.joined.shapes
    have hTd : T.said = Q.said ++ [(0, i, j)] := E.joined.said
    have hcl : T.classes.length = Q.classes.length := E.joined.clen
    refine ⟨⟨E.base, fun y hy h0 => ?_, E.stable⟩, by rw [hTs]; exact hshapes, by rw [hTs]; unfold sizeS; omega, ⟨i, j, di.same hTs, b3.same hTs, by simp [hTd, hsaid, hxe]⟩, fun hp => E.joined.pot (noteM_pot (b2.pot (a2.pot hp)) _), hgj⟩
    rw [hTd] at hy
    simp only [List.mem_append, List.mem_singleton] at hy
    rcases hy with hy | rfl
    · obtain ⟨c1, c2⟩ := b1.base.saidLt y hy
      exact E.joined.merges _ _ c1 c2 (b1.eqs y hy h0)
    · exact E.pairs (i, j) (by simp)
end Go.Proofs.YtmfkpllnmmfpiaaGreatDoor

/-
  Plain: a sentence that is read has few terms, short names, few parts.
-/
namespace Go.Proofs.YtmfkpllnmmfpiaaGreatDoor
open Go.RowKit

theorem partsOf_size {s : ByteArray} {n : Nat} (ht : ∀ (st : Wd) (t : Tm n) (st2 : Wd), Fit s st → termOf s n st = (some t, st2) → 2 * sizeT n t + st.2.1 ≤ st2.2.1 + 1) :
    ∀ (m : Nat) (st : Wd) (ps : List (Tm n)) (st2 : Wd), Fit s st → partsOf s (termOf s n) m st = (some ps, st2) → 2 * sumOf (sizeT n) ps + st.2.2 ≤ st2.2.1
  | 0, _, _, _, _, h => by simp [partsOf] at h
  | m + 1, st, ps, st2, hf, h => by
    have h1 := Fit.next s st.2.2 hf.size
    have hw := wordAt_le s st.2.2 hf.size
    unfold partsOf at h
    cases hpp : termOf s n (wordAt s st.2.2) with
    | mk o stx =>
      rw [hpp] at h
      cases o with
      | none => simp at h
      | some x =>
        have h2 := ht _ x stx h1 hpp
        have h3 := (termOf_fit n (wordAt s st.2.2) h1).1
        rw [hpp] at h3
        have h4 := h3.le
        have h5 := wordAt_le s stx.2.2 h3.size
        have h6 := h3.lt
        simp only at h h3 h4 h5 h6
        split at h
        · rename_i hk
          have h7 := h6 (by omega)
          cases h
          simp only [sumOf]
          omega
        · split at h
          · rename_i hk
            have h7 := h6 (by omega)
            cases hq : partsOf s (termOf s n) m stx with
            | mk o3 st3 =>
              rw [hq] at h
              cases o3 with
              | none => simp at h
              | some xs =>
                simp only [Prod.mk.injEq, Option.some.injEq] at h
                obtain ⟨rfl, rfl⟩ := h
                have h8 := partsOf_size ht m stx xs _ h3 hq
                simp only [sumOf]
                omega
          · simp at h
theorem termOf_size {s : ByteArray} : ∀ (n : Nat) (st : Wd) (t : Tm n) (st2 : Wd), Fit s st → termOf s n st = (some t, st2) → 2 * sizeT n t + st.2.1 ≤ st2.2.1 + 1
  | 0, _, t, _, _, _ => t.elim
  | n + 1, st, t, st2, hf, h => by
    by_cases hk : st.1 = 0
    · have h1 := Fit.next s st.2.2 hf.size
      have hw := wordAt_le s st.2.2 hf.size
      have hlt := hf.lt (by omega)
      by_cases h1' : (wordAt s st.2.2).1 = 1
      · cases hq : partsOf s (termOf s n) (s.size + 1) (wordAt s st.2.2) with
        | mk o st3 =>
          cases o with
          | none => rw [termOf_fails hk h1' hq] at h; simp at h
          | some ps =>
            rw [termOf_parts hk h1' hq] at h
            simp only [Prod.mk.injEq, Option.some.injEq] at h
            obtain ⟨rfl, rfl⟩ := h
            have h2 := partsOf_size (termOf_size n) _ _ ps _ h1 hq
            have h3 := h1.lt (by omega)
            show 2 * (1 + sumOf (sizeT n) ps) + st.2.1 ≤ _
            omega
      · rw [termOf_bare hk h1'] at h
        simp only [Prod.mk.injEq, Option.some.injEq] at h
        obtain ⟨rfl, rfl⟩ := h
        show 2 * (1 + 0) + st.2.1 ≤ _
        omega
    · rw [termOf_no hk] at h; simp at h

theorem firstOf_all {α β : Type} {f : α → Option β} : ∀ {l : List α}, firstOf f l = none → ∀ a ∈ l, f a = none
  | [], _, _, h => by cases h
  | b :: l, h, a, ha => by
    unfold firstOf at h
    cases hb : f b with
    | some c => rw [hb] at h; simp at h
    | none =>
      rw [hb] at h
      simp only [List.mem_cons] at ha
      rcases ha with rfl | ha
      · exact hb
      · exact firstOf_all h a ha
theorem allOf_of {α : Type} {p : α → Prop} : ∀ {l : List α}, (∀ a ∈ l, p a) → allOf p l
  | [], _ => trivial
  | a :: l, h => ⟨h a (by simp), allOf_of fun b hb => h b (by simp [hb])⟩
theorem rangeOf_narrow : ∀ (n : Nat) (t : Tm n) (d : Nat), rangeOf n t d = none → Narrow n t
  | 0, t, _, _ => t.elim
  | n + 1, t, d, h => by
    unfold rangeOf at h
    split at h
    · cases h
    · split at h
      · cases h
      · split at h
        · cases h
        · exact ⟨by omega, by omega, allOf_of fun p hp => rangeOf_narrow n p (d + 1) (firstOf_all h p hp)⟩

/-- What is read is small. -/
theorem readOf_small {s : ByteArray} {x : Snt (fuelOf s)} (h : (readOf s).1 = some x) : NarrowS x ∧ sizeS x ≤ 100 ∧ readOf s = (some x, 0, 0) := by
  unfold readOf at h
  split at h
  · simp at h
  · rename_i hl
    split at h
    · simp at h
    · rename_i y st hs
      split at h
      · simp at h
      · rename_i hrl
        split at h
        · simp at h
        · rename_i hrr
          simp only [Option.some.injEq] at h
          subst h
          refine ⟨⟨rangeOf_narrow _ _ 0 hrl, rangeOf_narrow _ _ 0 hrr⟩, ?_, by unfold readOf; rw [if_neg hl, hs]; simp only [hrl, hrr]⟩
          have f0 := Fit.next s 0 (Nat.zero_le _)
          unfold sentOf at hs
          cases h1 : termOf s (fuelOf s) (wordAt s 0) with
          | mk o st1 =>
            rw [h1] at hs
            cases o with
            | none => simp at hs
            | some l =>
              have e1 := termOf_size _ _ l _ f0 h1
              have f1 := (termOf_fit (fuelOf s) (wordAt s 0) f0).1
              rw [h1] at f1
              simp only at hs f1
              cases h2 : signOf s st1 with
              | mk o2 st2 =>
                rw [h2] at hs
                cases o2 with
                | none => simp at hs
                | some g =>
                  have e2 : Fit s st2 ∧ st1.2.1 + 1 ≤ st2.2.1 := by
                    unfold signOf at h2
                    have h5 := wordAt_le s st1.2.2 f1.size
                    have h6 := f1.lt
                    split at h2
                    · have h7 := h6 (by omega)
                      cases h2; exact ⟨Fit.next s _ f1.size, by omega⟩
                    · split at h2
                      · have h7 := h6 (by omega)
                        cases h2; exact ⟨Fit.next s _ f1.size, by omega⟩
                      · split at h2 <;> simp at h2
                  simp only at hs
                  cases h3 : termOf s (fuelOf s) st2 with
                  | mk o3 st3 =>
                    rw [h3] at hs
                    cases o3 with
                    | none => simp at hs
                    | some r =>
                      have e3 := termOf_size _ _ r _ e2.1 h3
                      have f3 := (termOf_fit (fuelOf s) st2 e2.1).1
                      rw [h3] at f3
                      simp only at hs f3
                      split at hs
                      · simp only [Prod.mk.injEq, Option.some.injEq] at hs
                        obtain ⟨rfl, rfl⟩ := hs
                        have h7 := f3.size
                        have h8 := f3.le
                        show sizeT _ l + sizeT _ r ≤ 100
                        omega
                      · simp at hs
end Go.Proofs.YtmfkpllnmmfpiaaGreatDoor
