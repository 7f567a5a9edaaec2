/- Small, Undo, UndoModel, JoinModel -/
import Derived.Test.YtmfkpllnmmfpiaaGreatDoorNoteW
import Derived.Test.YtmfkpllnmmfpiaaGreatDoorJoinHeapW
namespace Go.Proofs.YtmfkpllnmmfpiaaGreatDoor
open Go.RowKit
theorem slice_len {w : World} {base e size n : Nat} {v : Value} {xs : List Value} (h : w.ownsRow base e size v n xs) : ∃ (g : Option Addr) (cap : Nat), v = .slice g n cap := by
 rcases ownsRow_slice h with ⟨rfl, rfl⟩ | ⟨g, cap, rfl, _⟩
 ·exact ⟨none, 0, rfl⟩
 ·exact ⟨_, cap, rfl⟩
set_option maxHeartbeats 400000 in
theorem here_any (w : World) (wb : Nat) (H : Hd) (Z : Nat → Prop) (S : WS) (h : WebAt w wb H Z S) :
  Calls Tryz.prog 56 #[.pointer (some ⟨wb, 0, none⟩)] w fun e w' => e = .returned (.int .i64 S.trail.length) ∧ w' = w := by
 obtain ⟨cls, hrow, _⟩ := h.rb
 obtain ⟨g, cap, hv⟩ := slice_len hrow
 have c0 := h.c0
 rw [hv] at c0
 clear hv hrow
 go_enter Tryz.func56, Tryz.ntmps56
 go_wp2
 go_ret
 exact ⟨rfl, rfl⟩
set_option maxHeartbeats 400000 in
theorem terms_any (w : World) (wb : Nat) (H : Hd) (Z : Nat → Prop) (S : WS) (h : WebAt w wb H Z S) :
  Calls Tryz.prog 58 #[.pointer (some ⟨wb, 0, none⟩)] w fun e w' => e = .returned (.int .i64 S.shapes.length) ∧ w' = w := by
 obtain ⟨g, cap, hv⟩ := slice_len h.rs
 have c1 := h.c1
 rw [hv] at c1
 clear hv
 go_enter Tryz.func58, Tryz.ntmps58
 go_wp2
 go_ret
 exact ⟨rfl, rfl⟩
set_option maxHeartbeats 400000 in
theorem sayings_any (w : World) (wb : Nat) (H : Hd) (Z : Nat → Prop) (S : WS) (h : WebAt w wb H Z S) :
  Calls Tryz.prog 55 #[.pointer (some ⟨wb, 0, none⟩)] w fun e w' => e = .returned (.int .i64 S.said.length) ∧ w' = w := by
 obtain ⟨g, cap, hv⟩ := slice_len h.rd
 have c5 := h.c5
 rw [hv] at c5
 clear hv
 go_enter Tryz.func55, Tryz.ntmps55
 go_wp2
 go_ret
 exact ⟨rfl, rfl⟩
end Go.Proofs.YtmfkpllnmmfpiaaGreatDoor

namespace Go.Proofs.YtmfkpllnmmfpiaaGreatDoor
open Go.RowKit
set_option maxHeartbeats 1000000 in
set_option maxRecDepth 100000 in
theorem move1_any (w : World) (wb bw bf bn : Nat) (H : Hd) (Z : Nat → Prop) (S : WS) (n f : Nat) (h : WebAt w wb H Z S) (hw : w.cell? ⟨bw, 0, none⟩ = some (.pointer (some ⟨wb, 0, none⟩))) (hf : w.cell? ⟨bf, 0, none⟩ = some (.int .i64 f)) (hn : w.cell? ⟨bn, 0, none⟩ = some (.int .i64 n)) (hlt : n < S.classes.length) :
  Calls Tryz.prog 177 #[.pointer (some ⟨bf, 0, none⟩), .pointer (some ⟨bw, 0, none⟩), .pointer (some ⟨bn, 0, none⟩)] w fun e w' => e = .returned (.tuple #[]) ∧ WebAt w' wb H Z { S with classes := S.classes.set n f } ∧ Upd (H.blocks wb) w w' := by
 obtain ⟨g, cap, hcl, _, _⟩ : ∃ g cap, H.classes = .slice (some ⟨g, 0, none⟩) S.classes.length cap ∧ S.classes.length ≤ cap ∧ cap ≤ maxLen := by
  rcases ownsRow_slice h.rc with ⟨_, h0⟩ | hh
  ·omega
  ·exact hh
 have hrc := h.rc
 rw [hcl] at hrc
 have hcell := row1_cell hrc hlt
 have hfr := row_free hrc
 have c3 := h.c3
 rw [hcl] at c3
 have hlt' : (n : Int) < (S.classes.length : Int) := by omega
 have HW : Hid (WebAt (w.setCell ⟨g, n, none⟩ (.int .i64 f)).drew wb H Z { S with classes := S.classes.set n f }) := (h.set_class hcl).later ((Upd.refl [] _).drew) (fun _ _ => by simp)
 have HU : Hid (Upd (H.blocks wb) w (w.setCell ⟨g, n, none⟩ (.int .i64 f)).drew) := ((Upd.refl _ w).setCell (.inl (Hd.mem_classes (by rw [hcl]; rfl))) _).drew
 clear hrc hcl
 go_enter Tryz.func177, Tryz.ntmps177
 go_wp2
 go_region
 go_wp2
 go_end0
 exact ⟨rfl, HW.out, HU.out⟩
set_option maxHeartbeats 1000000 in
set_option maxRecDepth 100000 in
theorem file1_any (w : World) (wb bw bs : Nat) (H : Hd) (Z : Nat → Prop) (S : WS) (s : Sh) (h : WebAt w wb H Z S) (hw : w.cell? ⟨bw, 0, none⟩ = some (.pointer (some ⟨wb, 0, none⟩))) (hs : BoxSh w bs s) (hg : GoodSh s) (hin : (S.alike s).isSome = true) :
  Calls Tryz.prog 178 #[.pointer (some ⟨bw, 0, none⟩), .pointer (some ⟨bs, 0, none⟩)] w fun e w' => e = .returned (.tuple #[]) ∧ WebAt w' wb H Z { S with alike := setF S.alike s none, files := S.files - 1 } ∧ Upd (H.blocks wb) w w' := by
 obtain ⟨_, v1, v2, v3, v4, v5⟩ := hs
 have c4 := h.c4
 obtain ⟨wf, hrun0, hm, ht⟩ := (h.ma.later ((Upd.refl [] w).drew) (by simp)).del s hg hin 0
 have hrun : (Builtin.delete_ #[108, 141] 0 #[.map (some H.ab), .agg #[.string s.1, .int .i64 s.2.1, .int .i64 s.2.2.1, .int .i64 s.2.2.2.1, .int .i64 s.2.2.2.2]]).run Tryz.prog w.drew = .ok (.tuple #[]) wf := hrun0
 have HW : Hid (WebAt wf wb H Z { S with alike := setF S.alike s none, files := S.files - 1 }) := (h.later ((Upd.refl [] w).drew) (fun _ _ => by simp)).set_alike ht hm
 have HU : Hid (Upd (H.blocks wb) w wf) := ((Upd.refl _ w).drew).trans ((mapTurned_upd ht).mono (fun x hx _ => by simp at hx; rw [hx]; exact H.mem_ab wb))
 clear hrun0 hm ht
 go_enter Tryz.func178, Tryz.ntmps178
 go_wp2
 go_region
 go_wp2
 go_end0
 exact ⟨rfl, HW.out, HU.out⟩
end Go.Proofs.YtmfkpllnmmfpiaaGreatDoor

namespace Go.Proofs.YtmfkpllnmmfpiaaGreatDoor
open Go.RowKit
def undo1 (S : WS) (u : Un) : WS :=
 if u.tag = 0 then { S with said := S.said.dropLast }
 else if u.tag = 1 then { S with shapes := S.shapes.take u.a, classes := S.classes.take u.a, numbers := setF S.numbers u.sh none, nums := S.nums - 1 }
 else if u.tag = 2 then { S with alike := setF S.alike u.sh none, files := S.files - 1 }
 else { S with classes := S.classes.set u.a u.b }
def okUn (S : WS) (u : Un) : Prop :=
 (u.tag = 0 ∧ 0 < S.said.length) ∨ (u.tag = 1 ∧ u.a < S.shapes.length ∧ u.a < S.classes.length ∧ S.shapes.length ≤ 1000000 ∧ GoodSh u.sh ∧ (S.numbers u.sh).isSome = true) ∨ (u.tag = 2 ∧ GoodSh u.sh ∧ (S.alike u.sh).isSome = true) ∨ (u.tag = 3 ∧ u.a < S.classes.length)
def CanBack : Nat → WS → WS → Prop
 | 0, S, S0 => S = S0
 | n + 1, S, S0 => ∃ us u, S.trail = us ++ [u] ∧ okUn { S with trail := us } u ∧ CanBack n (undo1 { S with trail := us } u) S0
def Goes (S0 S : WS) : Prop := ∃ n, S.trail.length = S0.trail.length + n ∧ CanBack n S S0
theorem Goes.refl (S : WS) : Goes S S := ⟨0, rfl, rfl⟩
theorem Goes.step {S0 S S' : WS} {u : Un} (h : Goes S0 S) (ht : S'.trail = S.trail ++ [u]) (ho : okUn { S' with trail := S.trail } u) (hu : undo1 { S' with trail := S.trail } u = S) : Goes S0 S' := by
 obtain ⟨n, hn, hc⟩ := h
 exact ⟨n + 1, by rw [ht]; simp; omega, S.trail, u, ht, ho, by rw [hu]; exact hc⟩
theorem setF_back {f : Sh → Option Nat} {s : Sh} {v : Option Nat} (h : f s = none) : setF (setF f s v) s none = f := by
 funext t
 unfold setF
 split
 ·rename_i e; rw [e, h]
 ·rfl
theorem Goes.note {S0 S : WS} (h : Goes S0 S) (x : Nat × Nat × Nat) : Goes S0 { S with said := S.said ++ [x], trail := S.trail ++ [⟨0, (⟨#[]⟩, 0, 0, 0, 0), 0, 0⟩] } :=
 h.step rfl (.inl ⟨rfl, by simp⟩) (by simp [undo1])
theorem Goes.file {S0 S : WS} (h : Goes S0 S) {s : Sh} (hs : Fits S s) (n : Nat) : Goes S0 (fileM S s n).2 := by
 unfold fileM
 split
 ·exact h
 ·rename_i hk
  exact h.step rfl (.inr (.inr (.inl ⟨rfl, keyTo_good hs _, by simp [setF]⟩))) (by simp [undo1, setF_back hk])
theorem Goes.enter {S0 S : WS} (h : Goes S0 S) {s : Sh} (hs : Fits S s) (hg : GoodSh s) (hl : S.shapes.length = S.classes.length) (hm : S.shapes.length < 1000000) (hn : S.numbers s = none) : Goes S0 (enterM S s).2 := by
 obtain ⟨r1, r2, r3, r4, r5, r6, r7⟩ := fileM_rows S s S.shapes.length
 refine (h.file hs S.shapes.length).step (u := ⟨1, s, S.shapes.length, 0⟩) rfl (.inr (.inl ⟨rfl, ?_, ?_, ?_, hg, ?_⟩)) ?_
 ·simp [enterM, r1]
 ·show S.shapes.length < ((fileM S s S.shapes.length).2.classes ++ [_]).length
  rw [r2]
  simp [hl]
 ·simp [enterM, r1]; omega
 ·simp [enterM, setF]
 ·have e1 : (S.classes ++ [if (fileM S s S.shapes.length).1 = S.shapes.length then S.shapes.length else classAt (fileM S s S.shapes.length).2 (fileM S s S.shapes.length).1]).take S.shapes.length = S.classes := by rw [hl]; exact List.take_left
  simp only [undo1, enterM]
  simp only [if_neg (by decide : ¬ (1 : Nat) = 0), if_true, r1, r2, e1, List.take_left, setF_back (show (fileM S s S.shapes.length).2.numbers s = none by rw [r3]; exact hn), Nat.add_sub_cancel]
  generalize (fileM S s S.shapes.length).2 = T at *
  obtain ⟨_, _, _, _, _, _, _, _, _⟩ := T
  simp only at r1 r2
  subst r1 r2
  rfl
theorem Goes.addAll {α : Type} {S0 : WS} {f : WS → α → Nat × WS} {size : α → Nat} {ok : α → Prop} (hf : ∀ S x, Inv S → ok x → Adds S (size x) (f S x).1 (f S x).2)
  (hg : ∀ S x, Inv S → ok x → S.shapes.length + size x ≤ 50000 → Goes S0 S → Goes S0 (f S x).2) : ∀ (l : List α) (S : WS), Inv S → allOf ok l → S.shapes.length + sumOf size l ≤ 50000 → Goes S0 S → Goes S0 (addAll f S l).2
 | [], _, _, _, _, h => h
 | x :: l, S, hi, hok, hr, h => by
  have h1 := hf S x hi hok.1
  have h2 := h1.hi
  simp only [sumOf] at hr
  exact Goes.addAll hf hg l _ h1.inv hok.2 (by omega) (hg S x hi hok.1 (by omega) h)
theorem Goes.addM {S0 : WS} : ∀ (n : Nat) (S : WS) (t : Tm n), Inv S → Narrow n t → S.shapes.length + sizeT n t ≤ 50000 → Goes S0 S → Goes S0 (addM n S t).2
 | 0, _, _, _, h, _, _ => h.elim
 | n + 1, S, t, hi, hn, hr, h => by
  simp only [sizeT] at hr
  have h1 := Goes.addAll (addM_adds n) (fun S x => Goes.addM n S x) t.parts S hi hn.2.2 (by omega) h
  obtain ⟨⟨b1, b2, b3, b4, b5, b6, b7⟩, hl⟩ := addAll_adds (addM_adds n) t.parts S hi hn.2.2
  unfold Go.Proofs.YtmfkpllnmmfpiaaGreatDoor.addM
  simp only
  split
  ·exact h1
  ·rename_i hk
   obtain ⟨f1, f2⟩ := Fits.of b1 hn.1 (by rw [hl]; exact hn.2.1) b2 (by omega)
   exact h1.enter f1 f2 b1.len (by omega) hk
theorem classAt_set {S : WS} {i t : Nat} (h : i < S.classes.length) : (S.classes.set i t).set i (classAt S i) = S.classes := by
 rw [List.set_set]
 unfold classAt
 rw [List.getD_eq_getElem?_getD, List.getElem?_eq_getElem h]
 simp
theorem Goes.moveTo {S0 S : WS} (h : Goes S0 S) (f t : Nat) : ∀ i, i ≤ S.classes.length → Goes S0 (moveTo S f t i)
 | 0, _ => h
 | i + 1, hi => by
  have h1 := Goes.moveTo h f t i (by omega)
  have hl := (moveTo_rows S f t i).1
  unfold Go.Proofs.YtmfkpllnmmfpiaaGreatDoor.moveTo
  simp only
  split
  ·rename_i he
   refine h1.step rfl (.inr (.inr (.inr ⟨rfl, by simp; omega⟩))) ?_
   simp only [undo1, if_neg (by decide : ¬ (3 : Nat) = 0), if_neg (by decide : ¬ (3 : Nat) = 1), if_neg (by decide : ¬ (3 : Nat) = 2)]
   have hcs := classAt_set (S := Go.Proofs.YtmfkpllnmmfpiaaGreatDoor.moveTo S f t i) (i := i) (t := t) (by omega)
   rw [he] at hcs
   rw [hcs]
  ·exact h1
theorem Goes.move {S0 S : WS} (h : Goes S0 S) (f t : Nat) : Goes S0 (moveM S f t) := h.moveTo f t _ (Nat.le_refl _)
theorem Goes.twinsTo {S0 S : WS} (h : Goes S0 S) (hfit : ∀ i, i < S.shapes.length → Fits S (shapeAt S i)) : ∀ i, i ≤ S.shapes.length → Goes S0 (twinsTo S i).2
 | 0, _ => h
 | i + 1, hi => by
  have h1 := Goes.twinsTo h hfit i (by omega)
  exact h1.file ((hfit i (by omega)).same (twinsTo_same S i).classes) i
theorem Goes.twins {S0 S : WS} (h : Goes S0 S) (hfit : ∀ i, i < S.shapes.length → Fits S (shapeAt S i)) : Goes S0 (twinsM S).2 := h.twinsTo hfit _ (Nat.le_refl _)
end Go.Proofs.YtmfkpllnmmfpiaaGreatDoor

namespace Go.Proofs.YtmfkpllnmmfpiaaGreatDoor
open Go.RowKit
def joinF : Nat → List (Nat × Nat) → WS → WS
 | 0, _, S => S
 | _ + 1, [], S => S
 | k + 1, p :: ps, S =>
  if classAt S p.1 = classAt S p.2 then joinF k ps S
  else joinF k (ps ++ (twinsM (moveM S (classAt S p.2) (classAt S p.1))).1) (twinsM (moveM S (classAt S p.2) (classAt S p.1))).2
def reps (S : WS) : Nat → Nat
 | 0 => 0
 | i + 1 => reps S i + if classAt S i = i then 1 else 0
theorem reps_le (S : WS) : ∀ m, reps S m ≤ m
 | 0 => Nat.le_refl _
 | i + 1 => by have := reps_le S i; unfold reps; split <;> omega
theorem reps_congr {S T : WS} : ∀ m, (∀ i, i < m → (classAt S i = i ↔ classAt T i = i)) → reps S m = reps T m
 | 0, _ => rfl
 | i + 1, h => by
  have h1 := reps_congr (S := S) (T := T) i (fun j hj => h j (by omega))
  have h2 := h i (by omega)
  unfold reps
  rw [h1]
  by_cases e : classAt S i = i
  ·rw [if_pos e, if_pos (h2.1 e)]
  ·rw [if_neg e, if_neg (fun e' => e (h2.2 e'))]
theorem reps_less {S T : WS} {a : Nat} (ha : classAt S a = a) (hb : ¬ classAt T a = a) : ∀ m, a < m → (∀ i, i < m → i ≠ a → (classAt S i = i ↔ classAt T i = i)) → reps T m + 1 = reps S m
 | 0, h, _ => by omega
 | i + 1, hm, h => by
  by_cases e : i = a
  ·subst e
   have h1 := reps_congr (S := S) (T := T) i (fun j hj => h j (by omega) (by omega))
   unfold reps
   rw [h1, if_pos ha, if_neg hb]
  ·have h1 := reps_less ha hb i (by omega) (fun j hj hne => h j (by omega) hne)
   have h2 := h i (by omega) e
   unfold reps
   by_cases e' : classAt S i = i
   ·rw [if_pos e', if_pos (h2.1 e')]; omega
   ·rw [if_neg e', if_neg (fun e'' => e' (h2.2 e''))]; omega
structure Closed (S : WS) (R : Nat → Nat → Prop) : Prop where
 refl : ∀ i, R i i
 symm : ∀ i j, R i j → R j i
 trans : ∀ i j k, R i j → R j k → R i k
 said : ∀ x ∈ S.said, x.1 = 0 → R x.2.1 x.2.2
 cong : ∀ (i j : Nat) (s t : Sh), S.shapes[i]? = some s → S.shapes[j]? = some t → s.1 = t.1 → s.2.1 = t.2.1 → (∀ k, k < s.2.1 → R (partAt s k) (partAt t k)) → R i j
theorem Closed.mono {S T : WS} {R : Nat → Nat → Prop} (h : Closed T R) (hs : ∀ (i : Nat) (s : Sh), S.shapes[i]? = some s → T.shapes[i]? = some s) (hd : ∀ x ∈ S.said, x ∈ T.said) : Closed S R :=
 ⟨h.refl, h.symm, h.trans, fun x hx => h.said x (hd x hx), fun i j s t hi hj => h.cong i j s t (hs i s hi) (hs j t hj)⟩
structure ShOK (i : Nat) (s : Sh) : Prop where
 name : s.1.size ≤ 1000
 count : s.2.1 ≤ 3
 part : ∀ j, j < s.2.1 → partAt s j < i
 rest : ∀ j, s.2.1 ≤ j → j < 3 → partAt s j = 0
structure Base (S : WS) : Prop where
 inv : Inv S
 good : ∀ (i : Nat) (s : Sh), S.shapes[i]? = some s → ShOK i s
 num : ∀ (s : Sh) (i : Nat), S.numbers s = some i ↔ S.shapes[i]? = some s
 rep : ∀ i, i < S.classes.length → classAt S (classAt S i) = classAt S i
 saidLt : ∀ x ∈ S.said, x.2.1 < S.classes.length ∧ x.2.2 < S.classes.length
 cls : ∀ R, Closed S R → ∀ i, i < S.classes.length → R i (classAt S i)
 alk : ∀ R, Closed S R → ∀ k t, S.alike k = some t → ∃ s, S.shapes[t]? = some s ∧ s.1 = k.1 ∧ s.2.1 = k.2.1 ∧ ∀ j, j < s.2.1 → R (partAt s j) (partAt k j)
structure Web (S : WS) : Prop where
 base : Base S
 eqs : ∀ x ∈ S.said, x.1 = 0 → classAt S x.2.1 = classAt S x.2.2
 stable : ∀ (i : Nat) (s : Sh), S.shapes[i]? = some s → ∃ t, S.alike (keyOfSh S s) = some t ∧ classAt S t = classAt S i
theorem Sh.ext' {s t : Sh} (h0 : s.1 = t.1) (h1 : s.2.1 = t.2.1) (h : ∀ j, j < 3 → partAt s j = partAt t j) : s = t := by
 obtain ⟨a, b, c, d, e⟩ := s
 obtain ⟨a', b', c', d', e'⟩ := t
 have h2 := h 0 (by omega)
 have h3 := h 1 (by omega)
 have h4 := h 2 (by omega)
 simp [partAt] at h0 h1 h2 h3 h4
 subst h0 h1 h2 h3 h4
 rfl
theorem keyTo_part (S : WS) (s : Sh) : ∀ (m j : Nat), m ≤ 3 → j < m → partAt (keyTo S s m) j = classAt S (partAt s j)
 | 0, _, _, h => by omega
 | m + 1, j, hm, hj => by
  unfold keyTo
  by_cases e : m = j
  ·subst e
   exact setPart_same
  ·rw [setPart_other (by omega) (by omega) e]
   exact keyTo_part S s m j (by omega) (by omega)
theorem key_part {S : WS} {s : Sh} (hs : s.2.1 ≤ 3) {j : Nat} (hj : j < s.2.1) : partAt (keyOfSh S s) j = classAt S (partAt s j) := keyTo_part S s _ j hs hj
theorem key_rest {S : WS} {s : Sh} {j : Nat} (hj : s.2.1 ≤ j) (h3 : j < 3) : partAt (keyOfSh S s) j = partAt s j := keyTo_later S s _ j hj h3
theorem key_name {S : WS} {s : Sh} : (keyOfSh S s).1 = s.1 ∧ (keyOfSh S s).2.1 = s.2.1 := keyTo_name S s _
theorem key_eq {S : WS} {s t : Sh} {i j : Nat} (hs : ShOK i s) (ht : ShOK j t) (h0 : s.1 = t.1) (h1 : s.2.1 = t.2.1) (h : ∀ k, k < s.2.1 → classAt S (partAt s k) = classAt S (partAt t k)) : keyOfSh S s = keyOfSh S t := by
 refine Sh.ext' (by rw [key_name.1, key_name.1, h0]) (by rw [key_name.2, key_name.2, h1]) fun k hk => ?_
 by_cases hc : k < s.2.1
 ·rw [key_part hs.count hc, key_part ht.count (by omega), h k hc]
 ·rw [key_rest (by omega) hk, key_rest (by omega) hk, hs.rest k (by omega) hk, ht.rest k (by omega) hk]
theorem key_classes {S T : WS} {s : Sh} (hs : s.2.1 ≤ 3) (h : ∀ k, k < s.2.1 → classAt S (partAt s k) = classAt T (partAt s k)) : keyOfSh S s = keyOfSh T s := by
 refine Sh.ext' (by rw [key_name.1, key_name.1]) (by rw [key_name.2, key_name.2]) fun k hk => ?_
 by_cases hc : k < s.2.1
 ·rw [key_part hs hc, key_part hs hc, h k hc]
 ·rw [key_rest (by omega) hk, key_rest (by omega) hk]
theorem Web.closed {S : WS} (h : Web S) : Closed S (fun i j => i = j ∨ (i < S.classes.length ∧ j < S.classes.length ∧ classAt S i = classAt S j)) := by
 refine ⟨fun i => .inl rfl, fun i j e => ?_, fun i j k e f => ?_, fun x hx h0 => ?_, fun i j s t hi hj h0 h1 hp => ?_⟩
 ·rcases e with e | ⟨a, b, c⟩
  ·exact .inl e.symm
  ·exact .inr ⟨b, a, c.symm⟩
 ·rcases e with rfl | ⟨a, b, c⟩
  ·exact f
  ·rcases f with rfl | ⟨a', b', c'⟩
   ·exact .inr ⟨a, b, c⟩
   ·exact .inr ⟨a, b', c.trans c'⟩
 ·obtain ⟨a, b⟩ := h.base.saidLt x hx
  exact .inr ⟨a, b, h.eqs x hx h0⟩
 ·obtain ⟨ti, e1, e2⟩ := h.stable i s hi
  obtain ⟨tj, f1, f2⟩ := h.stable j t hj
  have hk : keyOfSh S s = keyOfSh S t := key_eq (h.base.good i s hi) (h.base.good j t hj) h0 h1 (fun k hk => by
   rcases hp k hk with e | ⟨_, _, e⟩
   ·rw [e]
   ·exact e)
  rw [hk, f1] at e1
  cases e1
  have hli := (List.getElem?_eq_some_iff.1 hi).1
  have hlj := (List.getElem?_eq_some_iff.1 hj).1
  have hlen := h.base.inv.len
  exact .inr ⟨by omega, by omega, e2.symm.trans f2⟩
theorem Web.eq_iff {S : WS} (h : Web S) {i j : Nat} (hi : i < S.classes.length) (hj : j < S.classes.length) : classAt S i = classAt S j ↔ ∀ R, Closed S R → R i j := by
 constructor
 ·intro e R hR
  have h1 := h.base.cls R hR i hi
  have h2 := h.base.cls R hR j hj
  rw [e] at h1
  exact hR.trans _ _ _ h1 (hR.symm _ _ h2)
 ·intro hall
  rcases hall _ h.closed with e | ⟨_, _, e⟩
  ·rw [e]
  ·exact e
end Go.Proofs.YtmfkpllnmmfpiaaGreatDoor
