/-
  Plain: how the document's answer reads a text (Scan), as Lean functions; that it reads what the program reads.
-/
import Derived.Test.YtmfkpllnmmfpiaaGreatDoorRefDrawH
import Derived.Test.YtmfkpllnmmfpiaaGreatDoorSentH
import Derived.Test.YtmfkpllnmmfpiaaGreatDoorReadSizeH
import Derived.Test.YtmfkpllnmmfpiaaGreatDoorBookSayH
import Derived.Test.YtmfkpllnmmfpiaaGreatDoorWhyLawH
namespace Go.Proofs.YtmfkpllnmmfpiaaGreatDoor
open Go.RowKit

/-- Where a Scan stands; what is wrong, and where; what is out of range first (-1: nothing). -/
structure Sc where
  pos : Nat
  bad : Int
  out : Int
def blanksR (s : ByteArray) (x : Sc) : Sc := { x with pos := endOf blankB s x.pos }
def noR (x : Sc) : Sc := if x.bad < 0 then { x with bad := x.pos } else x
def isR (s : ByteArray) (c : Int) (x : Sc) : Bool := decide (x.bad < 0) && decide (endOf blankB s x.pos < s.size) && decide (byteAt s (endOf blankB s x.pos) = c)
def noName : ByteArray := ⟨#[]⟩
def nameR (s : ByteArray) (x : Sc) : ByteArray × Sc :=
  if 0 ≤ x.bad ∨ s.size ≤ endOf blankB s x.pos then (noName, noR (blanksR s x))
  else if letterB (byteAt s (endOf blankB s x.pos)) then (s.extract (endOf blankB s x.pos) (endOf wordB s (endOf blankB s x.pos)), { x with pos := endOf wordB s (endOf blankB s x.pos) })
  else (noName, noR (blanksR s x))
def farR (a : Nat) (x : Sc) : Sc := if x.out < 0 ∨ (a : Int) < x.out then { x with out := a } else x
def Sc.next (x : Sc) : Sc := { x with pos := x.pos + 1 }
def partsR (s : ByteArray) (f : Sc → Trm × Sc) : Nat → Sc → List Trm × Sc
  | 0, x => ([], x)
  | m + 1, x => if isR s 44 (f x).2 then ((f x).1 :: (partsR s f m (blanksR s (f x).2).next).1, (partsR s f m (blanksR s (f x).2).next).2) else ([(f x).1], blanksR s (f x).2)
/-- Behind the parts: the closing bracket. -/
def closeR (s : ByteArray) (a : Nat) (r : List Trm × Sc) : Sc :=
  let z := if isR s 41 r.2 then (blanksR s r.2).next else (noR (blanksR s r.2)).next
  if 3 < r.1.length then farR a z else z
def headR (s : ByteArray) (d : Nat) (x : Sc) : ByteArray × Sc :=
  let r := nameR s (blanksR s x)
  (r.1, if 8 < r.1.size ∨ 12 < d then farR (blanksR s x).pos r.2 else r.2)
def termR (s : ByteArray) : Nat → Nat → Sc → Trm × Sc
  | 0, _, x => (.node noName [], x)
  | n + 1, d, x =>
    if isR s 40 (headR s d x).2 then
      (.node (headR s d x).1 (partsR s (termR s n (d + 1)) (s.size + 1) (blanksR s (headR s d x).2).next).1,
        closeR s (blanksR s x).pos (partsR s (termR s n (d + 1)) (s.size + 1) (blanksR s (headR s d x).2).next))
    else (.node (headR s d x).1 [], blanksR s (headR s d x).2)
/-- The sign: is it = ? -/
def signR (s : ByteArray) (x : Sc) : Bool × Sc :=
  if isR s 61 x then (true, (blanksR s x).next)
  else if isR s 33 x then
    (false, (if s.size ≤ (blanksR s x).next.pos ∨ byteAt s (blanksR s x).next.pos ≠ 61 then noR (blanksR s x).next else (blanksR s x).next).next)
  else (false, noR (blanksR s x))
structure Read3 where
  l : Trm
  eq : Bool
  r : Trm
  x : Sc
def scanR (s : ByteArray) : Read3 :=
  let a := termR s (s.size + 1) 0 ⟨0, -1, -1⟩
  let b := signR s a.2
  let c := termR s (s.size + 1) 0 b.2
  let d := blanksR s c.2
  ⟨a.1, b.1, c.1, if d.bad < 0 ∧ d.pos < s.size then noR d else d⟩
/-- What reading comes to: the sentence, or the error and its place. -/
def refRead (s : ByteArray) : Option ST × Int × Int :=
  if 200 < s.size then (none, 1, 0)
  else if 0 ≤ (scanR s).x.bad then (none, 2, (scanR s).x.bad)
  else if 0 ≤ (scanR s).x.out then (none, 3, (scanR s).x.out)
  else (some ⟨(scanR s).eq, (scanR s).l, (scanR s).r⟩, 0, 0)

theorem blank_again (s : ByteArray) (i : Nat) : endOf blankB s (endOf blankB s i) = endOf blankB s i := by
  have key : ∀ n i, ¬ (runTo blankB s n i < s.size ∧ blankB (byteAt s (runTo blankB s n i)) = true) ∨ runTo blankB s n i = i + n := by
    intro n
    induction n with
    | zero => intro i; exact .inr rfl
    | succ n ih =>
      intro i
      unfold runTo
      by_cases h : i < s.size ∧ blankB (byteAt s i) = true
      · rw [if_pos h]
        rcases ih (i + 1) with h1 | h1
        · exact .inl h1
        · exact .inr (by rw [h1]; omega)
      · rw [if_neg h]
        exact .inl h
  refine endOf_stop fun hh => ?_
  have hk := key (s.size - i) i
  rcases hk with h | h
  · exact h hh
  · have h2 : endOf blankB s i = i + (s.size - i) := h
    have h3 := hh.1
    rw [h2] at h3
    omega
theorem wordAt_again (s : ByteArray) (i : Nat) : wordAt s (endOf blankB s i) = wordAt s i := by
  unfold wordAt
  rw [blank_again]
theorem wordAt_from (s : ByteArray) (i : Nat) : (wordAt s i).2.1 = endOf blankB s i := by
  unfold wordAt
  simp only
  repeat' split
  all_goals first | rfl | omega
theorem kindOf_letter {b : Int} (h : letterB b = true) : kindOf b = 0 := by unfold kindOf; rw [if_pos h]
theorem kindOf_zero {b : Int} : kindOf b = 0 ↔ letterB b = true := by
  unfold kindOf
  by_cases h : letterB b = true
  · rw [if_pos h]; exact ⟨fun _ => h, fun _ => rfl⟩
  · rw [if_neg h]
    refine ⟨fun e => ?_, fun e => absurd e h⟩
    repeat' split at e
    all_goals cases e
theorem not_letter {b : Int} (h : b < 97) : ¬ letterB b = true := by
  unfold letterB
  simp
  omega
theorem kindOf_1 (b : Int) : kindOf b = 1 ↔ b = 40 := by
  by_cases h : letterB b = true
  · rw [kindOf_letter h]
    exact ⟨fun e => (by cases e), fun e => absurd h (not_letter (by omega))⟩
  · unfold kindOf
    rw [if_neg h]
    repeat' split
    all_goals (constructor <;> intro e <;> first | assumption | (exfalso; omega) | rfl)
theorem kindOf_2 (b : Int) : kindOf b = 2 ↔ b = 41 := by
  by_cases h : letterB b = true
  · rw [kindOf_letter h]
    exact ⟨fun e => (by cases e), fun e => absurd h (not_letter (by omega))⟩
  · unfold kindOf
    rw [if_neg h]
    repeat' split
    all_goals (constructor <;> intro e <;> first | assumption | (exfalso; omega) | rfl)
theorem kindOf_3 (b : Int) : kindOf b = 3 ↔ b = 44 := by
  by_cases h : letterB b = true
  · rw [kindOf_letter h]
    exact ⟨fun e => (by cases e), fun e => absurd h (not_letter (by omega))⟩
  · unfold kindOf
    rw [if_neg h]
    repeat' split
    all_goals (constructor <;> intro e <;> first | assumption | (exfalso; omega) | rfl)
theorem kindOf_4 (b : Int) : kindOf b = 4 ↔ b = 61 := by
  by_cases h : letterB b = true
  · rw [kindOf_letter h]
    exact ⟨fun e => (by cases e), fun e => absurd h (not_letter (by omega))⟩
  · unfold kindOf
    rw [if_neg h]
    repeat' split
    all_goals (constructor <;> intro e <;> first | assumption | (exfalso; omega) | rfl)
theorem kindOf_6 (b : Int) : kindOf b = 6 ↔ b = 33 := by
  by_cases h : letterB b = true
  · rw [kindOf_letter h]
    exact ⟨fun e => (by cases e), fun e => absurd h (not_letter (by omega))⟩
  · unfold kindOf
    rw [if_neg h]
    repeat' split
    all_goals (constructor <;> intro e <;> first | assumption | (exfalso; omega) | rfl)
theorem kindOf_not (b : Int) : kindOf b ≠ 5 ∧ kindOf b ≠ 7 := by
  unfold kindOf
  repeat' split
  all_goals (constructor <;> decide)
theorem byteAt_past {s : ByteArray} {i : Nat} (h : s.size ≤ i) : byteAt s i = 0 := by
  unfold byteAt
  rw [List.getD_eq_getElem?_getD, List.getElem?_eq_none (by simpa using h)]
  rfl
/-- A sign's word: what byte stands there. -/
theorem word_sig {s : ByteArray} {i : Nat} {k c : Int} (hkc : ∀ b, kindOf b = k ↔ b = c) (h0 : k ≠ 0) (h5 : k ≠ 5) (h6 : k ≠ 6) (h7 : k ≠ 7) (hc : c ≠ 0) : ((wordAt s i).1 = k ↔ endOf blankB s i < s.size ∧ byteAt s (endOf blankB s i) = c) ∧ ((wordAt s i).1 = k → (wordAt s i).2.2 = endOf blankB s i + 1) := by
  unfold wordAt
  simp only
  generalize endOf blankB s i = f
  by_cases e0 : f = s.size
  · rw [if_pos e0]
    exact ⟨⟨fun h => absurd h.symm h7, fun h => by omega⟩, fun h => absurd h.symm h7⟩
  · rw [if_neg e0]
    by_cases e1 : kindOf (byteAt s f) = 0
    · rw [if_pos e1]
      refine ⟨⟨fun h => absurd h.symm h0, fun h => ?_⟩, fun h => absurd h.symm h0⟩
      have := (hkc _).2 h.2
      exact absurd (this.symm.trans e1) h0
    · rw [if_neg e1]
      by_cases e2 : kindOf (byteAt s f) = 6 ∧ f + 1 < s.size ∧ byteAt s (f + 1) = 61
      · rw [if_pos e2]
        refine ⟨⟨fun h => absurd h.symm h5, fun h => ?_⟩, fun h => absurd h.symm h5⟩
        have := (hkc _).2 h.2
        exact absurd (this.symm.trans e2.1) h6
      · rw [if_neg e2]
        refine ⟨⟨fun h => ?_, fun h => (hkc _).2 h.2⟩, fun _ => rfl⟩
        have h3 := (hkc _).1 h
        by_cases h4 : f < s.size
        · exact ⟨h4, h3⟩
        · rw [byteAt_past (by omega)] at h3
          exact absurd h3.symm hc
end Go.Proofs.YtmfkpllnmmfpiaaGreatDoor

/-
  Plain: the document's answer reads just what the program reads.
-/
namespace Go.Proofs.YtmfkpllnmmfpiaaGreatDoor
open Go.RowKit

def orO (o : Int) (r : Option (Int × Nat)) : Int := if 0 ≤ o then o else match r with
  | some (_, p) => (p : Int)
  | none => -1
def OutOK (o : Int) (p : Nat) : Prop := o = -1 ∨ (0 ≤ o ∧ o < (p : Int))
theorem OutOK.mono {o : Int} {p q : Nat} (h : OutOK o p) (hpq : p ≤ q) : OutOK o q := h.imp id fun h => ⟨h.1, by omega⟩
theorem isR_bad {s : ByteArray} {c : Int} {x : Sc} (h : 0 ≤ x.bad) : isR s c x = false := by
  unfold isR
  rw [decide_eq_false (by omega)]
  simp
theorem isR_word {s : ByteArray} {k c : Int} {x : Sc} (hkc : ∀ b, kindOf b = k ↔ b = c) (h0 : k ≠ 0) (h5 : k ≠ 5) (h6 : k ≠ 6) (h7 : k ≠ 7) (hc : c ≠ 0) (hb : x.bad = -1) : isR s c x = true ↔ (wordAt s x.pos).1 = k := by
  rw [(word_sig hkc h0 h5 h6 h7 hc).1]
  unfold isR
  rw [decide_eq_true (by omega : x.bad < 0)]
  simp
theorem is_open {s : ByteArray} {x : Sc} (hb : x.bad = -1) : isR s 40 x = true ↔ (wordAt s x.pos).1 = 1 := isR_word kindOf_1 (by decide) (by decide) (by decide) (by decide) (by decide) hb
theorem is_close {s : ByteArray} {x : Sc} (hb : x.bad = -1) : isR s 41 x = true ↔ (wordAt s x.pos).1 = 2 := isR_word kindOf_2 (by decide) (by decide) (by decide) (by decide) (by decide) hb
theorem is_comma {s : ByteArray} {x : Sc} (hb : x.bad = -1) : isR s 44 x = true ↔ (wordAt s x.pos).1 = 3 := isR_word kindOf_3 (by decide) (by decide) (by decide) (by decide) (by decide) hb
theorem is_equal {s : ByteArray} {x : Sc} (hb : x.bad = -1) : isR s 61 x = true ↔ (wordAt s x.pos).1 = 4 := isR_word kindOf_4 (by decide) (by decide) (by decide) (by decide) (by decide) hb
theorem to_open {s : ByteArray} {i : Nat} (h : (wordAt s i).1 = 1) : (wordAt s i).2.2 = endOf blankB s i + 1 ∧ endOf blankB s i < s.size := ⟨(word_sig kindOf_1 (by decide) (by decide) (by decide) (by decide) (by decide)).2 h, ((word_sig kindOf_1 (by decide) (by decide) (by decide) (by decide) (by decide)).1.1 h).1⟩
theorem to_close {s : ByteArray} {i : Nat} (h : (wordAt s i).1 = 2) : (wordAt s i).2.2 = endOf blankB s i + 1 ∧ endOf blankB s i < s.size := ⟨(word_sig kindOf_2 (by decide) (by decide) (by decide) (by decide) (by decide)).2 h, ((word_sig kindOf_2 (by decide) (by decide) (by decide) (by decide) (by decide)).1.1 h).1⟩
theorem to_comma {s : ByteArray} {i : Nat} (h : (wordAt s i).1 = 3) : (wordAt s i).2.2 = endOf blankB s i + 1 ∧ endOf blankB s i < s.size := ⟨(word_sig kindOf_3 (by decide) (by decide) (by decide) (by decide) (by decide)).2 h, ((word_sig kindOf_3 (by decide) (by decide) (by decide) (by decide) (by decide)).1.1 h).1⟩
theorem to_equal {s : ByteArray} {i : Nat} (h : (wordAt s i).1 = 4) : (wordAt s i).2.2 = endOf blankB s i + 1 ∧ endOf blankB s i < s.size := ⟨(word_sig kindOf_4 (by decide) (by decide) (by decide) (by decide) (by decide)).2 h, ((word_sig kindOf_4 (by decide) (by decide) (by decide) (by decide) (by decide)).1.1 h).1⟩
/-- A name's word. -/
theorem word_name {s : ByteArray} {i : Nat} (h : (wordAt s i).1 = 0) : endOf blankB s i < s.size ∧ letterB (byteAt s (endOf blankB s i)) = true ∧ (wordAt s i).2.2 = endOf wordB s (endOf blankB s i) := by
  have hk : kindOf (byteAt s (endOf blankB s i)) = 0 ∧ endOf blankB s i ≠ s.size ∧ (wordAt s i).2.2 = endOf wordB s (endOf blankB s i + 1) := by
    revert h
    unfold wordAt
    simp only
    split
    · intro h; cases h
    · rename_i h0
      split
      · rename_i h1
        exact fun _ => ⟨h1, h0, rfl⟩
      · split
        · intro h; cases h
        · rename_i h1 _
          exact fun h => absurd h h1
  have hl := kindOf_zero.1 hk.1
  have hlt : endOf blankB s i < s.size := by
    by_cases h4 : endOf blankB s i < s.size
    · exact h4
    · rw [byteAt_past (by omega)] at hl
      exact absurd hl (not_letter (by omega))
  refine ⟨hlt, hl, ?_⟩
  rw [hk.2.2]
  exact (endOf_step hlt (by unfold wordB; rw [hl]; rfl)).symm
theorem word_noname {s : ByteArray} {i : Nat} (h : (wordAt s i).1 ≠ 0) : s.size ≤ endOf blankB s i ∨ letterB (byteAt s (endOf blankB s i)) = false := by
  by_cases h4 : endOf blankB s i < s.size
  · right
    cases hl : letterB (byteAt s (endOf blankB s i)) with
    | false => rfl
    | true => exact absurd (by rw [wordAt_name rfl h4 (kindOf_zero.2 hl)]) h
  · exact .inl (by omega)
theorem nameR_none {s : ByteArray} {x : Sc} (hb : x.bad = -1) (h : (wordAt s x.pos).1 ≠ 0) : (nameR s x) = (noName, { x with pos := endOf blankB s x.pos, bad := (endOf blankB s x.pos : Nat) }) := by
  have hn : noR (blanksR s x) = { x with pos := endOf blankB s x.pos, bad := (endOf blankB s x.pos : Nat) } := by
    unfold noR blanksR
    rw [if_pos (by show x.bad < 0; omega)]
  unfold nameR
  rcases word_noname h with h1 | h1
  · rw [if_pos (.inr h1), hn]
  · by_cases h2 : s.size ≤ endOf blankB s x.pos
    · rw [if_pos (.inr h2), hn]
    · rw [if_neg (by omega), if_neg (by rw [h1]; simp), hn]
theorem nameR_some {s : ByteArray} {x : Sc} (hb : x.bad = -1) (h : (wordAt s x.pos).1 = 0) : nameR s x = (s.extract (wordAt s x.pos).2.1 (wordAt s x.pos).2.2, { x with pos := (wordAt s x.pos).2.2 }) := by
  obtain ⟨h1, h2, h3⟩ := word_name h
  unfold nameR
  rw [if_neg (by omega), if_pos h2, wordAt_from, h3]

theorem farR_bad (a : Nat) (x : Sc) : (farR a x).bad = x.bad ∧ (farR a x).pos = x.pos := by
  unfold farR
  split <;> exact ⟨rfl, rfl⟩
theorem noR_keep {x : Sc} (h : 0 ≤ x.bad) : noR x = x := by unfold noR; rw [if_neg (by omega)]
/-- Once something is wrong it stays. -/
theorem headR_at {s : ByteArray} {d : Nat} {x : Sc} : (headR s d x).2.bad = (nameR s (blanksR s x)).2.bad ∧ (headR s d x).2.pos = (nameR s (blanksR s x)).2.pos := by
  unfold headR
  simp only
  split
  · exact farR_bad _ _
  · exact ⟨rfl, rfl⟩

/-- What reading a term comes to, on both sides. -/
structure TermOK2 (s : ByteArray) (n d : Nat) (x : Sc) (t : Tm n) (st2 : Wd) : Prop where
  term : (termR s n d x).1 = erase n t
  bad : (termR s n d x).2.bad = -1
  pos : (termR s n d x).2.pos ≤ s.size
  word : wordAt s (termR s n d x).2.pos = st2
  out : (termR s n d x).2.out = orO x.out (rangeOf n t d)
  place : ∀ q p, rangeOf n t d = some (q, p) → (wordAt s x.pos).2.1 ≤ p
  later : OutOK (termR s n d x).2.out st2.2.1
  more : x.pos ≤ (termR s n d x).2.pos
def TermLaw (s : ByteArray) (n d : Nat) : Prop := ∀ x : Sc, x.bad = -1 → x.pos ≤ s.size → s.size < x.pos + n → OutOK x.out (wordAt s x.pos).2.1 →
  (∀ t st2, termOf s n (wordAt s x.pos) = (some t, st2) → TermOK2 s n d x t st2) ∧ (∀ st2, termOf s n (wordAt s x.pos) = (none, st2) → (termR s n d x).2.bad = (st2.2.1 : Nat))
structure PartsOK2 (s : ByteArray) (n d m : Nat) (x : Sc) (ts : List (Tm n)) (st2 : Wd) : Prop where
  term : (partsR s (termR s n d) m x).1 = ts.map (erase n)
  bad : (partsR s (termR s n d) m x).2.bad = -1
  close : (wordAt s (partsR s (termR s n d) m x).2.pos).1 = 2
  word : wordAt s (endOf blankB s (partsR s (termR s n d) m x).2.pos + 1) = st2
  out : (partsR s (termR s n d) m x).2.out = orO x.out (firstOf (fun p => rangeOf n p d) ts)
  place : ∀ q p, firstOf (fun p => rangeOf n p d) ts = some (q, p) → x.pos ≤ p
  later : OutOK (partsR s (termR s n d) m x).2.out (endOf blankB s (partsR s (termR s n d) m x).2.pos)
  more : x.pos ≤ (partsR s (termR s n d) m x).2.pos
theorem orO_orO (o : Int) (ho : o = -1 ∨ 0 ≤ o) (a b : Option (Int × Nat)) : orO (orO o a) b = orO o (match a with | some c => some c | none => b) := by
  unfold orO
  rcases ho with rfl | ho
  · cases a with
    | none => simp
    | some c =>
      obtain ⟨q, p⟩ := c
      simp
  · rw [if_pos ho, if_pos ho, if_pos ho]
theorem firstOf_cons {α β : Type} (f : α → Option β) (a : α) (l : List α) : firstOf f (a :: l) = (match f a with | some c => some c | none => firstOf f l) := by
  cases h : f a with
  | none => simp only [firstOf, h]
  | some c => simp only [firstOf, h]
theorem parts_law {s : ByteArray} {n d : Nat} (hT : TermLaw s n d) : ∀ (m : Nat) (x : Sc) (st : Wd), st.2.2 = x.pos → x.bad = -1 → x.pos ≤ s.size → s.size < x.pos + m → s.size < x.pos + n → OutOK x.out x.pos →
    (∀ ts st2, partsOf s (termOf s n) m st = (some ts, st2) → PartsOK2 s n d m x ts st2) ∧
    (∀ st2, partsOf s (termOf s n) m st = (none, st2) → (noR (blanksR s (partsR s (termR s n d) m x).2)).bad = (st2.2.1 : Nat) ∧ isR s 41 (partsR s (termR s n d) m x).2 = false)
  | 0, x, _, _, _, h1, h2, _, _ => by omega
  | m + 1, x, st, hst, hb, hp, hm, hn, ho => by
    have hfrom := wordAt_from s x.pos
    have hle := wordAt_le s x.pos hp
    obtain ⟨hS, hN⟩ := hT x hb hp hn (ho.mono hle.1)
    unfold partsOf
    rw [hst]
    cases hq : termOf s n (wordAt s x.pos) with
    | mk o st1 =>
      cases o with
      | none =>
        refine ⟨fun ts st2 h => by simp at h, fun st2 h => ?_⟩
        simp only [Prod.mk.injEq, true_and] at h
        subst h
        have hbad := hN st1 hq
        have hf : isR s 44 (termR s n d x).2 = false := isR_bad (by omega)
        unfold partsR
        rw [hf]
        simp only [Bool.false_eq_true, if_false]
        have hb2 : (blanksR s (termR s n d x).2).bad = (st1.2.1 : Nat) := hbad
        have hb3 : (blanksR s (blanksR s (termR s n d x).2)).bad = (st1.2.1 : Nat) := hbad
        rw [noR_keep (by omega)]
        exact ⟨hb3, isR_bad (by omega)⟩
      | some t =>
        have T := hS t st1 hq
        have hw := T.word
        have hfr : st1.2.1 = endOf blankB s (termR s n d x).2.pos := by rw [← hw, wordAt_from]
        have hlt := wordAt_le s (termR s n d x).2.pos T.pos
        rw [hw] at hlt
        simp only
        by_cases hc : st1.1 = 3
        · have h2 : ¬ st1.1 = 2 := by omega
          rw [if_neg h2, if_pos hc]
          have hcm : isR s 44 (termR s n d x).2 = true := (is_comma T.bad).2 (by rw [hw]; exact hc)
          obtain ⟨e1, e2⟩ := to_comma (s := s) (i := (termR s n d x).2.pos) (by rw [hw]; exact hc)
          rw [hw] at e1
          have hpos : (blanksR s (termR s n d x).2).next.pos = endOf blankB s (termR s n d x).2.pos + 1 := rfl
          obtain ⟨kS, kN⟩ := parts_law hT m (blanksR s (termR s n d x).2).next st1 (by rw [hpos]; exact e1) T.bad (by rw [hpos]; omega) (by rw [hpos]; have := T.more; omega) (by rw [hpos]; have := T.more; omega) ((show OutOK (termR s n d x).2.out st1.2.1 from T.later).mono (by rw [hpos]; omega))
          have hR : partsR s (termR s n d) (m + 1) x = ((termR s n d x).1 :: (partsR s (termR s n d) m (blanksR s (termR s n d x).2).next).1, (partsR s (termR s n d) m (blanksR s (termR s n d x).2).next).2) := by
            conv => lhs; unfold partsR
            rw [hcm]
            rfl
          cases hq2 : partsOf s (termOf s n) m st1 with
          | mk o2 st3 =>
            cases o2 with
            | none =>
              refine ⟨fun ts st2 h => by simp at h, fun st2 h => ?_⟩
              simp only [Prod.mk.injEq, true_and] at h
              subst h
              rw [hR]
              exact kN st3 hq2
            | some ts =>
              refine ⟨fun ts' st2 h => ?_, fun st2 h => by simp at h⟩
              simp only [Prod.mk.injEq, Option.some.injEq] at h
              obtain ⟨rfl, rfl⟩ := h
              have K := kS ts st3 hq2
              have hoo : x.out = -1 ∨ 0 ≤ x.out := ho.imp id (fun h => h.1)
              refine ⟨by rw [hR]; simp only [List.map_cons]; rw [T.term, K.term], by rw [hR]; exact K.bad, by rw [hR]; exact K.close, by rw [hR]; exact K.word, ?_, fun q p hqp => ?_, by rw [hR]; exact K.later, ?_⟩
              · rw [hR]
                simp only
                rw [K.out]
                show orO (termR s n d x).2.out _ = _
                rw [T.out, orO_orO _ hoo, firstOf_cons]
                cases rangeOf n t d <;> rfl
              · rw [firstOf_cons] at hqp
                cases hr : rangeOf n t d with
                | some c =>
                  rw [hr] at hqp
                  simp only [Option.some.injEq] at hqp
                  subst hqp
                  have := T.place q p hr
                  omega
                | none =>
                  rw [hr] at hqp
                  have h9 := K.place q p hqp
                  rw [hpos] at h9
                  have := T.more
                  omega
              · rw [hR]
                simp only
                have h9 := K.more
                rw [hpos] at h9
                have := T.more
                omega
        · have hcm : isR s 44 (termR s n d x).2 = false := by
            cases hh : isR s 44 (termR s n d x).2 with
            | false => rfl
            | true => exact absurd ((is_comma T.bad).1 hh) (by rw [hw]; exact hc)
          have hR : partsR s (termR s n d) (m + 1) x = ([(termR s n d x).1], blanksR s (termR s n d x).2) := by
            unfold partsR
            rw [hcm]
            rfl
          have hag : endOf blankB s (blanksR s (termR s n d x).2).pos = endOf blankB s (termR s n d x).2.pos := blank_again s _
          have hwg : wordAt s (blanksR s (termR s n d x).2).pos = st1 := by rw [← hw]; exact wordAt_again s _
          by_cases h2 : st1.1 = 2
          · rw [if_pos h2]
            refine ⟨fun ts st2 h => ?_, fun st2 h => by simp at h⟩
            simp only [Prod.mk.injEq, Option.some.injEq] at h
            obtain ⟨rfl, rfl⟩ := h
            obtain ⟨e1, e2⟩ := to_close (s := s) (i := (termR s n d x).2.pos) (by rw [hw]; exact h2)
            rw [hw] at e1
            have hbl := endOf_le blankB s (termR s n d x).2.pos T.pos
            refine ⟨by rw [hR]; simp [T.term], by rw [hR]; exact T.bad, by rw [hR]; rw [hwg]; exact h2, by rw [hR]; simp only; rw [hag, e1], ?_, fun q p hqp => ?_, ?_, ?_⟩
            · rw [hR]
              show (termR s n d x).2.out = _
              rw [T.out, firstOf_cons]
              cases rangeOf n t d <;> rfl
            · rw [firstOf_cons] at hqp
              cases hr : rangeOf n t d with
              | some c =>
                rw [hr] at hqp
                simp only [Option.some.injEq] at hqp
                subst hqp
                have := T.place q p hr
                omega
              | none => rw [hr] at hqp; cases hqp
            · rw [hR]
              simp only
              rw [hag, ← hfr]
              exact T.later
            · rw [hR]
              show x.pos ≤ endOf blankB s (termR s n d x).2.pos
              have := T.more
              omega
          · rw [if_neg h2, if_neg hc]
            refine ⟨fun ts st2 h => by simp at h, fun st2 h => ?_⟩
            simp only [Prod.mk.injEq, true_and] at h
            subst h
            rw [hR]
            simp only
            constructor
            · unfold noR
              rw [if_pos (by show (termR s n d x).2.bad < 0; rw [T.bad]; omega)]
              show ((endOf blankB s (blanksR s (termR s n d x).2).pos : Nat) : Int) = _
              rw [hag, ← hfr]
            · cases hh : isR s 41 (blanksR s (termR s n d x).2) with
              | false => rfl
              | true => exact absurd ((is_close (x := blanksR s (termR s n d x).2) T.bad).1 hh) (by rw [hwg]; exact h2)
theorem farR_out {x : Sc} {a : Nat} (h : OutOK x.out a) (k : Int) : (farR a x).out = orO x.out (some (k, a)) := by
  unfold farR orO
  rcases h with h | h
  · rw [if_pos (.inl (by omega)), if_neg (by omega)]
  · rw [if_neg (by omega), if_pos h.1]
theorem orO_ok {o : Int} {a b : Nat} {r : Option (Int × Nat)} (h : OutOK o a) (hr : ∀ q p, r = some (q, p) → p < b) (hab : a ≤ b) : OutOK (orO o r) b := by
  unfold orO
  rcases h with h | h
  · rw [if_neg (by omega)]
    cases r with
    | none => exact .inl rfl
    | some c =>
      obtain ⟨q, p⟩ := c
      have := hr q p rfl
      exact .inr ⟨by simp, by simp; omega⟩
  · rw [if_pos h.1]
    exact .inr ⟨h.1, by omega⟩
set_option maxHeartbeats 2000000 in
theorem term_law (s : ByteArray) : ∀ n d, TermLaw s n d
  | 0, d => fun x hb hp hn _ => by omega
  | n + 1, d => fun x hb hp hn ho => by
    have hfrom := wordAt_from s x.pos
    have hle := wordAt_le s x.pos hp
    have hbp : (blanksR s x).pos = (wordAt s x.pos).2.1 := hfrom.symm
    have hbw : wordAt s (blanksR s x).pos = wordAt s x.pos := wordAt_again s x.pos
    by_cases hk : (wordAt s x.pos).1 = 0
    · have hnm := nameR_some (s := s) (x := blanksR s x) hb (by rw [hbw]; exact hk)
      rw [hbw] at hnm
      have hlt : (wordAt s x.pos).2.1 < (wordAt s x.pos).2.2 := wordAt_lt s x.pos hp (by omega)
      obtain ⟨nm, hnmE⟩ : ∃ nm, s.extract (wordAt s x.pos).2.1 (wordAt s x.pos).2.2 = nm := ⟨_, rfl⟩
      rw [hnmE] at hnm
      have hH1 : (headR s d x).1 = nm := by unfold headR; rw [hnm]
      have hH2 : (headR s d x).2.bad = -1 := by rw [headR_at.1, hnm]; exact hb
      have hH3 : (headR s d x).2.pos = (wordAt s x.pos).2.2 := by rw [headR_at.2, hnm]
      have hH4 : (headR s d x).2.out = if 8 < nm.size ∨ 12 < d then orO x.out (some (3, (wordAt s x.pos).2.1)) else x.out := by
        unfold headR
        rw [hnm, hbp]
        simp only
        split
        · exact farR_out (x := { blanksR s x with pos := (wordAt s x.pos).2.2 }) ho 3
        · rfl
      have hH5 : OutOK (headR s d x).2.out (wordAt s x.pos).2.2 := by
        rw [hH4]
        split
        · exact orO_ok ho (fun q p h => by cases h; exact hlt) (by omega)
        · exact ho.mono (by omega)
      have hoo : x.out = -1 ∨ 0 ≤ x.out := ho.imp id (fun h => h.1)
      by_cases h1 : (wordAt s (wordAt s x.pos).2.2).1 = 1
      · have hop : isR s 40 (headR s d x).2 = true := (is_open hH2).2 (by rw [hH3]; exact h1)
        obtain ⟨e1, e2⟩ := to_open (s := s) (i := (wordAt s x.pos).2.2) h1
        have hpos : (blanksR s (headR s d x).2).next.pos = endOf blankB s (wordAt s x.pos).2.2 + 1 := by
          show endOf blankB s (headR s d x).2.pos + 1 = _
          rw [hH3]
        have hbl := endOf_le blankB s (wordAt s x.pos).2.2 (by omega)
        obtain ⟨kS, kN⟩ := parts_law (term_law s n (d + 1)) (s.size + 1) (blanksR s (headR s d x).2).next (wordAt s (wordAt s x.pos).2.2) (by rw [hpos]; exact e1) hH2 (by rw [hpos]; omega) (by omega) (by rw [hpos]; omega) (hH5.mono (by rw [hpos]; omega))
        obtain ⟨r, hr⟩ : ∃ r, partsR s (termR s n (d + 1)) (s.size + 1) (blanksR s (headR s d x).2).next = r := ⟨_, rfl⟩
        have hT : termR s (n + 1) d x = (.node nm r.1, closeR s (wordAt s x.pos).2.1 r) := by
          unfold termR
          rw [if_pos hop, hr, hH1, hbp]
        cases hq : partsOf s (termOf s n) (s.size + 1) (wordAt s (wordAt s x.pos).2.2) with
        | mk o st2 =>
          cases o with
          | none =>
            rw [termOf_fails hk h1 hq]
            refine ⟨fun t st h => by simp at h, fun st h => ?_⟩
            simp only [Prod.mk.injEq, true_and] at h
            subst h
            obtain ⟨b1, b2⟩ := kN st2 hq
            rw [hr] at b1 b2
            rw [hT]
            simp only
            unfold closeR
            rw [b2]
            simp only [Bool.false_eq_true, if_false]
            split
            · rw [(farR_bad _ _).1]; exact b1
            · exact b1
          | some ps =>
            rw [termOf_parts hk h1 hq]
            refine ⟨fun t st h => ?_, fun st h => by simp at h⟩
            simp only [Prod.mk.injEq, Option.some.injEq] at h
            obtain ⟨rfl, rfl⟩ := h
            have K := kS ps st2 hq
            obtain ⟨K1, K2, K3, K4, K5, K6, K7, K8⟩ := K
            rw [hr] at K1 K2 K3 K4 K5 K7 K8
            have hcl : isR s 41 r.2 = true := (is_close K2).2 K3
            obtain ⟨c1, c2⟩ := to_close (s := s) (i := r.2.pos) K3
            have hlen : r.1.length = ps.length := by rw [K1, List.length_map]
            have hz : closeR s (wordAt s x.pos).2.1 r = (if 3 < ps.length then farR (wordAt s x.pos).2.1 (blanksR s r.2).next else (blanksR s r.2).next) := by
              unfold closeR
              rw [hcl, hlen]
              rfl
            have zb : (closeR s (wordAt s x.pos).2.1 r).bad = -1 := by
              rw [hz]
              split
              · rw [(farR_bad _ _).1]; exact K2
              · exact K2
            have zp : (closeR s (wordAt s x.pos).2.1 r).pos = endOf blankB s r.2.pos + 1 := by
              rw [hz]
              split
              · rw [(farR_bad _ _).2]; rfl
              · rfl
            rw [hpos] at K8
            have hblr : r.2.pos ≤ endOf blankB s r.2.pos := by
              by_cases h9 : r.2.pos ≤ s.size
              · exact (endOf_le blankB s r.2.pos h9).1
              · rw [endOf_stop (by omega)]; omega
            have hplace : ∀ q p, firstOf (fun p => rangeOf n p (d + 1)) ps = some (q, p) → (wordAt s x.pos).2.1 < p := fun q p h => by
              have h9 := K6 q p h
              rw [hpos] at h9
              omega
            have hrange : rangeOf (n + 1) (Tm.mk nm (wordAt s x.pos).2.1 ps) d = if 8 < nm.size then some (3, (wordAt s x.pos).2.1) else if 3 < ps.length then some (4, (wordAt s x.pos).2.1) else if 12 < d then some (5, (wordAt s x.pos).2.1) else firstOf (fun p => rangeOf n p (d + 1)) ps := rfl
            have zo : (closeR s (wordAt s x.pos).2.1 r).out = orO x.out (rangeOf (n + 1) (Tm.mk nm (wordAt s x.pos).2.1 ps) d) := by
              have hout : (blanksR s r.2).next.out = orO (headR s d x).2.out (firstOf (fun p => rangeOf n p (d + 1)) ps) := K5
              rw [hz, hrange]
              rcases ho with ho1 | ho1
              · by_cases hbad : 8 < nm.size ∨ 12 < d
                · have e : (blanksR s r.2).next.out = ((wordAt s x.pos).2.1 : Int) := by
                    rw [hout, hH4, if_pos hbad, ho1]
                    simp [orO]
                  have e3 : orO x.out (if 8 < nm.size then some (3, (wordAt s x.pos).2.1) else if 3 < ps.length then some (4, (wordAt s x.pos).2.1) else if 12 < d then some (5, (wordAt s x.pos).2.1) else firstOf (fun p => rangeOf n p (d + 1)) ps) = ((wordAt s x.pos).2.1 : Int) := by
                    rw [ho1]
                    unfold orO
                    rw [if_neg (by decide)]
                    by_cases a1 : 8 < nm.size
                    · rw [if_pos a1]
                    · rw [if_neg a1]
                      by_cases a2 : 3 < ps.length
                      · rw [if_pos a2]
                      · rw [if_neg a2, if_pos (by omega)]
                  rw [e3]
                  split
                  · unfold farR
                    rw [if_neg (by rw [e]; omega)]
                    exact e
                  · exact e
                · rw [hH4, if_neg hbad, ho1] at hout
                  rw [if_neg (by omega : ¬ 8 < nm.size), if_neg (by omega : ¬ 12 < d), ho1]
                  split
                  · rename_i h3
                    have hf : (blanksR s r.2).next.out < 0 ∨ ((wordAt s x.pos).2.1 : Int) < (blanksR s r.2).next.out := by
                      rw [hout]
                      unfold orO
                      rw [if_neg (by decide)]
                      cases hfo : firstOf (fun p => rangeOf n p (d + 1)) ps with
                      | none => exact .inl (by decide)
                      | some c =>
                        obtain ⟨q, p⟩ := c
                        have := hplace q p hfo
                        exact .inr (by simp; omega)
                    unfold farR
                    rw [if_pos hf]
                    simp [orO]
                  · exact hout
              · have e : (blanksR s r.2).next.out = x.out := by
                  rw [hout, hH4]
                  unfold orO
                  split <;> simp [ho1.1]
                have e3 : ∀ r, orO x.out r = x.out := fun r => by unfold orO; rw [if_pos ho1.1]
                rw [e3]
                split
                · unfold farR
                  rw [if_neg (by rw [e]; omega)]
                  exact e
                · exact e
            have hfr2 : endOf blankB s r.2.pos + 1 ≤ st2.2.1 := by
              rw [← K4, wordAt_from]
              exact (endOf_le blankB s _ (by omega)).1
            refine ⟨?_, by rw [hT]; exact zb, by rw [hT]; simp only; rw [zp]; omega, by rw [hT]; simp only; rw [zp]; exact K4, by rw [hT, hnmE]; exact zo, fun q p h => ?_, ?_, by rw [hT]; simp only; rw [zp]; omega⟩
            · rw [hT, K1, hnmE]
              rfl
            · rw [hnmE, hrange] at h
              split at h
              · cases h; omega
              · split at h
                · cases h; omega
                · split at h
                  · cases h; omega
                  · have := hplace q p h; omega
            · rw [hT]
              simp only
              rw [hz]
              split
              · unfold farR
                split
                · exact .inr ⟨Int.natCast_nonneg _, by show (((wordAt s x.pos).2.1 : Nat) : Int) < (st2.2.1 : Int); omega⟩
                · exact (show OutOK r.2.out _ from K7).mono (by omega)
              · exact (show OutOK r.2.out _ from K7).mono (by omega)
      · have hop : isR s 40 (headR s d x).2 = false := by
          cases hh : isR s 40 (headR s d x).2 with
          | false => rfl
          | true => exact absurd ((is_open hH2).1 hh) (by rw [hH3]; exact h1)
        have hT : termR s (n + 1) d x = (.node nm [], blanksR s (headR s d x).2) := by
          unfold termR
          rw [hop, hH1]
          rfl
        have hbl := endOf_le blankB s (wordAt s x.pos).2.2 (by omega)
        have hp2 : (blanksR s (headR s d x).2).pos = endOf blankB s (wordAt s x.pos).2.2 := by
          show endOf blankB s (headR s d x).2.pos = _
          rw [hH3]
        have hrange : rangeOf (n + 1) (Tm.mk nm (wordAt s x.pos).2.1 []) d = if 8 < nm.size then some (3, (wordAt s x.pos).2.1) else if 12 < d then some (5, (wordAt s x.pos).2.1) else none := rfl
        rw [termOf_bare hk h1]
        refine ⟨fun t st h => ?_, fun st h => by simp at h⟩
        simp only [Prod.mk.injEq, Option.some.injEq] at h
        obtain ⟨rfl, rfl⟩ := h
        refine ⟨by rw [hT, hnmE]; rfl, by rw [hT]; exact hH2, by rw [hT]; simp only; rw [hp2]; omega, by rw [hT]; simp only; rw [hp2]; exact wordAt_again s _, ?_, fun q p h => ?_, ?_, by rw [hT]; simp only; rw [hp2]; omega⟩
        · rw [hT, hnmE, hrange]
          show (headR s d x).2.out = _
          rw [hH4]
          rcases ho with ho1 | ho1
          · rw [ho1]
            by_cases a1 : 8 < nm.size
            · rw [if_pos (.inl a1), if_pos a1]
            · by_cases a2 : 12 < d
              · rw [if_pos (.inr a2), if_neg a1, if_pos a2]
                rfl
              · rw [if_neg (by omega), if_neg a1, if_neg a2]
                rfl
          · have e3 : ∀ r, orO x.out r = x.out := fun r => by unfold orO; rw [if_pos ho1.1]
            rw [e3, e3]
            split <;> rfl
        · rw [hnmE, hrange] at h
          split at h
          · cases h; omega
          · split at h
            · cases h; omega
            · cases h
        · rw [hT]
          refine (show OutOK (headR s d x).2.out _ from hH5).mono ?_
          rw [wordAt_from]
          exact hbl.1
    · rw [termOf_no hk]
      refine ⟨fun t st h => by simp at h, fun st h => ?_⟩
      simp only [Prod.mk.injEq, true_and] at h
      subst h
      have hnm := nameR_none (s := s) (x := blanksR s x) hb (by rw [hbw]; exact hk)
      have hag : endOf blankB s (blanksR s x).pos = (wordAt s x.pos).2.1 := by rw [hfrom]; exact blank_again s _
      rw [hag] at hnm
      have hH2 : (headR s d x).2.bad = ((wordAt s x.pos).2.1 : Nat) := by rw [headR_at.1, hnm]
      have hop : isR s 40 (headR s d x).2 = false := isR_bad (by omega)
      unfold termR
      rw [hop]
      exact hH2
end Go.Proofs.YtmfkpllnmmfpiaaGreatDoor

/-
  Plain: what the document's answer makes of a text is what the program makes of it.
-/
namespace Go.Proofs.YtmfkpllnmmfpiaaGreatDoor
open Go.RowKit

theorem nameR_keep {s : ByteArray} {x : Sc} (h : 0 ≤ x.bad) : nameR s x = (noName, blanksR s x) := by
  unfold nameR
  rw [if_pos (.inl h), noR_keep (x := blanksR s x) h]
theorem termR_keep {s : ByteArray} (n d : Nat) {x : Sc} (h : 0 ≤ x.bad) : (termR s n d x).2.bad = x.bad := by
  cases n with
  | zero => rfl
  | succ n =>
    have hb : (headR s d x).2.bad = x.bad := by rw [headR_at.1, nameR_keep (x := blanksR s x) h]; rfl
    unfold termR
    rw [isR_bad (by rw [hb]; exact h)]
    exact hb
theorem signR_keep {s : ByteArray} {x : Sc} (h : 0 ≤ x.bad) : (signR s x).2.bad = x.bad := by
  unfold signR
  rw [isR_bad h, isR_bad h]
  show (noR (blanksR s x)).bad = _
  rw [noR_keep (x := blanksR s x) h]
  rfl
theorem word_seven {s : ByteArray} {i : Nat} : (wordAt s i).1 = 7 ↔ endOf blankB s i = s.size := by
  unfold wordAt
  simp only
  split
  · rename_i h; exact ⟨fun _ => h, fun _ => rfl⟩
  · rename_i h
    refine ⟨fun e => ?_, fun e => absurd e h⟩
    split at e
    · cases e
    · split at e
      · cases e
      · exact absurd e (kindOf_not _).2
theorem word_bang {s : ByteArray} {i : Nat} : ((wordAt s i).1 = 5 ↔ endOf blankB s i + 1 < s.size ∧ byteAt s (endOf blankB s i) = 33 ∧ byteAt s (endOf blankB s i + 1) = 61) ∧ ((wordAt s i).1 = 6 ↔ endOf blankB s i < s.size ∧ byteAt s (endOf blankB s i) = 33 ∧ ¬ (endOf blankB s i + 1 < s.size ∧ byteAt s (endOf blankB s i + 1) = 61)) ∧ ((wordAt s i).1 = 5 → (wordAt s i).2.2 = endOf blankB s i + 2) ∧ ((wordAt s i).1 = 6 → (wordAt s i).2.2 = endOf blankB s i + 1) := by
  unfold wordAt
  simp only
  generalize endOf blankB s i = f
  by_cases e0 : f = s.size
  · rw [if_pos e0]
    refine ⟨⟨fun h => (by cases h), fun h => (by omega)⟩, ⟨fun h => (by cases h), fun h => (by omega)⟩, fun h => (by cases h), fun h => (by cases h)⟩
  · rw [if_neg e0]
    by_cases e1 : kindOf (byteAt s f) = 0
    · rw [if_pos e1]
      have hn : byteAt s f ≠ 33 := fun e => by
        have := (kindOf_6 _).2 e
        omega
      refine ⟨⟨fun h => (by cases h), fun h => absurd h.2.1 hn⟩, ⟨fun h => (by cases h), fun h => absurd h.2.1 hn⟩, fun h => (by cases h), fun h => by cases h⟩
    · rw [if_neg e1]
      by_cases e2 : kindOf (byteAt s f) = 6 ∧ f + 1 < s.size ∧ byteAt s (f + 1) = 61
      · rw [if_pos e2]
        refine ⟨⟨fun _ => ⟨e2.2.1, (kindOf_6 _).1 e2.1, e2.2.2⟩, fun _ => rfl⟩, ⟨fun h => (by cases h), fun h => absurd e2.2 h.2.2⟩, fun _ => rfl, fun h => by cases h⟩
      · rw [if_neg e2]
        refine ⟨⟨fun h => absurd h (kindOf_not _).1, fun h => absurd ⟨(kindOf_6 _).2 h.2.1, h.1, h.2.2⟩ e2⟩, ⟨fun h => ?_, fun h => (kindOf_6 _).2 h.2.1⟩, fun h => absurd h (kindOf_not _).1, fun _ => rfl⟩
        have h3 := (kindOf_6 _).1 h
        refine ⟨?_, h3, fun h4 => e2 ⟨h, h4⟩⟩
        by_cases h4 : f < s.size
        · exact h4
        · rw [byteAt_past (by omega)] at h3
          cases h3
theorem is_bang {s : ByteArray} {x : Sc} (hb : x.bad = -1) : isR s 33 x = true ↔ endOf blankB s x.pos < s.size ∧ byteAt s (endOf blankB s x.pos) = 33 := by
  unfold isR
  rw [decide_eq_true (by omega : x.bad < 0)]
  simp
/-- The sign, on both sides. -/
theorem sign_law {s : ByteArray} {x : Sc} (hb : x.bad = -1) :
    (∀ g st2, signOf s (wordAt s x.pos) = (some g, st2) → (signR s x).1 = g ∧ (signR s x).2.bad = -1 ∧ (signR s x).2.pos ≤ s.size ∧ wordAt s (signR s x).2.pos = st2 ∧ (signR s x).2.out = x.out ∧ endOf blankB s x.pos ≤ (signR s x).2.pos) ∧
    (∀ st2, signOf s (wordAt s x.pos) = (none, st2) → (signR s x).2.bad = (st2.2.1 : Nat)) := by
  have hfrom := wordAt_from s x.pos
  obtain ⟨b5, b6, t5, t6⟩ := word_bang (s := s) (i := x.pos)
  by_cases h4 : (wordAt s x.pos).1 = 4
  · rw [signOf_eq h4]
    refine ⟨fun g st2 h => ?_, fun st2 h => by simp at h⟩
    simp only [Prod.mk.injEq, Option.some.injEq] at h
    obtain ⟨rfl, rfl⟩ := h
    have he : isR s 61 x = true := (is_equal hb).2 h4
    obtain ⟨e1, e2⟩ := to_equal (s := s) (i := x.pos) h4
    have hS : signR s x = (true, (blanksR s x).next) := by unfold signR; rw [if_pos he]
    rw [hS]
    exact ⟨rfl, hb, by show endOf blankB s x.pos + 1 ≤ _; omega, by rw [e1]; rfl, rfl, Nat.le_succ _⟩
  · have he : ¬ isR s 61 x = true := fun h => h4 ((is_equal hb).1 h)
    by_cases h5 : (wordAt s x.pos).1 = 5
    · rw [signOf_ne h5]
      refine ⟨fun g st2 h => ?_, fun st2 h => by simp at h⟩
      simp only [Prod.mk.injEq, Option.some.injEq] at h
      obtain ⟨rfl, rfl⟩ := h
      obtain ⟨c1, c2, c3⟩ := b5.1 h5
      have hbg : isR s 33 x = true := (is_bang hb).2 ⟨by omega, c2⟩
      have hS : signR s x = (false, (blanksR s x).next.next) := by
        unfold signR
        rw [if_neg he, if_pos hbg, if_neg]
        show ¬ (s.size ≤ endOf blankB s x.pos + 1 ∨ byteAt s (endOf blankB s x.pos + 1) ≠ 61)
        rw [c3]
        simp
        omega
      rw [hS]
      refine ⟨rfl, hb, by show endOf blankB s x.pos + 1 + 1 ≤ _; omega, by rw [t5 h5]; rfl, rfl, by show _ ≤ endOf blankB s x.pos + 1 + 1; omega⟩
    · by_cases h6 : (wordAt s x.pos).1 = 6
      · rw [signOf_bang h6]
        refine ⟨fun g st2 h => by simp at h, fun st2 h => ?_⟩
        simp only [Prod.mk.injEq, true_and] at h
        subst h
        obtain ⟨c1, c2, c3⟩ := b6.1 h6
        have hbg : isR s 33 x = true := (is_bang hb).2 ⟨c1, c2⟩
        have hS : signR s x = (false, (noR (blanksR s x).next).next) := by
          unfold signR
          rw [if_neg he, if_pos hbg, if_pos]
          show s.size ≤ endOf blankB s x.pos + 1 ∨ byteAt s (endOf blankB s x.pos + 1) ≠ 61
          by_cases h9 : s.size ≤ endOf blankB s x.pos + 1
          · exact .inl h9
          · exact .inr fun h8 => c3 ⟨by omega, h8⟩
        rw [hS]
        show (noR (blanksR s x).next).bad = _
        unfold noR
        rw [if_pos (by show x.bad < 0; omega), t6 h6]
        rfl
      · rw [signOf_no h4 h5 h6]
        refine ⟨fun g st2 h => by simp at h, fun st2 h => ?_⟩
        simp only [Prod.mk.injEq, true_and] at h
        subst h
        have hbg : ¬ isR s 33 x = true := fun h => by
          obtain ⟨c1, c2⟩ := (is_bang hb).1 h
          by_cases h9 : endOf blankB s x.pos + 1 < s.size ∧ byteAt s (endOf blankB s x.pos + 1) = 61
          · exact h5 (b5.2 ⟨h9.1, c2, h9.2⟩)
          · exact h6 (b6.2 ⟨c1, c2, h9⟩)
        have hS : signR s x = (false, noR (blanksR s x)) := by unfold signR; rw [if_neg he, if_neg hbg]
        rw [hS, hfrom]
        show (noR (blanksR s x)).bad = _
        unfold noR
        rw [if_pos (by show x.bad < 0; omega)]
        rfl
theorem errOf_range {n : Nat} {t : Tm n} {d : Nat} {k : Int} {p : Nat} (h : rangeOf n t d = some (k, p)) : errOf k = 3 := by
  have := rangeOf_kind h
  simp only at this
  have hk : k = 3 ∨ k = 4 ∨ k = 5 := by omega
  rcases hk with rfl | rfl | rfl <;> rfl
/-- Both read the same. -/
theorem refRead_eq (s : ByteArray) : (∀ x, (readOf s).1 = some x → refRead s = (some (eraseS x), 0, 0)) ∧ ((readOf s).1 = none → refRead s = (none, errOf (readOf s).2.1, (((readOf s).2.2 : Nat) : Int))) := by
  by_cases hl : 200 < s.size
  · have e : readOf s = (none, 1, 0) := by unfold readOf; rw [if_pos hl]
    refine ⟨fun x hx => (by rw [e] at hx; cases hx), fun _ => ?_⟩
    unfold refRead
    rw [if_pos hl, e]
    rfl
  · have hx0 : OutOK (-1) (wordAt s 0).2.1 := .inl rfl
    obtain ⟨aS, aN⟩ := term_law s (s.size + 1) 0 ⟨0, -1, -1⟩ rfl (Nat.zero_le _) (by show s.size < 0 + _; omega) hx0
    have hbadall : ∀ p : Nat, 0 ≤ (scanR s).x.bad → (scanR s).x.bad = (p : Nat) → refRead s = (none, 2, ((p : Nat) : Int)) := fun p h1 h2 => by
      unfold refRead
      rw [if_neg hl, if_pos h1, h2]
    have hread : ∀ st : Wd, sentOf s (fuelOf s) (wordAt s 0) = (none, st) → readOf s = (none, 2, st.2.1) := fun st h => by unfold readOf; rw [if_neg hl, h]
    have hscan : (scanR s).x = (if (blanksR s (termR s (s.size + 1) 0 (signR s (termR s (s.size + 1) 0 ⟨0, -1, -1⟩).2).2).2).bad < 0 ∧ (blanksR s (termR s (s.size + 1) 0 (signR s (termR s (s.size + 1) 0 ⟨0, -1, -1⟩).2).2).2).pos < s.size then noR (blanksR s (termR s (s.size + 1) 0 (signR s (termR s (s.size + 1) 0 ⟨0, -1, -1⟩).2).2).2) else (blanksR s (termR s (s.size + 1) 0 (signR s (termR s (s.size + 1) 0 ⟨0, -1, -1⟩).2).2).2)) := rfl
    have hl1 : (scanR s).l = (termR s (s.size + 1) 0 ⟨0, -1, -1⟩).1 := rfl
    have hl2 : (scanR s).eq = (signR s (termR s (s.size + 1) 0 ⟨0, -1, -1⟩).2).1 := rfl
    have hl3 : (scanR s).r = (termR s (s.size + 1) 0 (signR s (termR s (s.size + 1) 0 ⟨0, -1, -1⟩).2).2).1 := rfl
    -- once wrong, it stays so
    have hstay : ∀ p : Nat, (termR s (s.size + 1) 0 (signR s (termR s (s.size + 1) 0 ⟨0, -1, -1⟩).2).2).2.bad = (p : Nat) → (scanR s).x.bad = (p : Nat) := fun p h => by
      have h2 : (blanksR s (termR s (s.size + 1) 0 (signR s (termR s (s.size + 1) 0 ⟨0, -1, -1⟩).2).2).2).bad = (p : Nat) := h
      rw [hscan, if_neg (by omega)]
      exact h2
    have hnone : ∀ st : Wd, sentOf s (fuelOf s) (wordAt s 0) = (none, st) → (scanR s).x.bad = (st.2.1 : Nat) → (∀ x, (readOf s).1 = some x → refRead s = (some (eraseS x), 0, 0)) ∧ ((readOf s).1 = none → refRead s = (none, errOf (readOf s).2.1, (((readOf s).2.2 : Nat) : Int))) := fun st h1 h2 => by
      have e := hread st h1
      refine ⟨fun x hx => (by rw [e] at hx; cases hx), fun _ => ?_⟩
      rw [hbadall st.2.1 (by omega) h2, e]
      rfl
    cases h1 : termOf s (s.size + 1) (wordAt s 0) with
    | mk o1 st1 =>
      cases o1 with
      | none =>
        have hb := aN st1 h1
        refine hnone st1 (by unfold sentOf; rw [show termOf s (fuelOf s) (wordAt s 0) = _ from h1]) (hstay _ ?_)
        rw [termR_keep _ _ (by rw [signR_keep (by rw [hb]; omega), hb]; omega), signR_keep (by rw [hb]; omega), hb]
      | some l =>
        have A := aS l st1 h1
        obtain ⟨bS, bN⟩ := sign_law (s := s) A.bad
        rw [A.word] at bS bN
        cases h2 : signOf s st1 with
        | mk o2 st2 =>
          cases o2 with
          | none =>
            have hb := bN st2 h2
            refine hnone st2 (by unfold sentOf; rw [show termOf s (fuelOf s) (wordAt s 0) = _ from h1]; simp only; rw [h2]) (hstay _ ?_)
            rw [termR_keep _ _ (by rw [hb]; omega), hb]
          | some g =>
            obtain ⟨g1, g2, g3, g4, g5, g6⟩ := bS g st2 h2
            have hfr1 : st1.2.1 = endOf blankB s (termR s (s.size + 1) 0 ⟨0, -1, -1⟩).2.pos := by rw [← A.word, wordAt_from]
            have hO2 : OutOK (signR s (termR s (s.size + 1) 0 ⟨0, -1, -1⟩).2).2.out (wordAt s (signR s (termR s (s.size + 1) 0 ⟨0, -1, -1⟩).2).2.pos).2.1 := by
              rw [g5]
              refine A.later.mono ?_
              rw [wordAt_from, hfr1]
              have := (endOf_le blankB s _ g3).1
              omega
            obtain ⟨cS, cN⟩ := term_law s (s.size + 1) 0 (signR s (termR s (s.size + 1) 0 ⟨0, -1, -1⟩).2).2 g2 g3 (by omega) hO2
            rw [g4] at cS cN
            cases h3 : termOf s (s.size + 1) st2 with
            | mk o3 st3 =>
              cases o3 with
              | none => exact hnone st3 (by unfold sentOf; rw [show termOf s (fuelOf s) (wordAt s 0) = _ from h1]; simp only; rw [h2]; simp only; rw [show termOf s (fuelOf s) st2 = _ from h3]) (hstay _ (cN st3 h3))
              | some r =>
                have C := cS r st3 h3
                have hfr3 : st3.2.1 = endOf blankB s (termR s (s.size + 1) 0 (signR s (termR s (s.size + 1) 0 ⟨0, -1, -1⟩).2).2).2.pos := by rw [← C.word, wordAt_from]
                have hseven : st3.1 = 7 ↔ endOf blankB s (termR s (s.size + 1) 0 (signR s (termR s (s.size + 1) 0 ⟨0, -1, -1⟩).2).2).2.pos = s.size := by rw [← C.word]; exact word_seven
                have hble := endOf_le blankB s _ C.pos
                have hbb : (blanksR s (termR s (s.size + 1) 0 (signR s (termR s (s.size + 1) 0 ⟨0, -1, -1⟩).2).2).2).bad = -1 := C.bad
                have hbp : (blanksR s (termR s (s.size + 1) 0 (signR s (termR s (s.size + 1) 0 ⟨0, -1, -1⟩).2).2).2).pos = endOf blankB s (termR s (s.size + 1) 0 (signR s (termR s (s.size + 1) 0 ⟨0, -1, -1⟩).2).2).2.pos := rfl
                by_cases h7 : st3.1 = 7
                · have h7' := hseven.1 h7
                  have hsn : sentOf s (fuelOf s) (wordAt s 0) = (some ⟨l, g, r⟩, st3) := by unfold sentOf; rw [show termOf s (fuelOf s) (wordAt s 0) = _ from h1]; simp only; rw [h2]; simp only; rw [show termOf s (fuelOf s) st2 = _ from h3]; simp only; rw [if_pos h7]
                  have hxx : (scanR s).x = blanksR s (termR s (s.size + 1) 0 (signR s (termR s (s.size + 1) 0 ⟨0, -1, -1⟩).2).2).2 := by rw [hscan, if_neg (by rw [hbp]; omega)]
                  have hxb : (scanR s).x.bad = -1 := by rw [hxx]; exact hbb
                  have hxo : (scanR s).x.out = orO (orO (-1) (rangeOf (s.size + 1) l 0)) (rangeOf (s.size + 1) r 0) := by
                    rw [hxx]
                    show (termR s (s.size + 1) 0 (signR s (termR s (s.size + 1) 0 ⟨0, -1, -1⟩).2).2).2.out = _
                    rw [C.out, g5, A.out]
                  cases ra : rangeOf (s.size + 1) l 0 with
                  | some c =>
                    obtain ⟨k, p⟩ := c
                    have hrr : readOf s = (none, k, p) := by
                      have ra' : rangeOf (fuelOf s) l 0 = some (k, p) := ra
                      unfold readOf
                      rw [if_neg hl, hsn]
                      simp only [ra']
                    rw [ra] at hxo
                    have ho : (scanR s).x.out = (p : Nat) := by rw [hxo]; simp [orO]
                    refine ⟨fun x hx => (by rw [hrr] at hx; cases hx), fun _ => ?_⟩
                    unfold refRead
                    rw [if_neg hl, if_neg (by omega), if_pos (by omega), ho, hrr, errOf_range ra]
                  | none =>
                    cases rb : rangeOf (s.size + 1) r 0 with
                    | some c =>
                      obtain ⟨k, p⟩ := c
                      have hrr : readOf s = (none, k, p) := by
                        have ra' : rangeOf (fuelOf s) l 0 = none := ra
                        have rb' : rangeOf (fuelOf s) r 0 = some (k, p) := rb
                        unfold readOf
                        rw [if_neg hl, hsn]
                        simp only [ra', rb']
                      rw [ra, rb] at hxo
                      have ho : (scanR s).x.out = (p : Nat) := by rw [hxo]; simp [orO]
                      refine ⟨fun x hx => (by rw [hrr] at hx; cases hx), fun _ => ?_⟩
                      unfold refRead
                      rw [if_neg hl, if_neg (by omega), if_pos (by omega), ho, hrr, errOf_range rb]
                    | none =>
                      have hrr : readOf s = (some ⟨l, g, r⟩, 0, 0) := by
                        have ra' : rangeOf (fuelOf s) l 0 = none := ra
                        have rb' : rangeOf (fuelOf s) r 0 = none := rb
                        unfold readOf
                        rw [if_neg hl, hsn]
                        simp only [ra', rb']
                      rw [ra, rb] at hxo
                      have ho : (scanR s).x.out = -1 := by rw [hxo]; simp [orO]
                      refine ⟨fun x hx => ?_, fun hx => (by rw [hrr] at hx; cases hx)⟩
                      rw [hrr] at hx
                      cases hx
                      unfold refRead
                      rw [if_neg hl, if_neg (by omega), if_neg (by omega), hl1, hl2, hl3, A.term, g1, C.term]
                      rfl
                · refine hnone st3 (by unfold sentOf; rw [show termOf s (fuelOf s) (wordAt s 0) = _ from h1]; simp only; rw [h2]; simp only; rw [show termOf s (fuelOf s) st2 = _ from h3]; simp only; rw [if_neg h7]) ?_
                  have hlt : endOf blankB s (termR s (s.size + 1) 0 (signR s (termR s (s.size + 1) 0 ⟨0, -1, -1⟩).2).2).2.pos < s.size := by
                    have := fun e => h7 (hseven.2 e)
                    omega
                  rw [hscan, if_pos ⟨by omega, by rw [hbp]; exact hlt⟩]
                  unfold noR
                  rw [if_pos (by omega), hfr3]
                  rfl
end Go.Proofs.YtmfkpllnmmfpiaaGreatDoor
