/-
  Plain: how a text falls into words (what package read's 'next' does), as Lean functions. Nothing of the program is in this text.
-/
import Derived.PlainAid
namespace Go.Proofs.YtmfkpllnmmfpiaaGreatDoor

/-- The byte at a place of a text, as a number (0 where there is none). -/
def byteAt (s : ByteArray) (i : Nat) : Int := ((s.data.toList.getD i 0).toNat : Int)

theorem byteAt_lo (s : ByteArray) (i : Nat) : 0 ≤ byteAt s i := Int.natCast_nonneg _
theorem byteAt_hi (s : ByteArray) (i : Nat) : byteAt s i ≤ 255 := by
  unfold byteAt
  have := (s.data.toList.getD i 0).toNat_lt
  omega

theorem byteAt_get (s : ByteArray) (i : Nat) (h : i < s.size) : ((s[i]).toNat : Int) = byteAt s i := by
  unfold byteAt
  have h' : i < s.data.toList.length := by simpa using h
  rw [List.getD_eq_getElem?_getD, List.getElem?_eq_getElem h']
  rfl

def letterB (c : Int) : Bool := decide (97 ≤ c) && decide (c ≤ 122)
def digitB (c : Int) : Bool := decide (48 ≤ c) && decide (c ≤ 57)
def wordB (c : Int) : Bool := letterB c || digitB c
/-- The kind of the word that a byte begins: 0 a name, 1 ( , 2 ) , 3 a comma, 4 = , 6 ! , 8 none. -/
def kindOf (c : Int) : Int :=
  if letterB c then 0 else if c = 40 then 1 else if c = 41 then 2 else if c = 44 then 3 else if c = 61 then 4 else if c = 33 then 6 else 8

/-- The first place from i on at which the test fails, or the text's end; so many steps at most. -/
def runTo (p : Int → Bool) (s : ByteArray) : Nat → Nat → Nat
  | 0, i => i
  | n + 1, i => if i < s.size ∧ p (byteAt s i) = true then runTo p s n (i + 1) else i
def endOf (p : Int → Bool) (s : ByteArray) (i : Nat) : Nat := runTo p s (s.size - i) i

theorem endOf_step {p : Int → Bool} {s : ByteArray} {i : Nat} (h : i < s.size) (hp : p (byteAt s i) = true) : endOf p s i = endOf p s (i + 1) := by
  unfold endOf
  have e : s.size - i = (s.size - (i + 1)) + 1 := by omega
  rw [e]
  simp [runTo, h, hp]
theorem endOf_stop {p : Int → Bool} {s : ByteArray} {i : Nat} (h : ¬ (i < s.size ∧ p (byteAt s i) = true)) : endOf p s i = i := by
  unfold endOf
  cases e : s.size - i with
  | zero => rfl
  | succ n => simp only [runTo, if_neg h]
theorem runTo_le (p : Int → Bool) (s : ByteArray) : ∀ n i, i ≤ s.size → i ≤ runTo p s n i ∧ runTo p s n i ≤ s.size
  | 0, i, h => ⟨Nat.le_refl _, h⟩
  | n + 1, i, h => by
    unfold runTo
    by_cases hc : i < s.size ∧ p (byteAt s i) = true
    · rw [if_pos hc]
      have := runTo_le p s n (i + 1) hc.1
      exact ⟨by omega, this.2⟩
    · rw [if_neg hc]
      exact ⟨Nat.le_refl _, h⟩
theorem endOf_le (p : Int → Bool) (s : ByteArray) (i : Nat) (h : i ≤ s.size) : i ≤ endOf p s i ∧ endOf p s i ≤ s.size := runTo_le p s _ i h

def blankB (c : Int) : Bool := decide (c = 32)

/-- The word behind place t: its kind (5: != , 7: the end), where it begins, where it ends. -/
def wordAt (s : ByteArray) (t : Nat) : Int × Nat × Nat :=
  let f := endOf blankB s t
  if f = s.size then (7, f, f)
  else if kindOf (byteAt s f) = 0 then (0, f, endOf wordB s (f + 1))
  else if kindOf (byteAt s f) = 6 ∧ f + 1 < s.size ∧ byteAt s (f + 1) = 61 then (5, f, f + 2)
  else (kindOf (byteAt s f), f, f + 1)

theorem wordAt_le (s : ByteArray) (t : Nat) (h : t ≤ s.size) : t ≤ (wordAt s t).2.1 ∧ (wordAt s t).2.1 ≤ (wordAt s t).2.2 ∧ (wordAt s t).2.2 ≤ s.size := by
  have h1 := endOf_le blankB s t h
  unfold wordAt
  simp only
  split
  · simp only; omega
  · rename_i h2
    have h3 := endOf_le wordB s (endOf blankB s t + 1) (by omega)
    split
    · simp only; omega
    · split
      · simp only; omega
      · simp only; omega
theorem kindOf_lo (c : Int) : 0 ≤ kindOf c ∧ kindOf c ≤ 8 := by
  unfold kindOf
  repeat' split
  all_goals omega

theorem wordAt_end {s : ByteArray} {t : Nat} (h : endOf blankB s t = s.size) : wordAt s t = (7, s.size, s.size) := by
  unfold wordAt
  simp [h]
theorem wordAt_name {s : ByteArray} {t i : Nat} (h : endOf blankB s t = i) (hi : i < s.size) (hk : kindOf (byteAt s i) = 0) : wordAt s t = (0, i, endOf wordB s (i + 1)) := by
  unfold wordAt
  have : i ≠ s.size := by omega
  simp [h, this, hk]
theorem wordAt_unequal {s : ByteArray} {t i : Nat} (h : endOf blankB s t = i) (hi : i + 1 < s.size) (hk : kindOf (byteAt s i) = 6) (hb : byteAt s (i + 1) = 61) : wordAt s t = (5, i, i + 2) := by
  unfold wordAt
  have : i ≠ s.size := by omega
  simp [h, this, hk, hi, hb]
theorem wordAt_other {s : ByteArray} {t i : Nat} (h : endOf blankB s t = i) (hi : i < s.size) (hk : kindOf (byteAt s i) ≠ 0) (hb : ¬ (kindOf (byteAt s i) = 6 ∧ i + 1 < s.size ∧ byteAt s (i + 1) = 61)) : wordAt s t = (kindOf (byteAt s i), i, i + 1) := by
  unfold wordAt
  have : i ≠ s.size := by omega
  simp only [h, if_neg this, if_neg hk, if_neg hb]
theorem wordB_of (c : Int) : wordB c = (letterB c || digitB c) := rfl
end Go.Proofs.YtmfkpllnmmfpiaaGreatDoor

/-
  Plain: how a sentence is read out of its words (package read), as Lean functions. Nothing of the program is in this text.
-/
namespace Go.Proofs.YtmfkpllnmmfpiaaGreatDoor

/-- A word: its kind, where it begins, where it ends. -/
abbrev Wd := Int × Nat × Nat

/-- Terms in which others lie less than so deep: a name, its place, its parts. -/
def Tm : Nat → Type
  | 0 => Empty
  | n + 1 => ByteArray × Nat × List (Tm n)
def Tm.mk {n : Nat} (name : ByteArray) (place : Nat) (parts : List (Tm n)) : Tm (n + 1) := (name, place, parts)
def Tm.name {n : Nat} (t : Tm (n + 1)) : ByteArray := t.1
def Tm.place {n : Nat} (t : Tm (n + 1)) : Nat := t.2.1
def Tm.parts {n : Nat} (t : Tm (n + 1)) : List (Tm n) := t.2.2

/-- The parts behind an opening bracket, so many at most. -/
def partsOf {α : Type} (s : ByteArray) (p : Wd → Option α × Wd) : Nat → Wd → Option (List α) × Wd
  | 0, st => (none, st)
  | m + 1, st =>
    match p (wordAt s st.2.2) with
    | (none, st2) => (none, st2)
    | (some x, st2) =>
      if st2.1 = 2 then (some [x], wordAt s st2.2.2)
      else if st2.1 = 3 then
        match partsOf s p m st2 with
        | (none, st3) => (none, st3)
        | (some xs, st3) => (some (x :: xs), st3)
      else (none, st2)

/-- A term that begins with a word. -/
def termOf (s : ByteArray) : (n : Nat) → Wd → Option (Tm n) × Wd
  | 0, st => (none, st)
  | n + 1, st =>
    if st.1 = 0 then
      if (wordAt s st.2.2).1 = 1 then
        match partsOf s (termOf s n) (s.size + 1) (wordAt s st.2.2) with
        | (none, st2) => (none, st2)
        | (some ps, st2) => (some (Tm.mk (s.extract st.2.1 st.2.2) st.2.1 ps), st2)
      else (some (Tm.mk (s.extract st.2.1 st.2.2) st.2.1 []), wordAt s st.2.2)
    else (none, st)

/-- What was read before, ahead of what is read now. -/
def aheadOf {α : Type} (acc : List α) : Option (List α) × Wd → Option (List α) × Wd
  | (none, st) => (none, st)
  | (some xs, st) => (some (acc ++ xs), st)

theorem aheadOf_nil {α : Type} (x : Option (List α) × Wd) : aheadOf [] x = x := by
  rcases x with ⟨_ | xs, st⟩ <;> simp [aheadOf]

section
variable {α : Type} {s : ByteArray} {p : Wd → Option α × Wd} {m : Nat} {st st2 : Wd} {acc : List α} {x : α}
theorem partsOf_none (h : p (wordAt s st.2.2) = (none, st2)) : aheadOf acc (partsOf s p (m + 1) st) = (none, st2) := by
  simp [partsOf, h, aheadOf]
theorem partsOf_close (h : p (wordAt s st.2.2) = (some x, st2)) (hk : st2.1 = 2) : aheadOf acc (partsOf s p (m + 1) st) = (some (acc ++ [x]), wordAt s st2.2.2) := by
  simp [partsOf, h, aheadOf, hk]
theorem partsOf_comma (h : p (wordAt s st.2.2) = (some x, st2)) (hk : st2.1 = 3) : aheadOf acc (partsOf s p (m + 1) st) = aheadOf (acc ++ [x]) (partsOf s p m st2) := by
  have h2 : ¬ st2.1 = 2 := by omega
  simp only [partsOf, h, hk]
  rcases partsOf s p m st2 with ⟨_ | xs, st3⟩ <;> simp [aheadOf]
theorem partsOf_other (h : p (wordAt s st.2.2) = (some x, st2)) (hk : st2.1 ≠ 2) (hk' : st2.1 ≠ 3) : aheadOf acc (partsOf s p (m + 1) st) = (none, st2) := by
  simp [partsOf, h, aheadOf, hk, hk']
end

section
variable {s : ByteArray} {n : Nat} {st : Wd}
theorem termOf_no (h : st.1 ≠ 0) : termOf s (n + 1) st = (none, st) := by simp [termOf, h]
theorem termOf_bare (h : st.1 = 0) (h1 : (wordAt s st.2.2).1 ≠ 1) : termOf s (n + 1) st = (some (Tm.mk (s.extract st.2.1 st.2.2) st.2.1 []), wordAt s st.2.2) := by simp [termOf, h, h1]
theorem termOf_fails {st2 : Wd} (h : st.1 = 0) (h1 : (wordAt s st.2.2).1 = 1) (hr : partsOf s (termOf s n) (s.size + 1) (wordAt s st.2.2) = (none, st2)) :
    termOf s (n + 1) st = (none, st2) := by
  simp only [termOf, if_pos h, if_pos h1, hr]
theorem termOf_parts {st2 : Wd} {ps : List (Tm n)} (h : st.1 = 0) (h1 : (wordAt s st.2.2).1 = 1) (hr : partsOf s (termOf s n) (s.size + 1) (wordAt s st.2.2) = (some ps, st2)) :
    termOf s (n + 1) st = (some (Tm.mk (s.extract st.2.1 st.2.2) st.2.1 ps), st2) := by
  simp only [termOf, if_pos h, if_pos h1, hr]
end

/-- A word as 'next' leaves it. -/
structure Fit (s : ByteArray) (st : Wd) : Prop where
  lo : 0 ≤ st.1
  hi : st.1 ≤ 8
  le : st.2.1 ≤ st.2.2
  size : st.2.2 ≤ s.size
  lt : st.1 ≠ 7 → st.2.1 < st.2.2

theorem wordAt_kind (s : ByteArray) (t : Nat) : 0 ≤ (wordAt s t).1 ∧ (wordAt s t).1 ≤ 8 := by
  unfold wordAt
  have := kindOf_lo (byteAt s (endOf blankB s t))
  simp only
  repeat' split
  all_goals (simp only; omega)
theorem wordAt_lt (s : ByteArray) (t : Nat) (h : t ≤ s.size) : (wordAt s t).1 ≠ 7 → (wordAt s t).2.1 < (wordAt s t).2.2 := by
  have h1 := endOf_le blankB s t h
  unfold wordAt
  simp only
  split
  · intro h7; exact absurd rfl h7
  · rename_i h2
    have h3 := endOf_le wordB s (endOf blankB s t + 1) (by omega)
    intro _
    split
    · simp only; omega
    · split
      · simp only; omega
      · simp only; omega
theorem Fit.next (s : ByteArray) (t : Nat) (h : t ≤ s.size) : Fit s (wordAt s t) :=
  ⟨(wordAt_kind s t).1, (wordAt_kind s t).2, (wordAt_le s t h).2.1, (wordAt_le s t h).2.2, wordAt_lt s t h⟩

/-- Reading goes on, and what it stops at is a word of the text. -/
theorem partsOf_fit {α : Type} {s : ByteArray} {p : Wd → Option α × Wd} (hp : ∀ st, Fit s st → Fit s (p st).2 ∧ st.2.1 ≤ (p st).2.2.1) :
    ∀ (m : Nat) (st : Wd), Fit s st → Fit s (partsOf s p m st).2 ∧ st.2.1 ≤ (partsOf s p m st).2.2.1
  | 0, st, h => ⟨h, Nat.le_refl _⟩
  | m + 1, st, h => by
    have h1 := Fit.next s st.2.2 h.size
    have hw := wordAt_le s st.2.2 h.size
    have h2 := hp _ h1
    have hle := h.le
    unfold partsOf
    cases hpp : p (wordAt s st.2.2) with
    | mk o st2 =>
      rw [hpp] at h2
      cases o with
      | none => exact ⟨h2.1, by have := h2.2; simp only at this ⊢; omega⟩
      | some x =>
        simp only
        split
        · have h3 := Fit.next s st2.2.2 h2.1.size
          have h4 := wordAt_le s st2.2.2 h2.1.size
          have h5 := h2.1.le
          exact ⟨h3, by have := h2.2; simp only at this h5 ⊢; omega⟩
        · split
          · have h3 := partsOf_fit hp m st2 h2.1
            cases hq : partsOf s p m st2 with
            | mk o3 st3 =>
              rw [hq] at h3
              have := h2.2
              cases o3 with
              | none => exact ⟨h3.1, by have := h3.2; simp only at *; omega⟩
              | some xs => exact ⟨h3.1, by have := h3.2; simp only at *; omega⟩
          · exact ⟨h2.1, by have := h2.2; simp only at this ⊢; omega⟩
theorem termOf_fit {s : ByteArray} : ∀ (n : Nat) (st : Wd), Fit s st → Fit s (termOf s n st).2 ∧ st.2.1 ≤ (termOf s n st).2.2.1
  | 0, st, h => ⟨h, Nat.le_refl _⟩
  | n + 1, st, h => by
    have h1 := Fit.next s st.2.2 h.size
    have hw := wordAt_le s st.2.2 h.size
    have hle := h.le
    unfold termOf
    split
    · split
      · have h2 := partsOf_fit (termOf_fit n) (s.size + 1) (wordAt s st.2.2) h1
        cases hq : partsOf s (termOf s n) (s.size + 1) (wordAt s st.2.2) with
        | mk o st2 =>
          rw [hq] at h2
          cases o with
          | none => exact ⟨h2.1, by have := h2.2; simp only at *; omega⟩
          | some xs => exact ⟨h2.1, by have := h2.2; simp only at *; omega⟩
      · exact ⟨h1, by simp only; omega⟩
    · exact ⟨h, Nat.le_refl _⟩
end Go.Proofs.YtmfkpllnmmfpiaaGreatDoor

/-
  Plain: signs, sentences, and what is out of range in them (package read), as Lean functions. Nothing of the program is in this text.
-/
namespace Go.Proofs.YtmfkpllnmmfpiaaGreatDoor

/-- The sign at a word: true: = , false: != . Behind it the next word. -/
def signOf (s : ByteArray) (st : Wd) : Option Bool × Wd :=
  if st.1 = 4 then (some true, wordAt s st.2.2)
  else if st.1 = 5 then (some false, wordAt s st.2.2)
  else if st.1 = 6 then (none, (6, st.2.2, st.2.2))
  else (none, st)

/-- A sentence: its left side, its sign, its right side. -/
structure Snt (n : Nat) where
  left : Tm n
  eq : Bool
  right : Tm n

def sentOf (s : ByteArray) (n : Nat) (st : Wd) : Option (Snt n) × Wd :=
  match termOf s n st with
  | (none, st1) => (none, st1)
  | (some l, st1) =>
    match signOf s st1 with
    | (none, st2) => (none, st2)
    | (some g, st2) =>
      match termOf s n st2 with
      | (none, st3) => (none, st3)
      | (some r, st3) => if st3.1 = 7 then (some ⟨l, g, r⟩, st3) else (none, st3)

/-- The first that is found. -/
def firstOf {α β : Type} (f : α → Option β) : List α → Option β
  | [] => none
  | a :: l => match f a with
    | some b => some b
    | none => firstOf f l

/-- What is out of range first in a term that lies so deep, and where. -/
def rangeOf : (n : Nat) → Tm n → Nat → Option (Int × Nat)
  | 0, _, _ => none
  | n + 1, t, d =>
    if 8 < t.name.size then some (3, t.place)
    else if 3 < t.parts.length then some (4, t.place)
    else if 12 < d then some (5, t.place)
    else firstOf (fun p => rangeOf n p (d + 1)) t.parts

/-- How deep terms may be nested in a text, for the reading of it. -/
def fuelOf (s : ByteArray) : Nat := s.size + 1

/-- What reading a text comes to: a sentence, or a fault and its place. -/
def readOf (s : ByteArray) : Option (Snt (fuelOf s)) × Int × Nat :=
  if 200 < s.size then (none, 1, 0)
  else match sentOf s (fuelOf s) (wordAt s 0) with
    | (none, st) => (none, 2, st.2.1)
    | (some x, _) => match rangeOf _ x.left 0 with
      | some (k, p) => (none, k, p)
      | none => match rangeOf _ x.right 0 with
        | some (k, p) => (none, k, p)
        | none => (some x, 0, 0)

theorem signOf_eq {s : ByteArray} {st : Wd} (h : st.1 = 4) : signOf s st = (some true, wordAt s st.2.2) := by simp [signOf, h]
theorem signOf_ne {s : ByteArray} {st : Wd} (h : st.1 = 5) : signOf s st = (some false, wordAt s st.2.2) := by simp [signOf, h]
theorem signOf_bang {s : ByteArray} {st : Wd} (h : st.1 = 6) : signOf s st = (none, (6, st.2.2, st.2.2)) := by simp [signOf, h]
theorem signOf_no {s : ByteArray} {st : Wd} (h4 : st.1 ≠ 4) (h5 : st.1 ≠ 5) (h6 : st.1 ≠ 6) : signOf s st = (none, st) := by simp [signOf, h4, h5, h6]

theorem firstOf_ahead {α β : Type} {f : α → Option β} : ∀ {l l' : List α}, (∀ a ∈ l, f a = none) → firstOf f (l ++ l') = firstOf f l'
  | [], _, _ => rfl
  | a :: l, l', h => by
    have h1 := h a (by simp)
    have h2 := firstOf_ahead (l := l) (l' := l') (fun b hb => h b (by simp [hb]))
    simp [firstOf, h1, h2]
theorem firstOf_none {α β : Type} {f : α → Option β} {l : List α} (h : ∀ a ∈ l, f a = none) : firstOf f l = none := by
  have := firstOf_ahead (l' := []) h
  simpa [firstOf] using this

theorem termOf_to {s : ByteArray} {n : Nat} {st : Wd} (h : Fit s st) : Fit s (termOf s n st).2 := (termOf_fit n st h).1
theorem firstOf_mem {α β : Type} {f : α → Option β} : ∀ {l : List α} {b : β}, firstOf f l = some b → ∃ a ∈ l, f a = some b
  | [], _, h => by simp [firstOf] at h
  | a :: l, b, h => by
    cases ha : f a with
    | some c => simp [firstOf, ha] at h; subst h; exact ⟨a, by simp, ha⟩
    | none =>
      simp [firstOf, ha] at h
      obtain ⟨x, hx, hf⟩ := firstOf_mem h
      exact ⟨x, by simp [hx], hf⟩
theorem rangeOf_kind : ∀ {n : Nat} {t : Tm n} {d : Nat} {x : Int × Nat}, rangeOf n t d = some x → 3 ≤ x.1 ∧ x.1 ≤ 5
  | 0, _, _, _, h => by simp [rangeOf] at h
  | n + 1, t, d, x, h => by
    unfold rangeOf at h
    split at h
    · cases h; simp
    · split at h
      · cases h; simp
      · split at h
        · cases h; simp
        · obtain ⟨a, _, ha⟩ := firstOf_mem h
          exact rangeOf_kind ha
end Go.Proofs.YtmfkpllnmmfpiaaGreatDoor
