/- PowLaw, T3, S3Count -/
import Derived.Test.YtmfkpllnmmfpiaaGreatDoorWithW
import Derived.Test.YtmfkpllnmmfpiaaGreatDoorRangeW
import Derived.Test.YtmfkpllnmmfpiaaGreatDoorBookMarkW
namespace Go.Proofs.YtmfkpllnmmfpiaaGreatDoor
open Go.RowKit
def AllTm (Q : ByteArray → Nat → Prop) : (n : Nat) → Tm n → Prop
 | 0, _ => True
 | n + 1, t => Q t.name t.parts.length ∧ allOf (AllTm Q n) t.parts
def Only (Q : ByteArray → Nat → Prop) (S : WS) : Prop := ∀ (i : Nat) (s : Sh), S.shapes[i]? = some s → Q s.1 s.2.1
theorem Only.enter {Q : ByteArray → Nat → Prop} {S : WS} (h : Only Q S) {s : Sh} (hs : Q s.1 s.2.1) : Only Q (enterM S s).2 := fun i t hi => by
 have e : (enterM S s).2.shapes = S.shapes ++ [s] := by
  show (fileM S s S.shapes.length).2.shapes ++ [s] = _
  rw [(fileM_rows S s S.shapes.length).1]
 rw [e] at hi
 rcases getElem?_snoc_lt hi with ⟨_, h1⟩ | ⟨_, rfl⟩
 ·exact h i t h1
 ·exact hs
theorem Only.addAll {Q : ByteArray → Nat → Prop} {α : Type} {f : WS → α → Nat × WS} {ok : α → Prop} (hf : ∀ S x, ok x → Only Q S → Only Q (f S x).2) : ∀ (l : List α) (S : WS), allOf ok l → Only Q S → Only Q (addAll f S l).2
 | [], _, _, h => h
 | x :: l, S, hok, h => Only.addAll hf l _ hok.2 (hf S x hok.1 h)
theorem addAll_length {α : Type} {f : WS → α → Nat × WS} : ∀ (l : List α) (S : WS), (addAll f S l).1.length = l.length
 | [], _ => rfl
 | x :: l, S => by simp [addAll, addAll_length l]
theorem Only.addM {Q : ByteArray → Nat → Prop} : ∀ (n : Nat) (S : WS) (t : Tm n), AllTm Q n t → Only Q S → Only Q (addM n S t).2
 | 0, _, _, _, h => h
 | n + 1, S, t, ht, h => by
  have h1 := Only.addAll (fun S x => Only.addM n S x) t.parts S ht.2 h
  unfold Go.Proofs.YtmfkpllnmmfpiaaGreatDoor.addM
  simp only
  split
  ·exact h1
  ·exact h1.enter (by show Q t.name (Go.Proofs.YtmfkpllnmmfpiaaGreatDoor.addAll _ _ _).1.length; rw [addAll_length]; exact ht.1)
theorem Only.same {Q : ByteArray → Nat → Prop} {S T : WS} (h : Only Q S) (e : T.shapes = S.shapes) : Only Q T := fun i s hi => h i s (by rw [← e]; exact hi)
theorem sayM_shapes {n : Nat} {S : WS} (h : Web S) {x : Snt n} (hx : NarrowS x) (hr : S.shapes.length + sizeS x ≤ 400) : (sayM S x).shapes = (Go.Proofs.YtmfkpllnmmfpiaaGreatDoor.addM n (Go.Proofs.YtmfkpllnmmfpiaaGreatDoor.addM n S x.left).2 x.right).2.shapes := by
 obtain ⟨⟨a1, a2⟩, a3⟩ := addM_end n S x.left h hx.1
 have a4 := addM_adds n S x.left h.base.inv hx.1
 obtain ⟨⟨b1, b2⟩, b3⟩ := addM_end n (Go.Proofs.YtmfkpllnmmfpiaaGreatDoor.addM n S x.left).2 x.right a1 hx.2
 have b4 := addM_adds n (Go.Proofs.YtmfkpllnmmfpiaaGreatDoor.addM n S x.left).2 x.right a1.base.inv hx.2
 unfold sizeS at hr
 unfold sayM
 simp only
 generalize (Go.Proofs.YtmfkpllnmmfpiaaGreatDoor.addM n S x.left).2 = P at *
 generalize (Go.Proofs.YtmfkpllnmmfpiaaGreatDoor.addM n S x.left).1 = i at *
 generalize (Go.Proofs.YtmfkpllnmmfpiaaGreatDoor.addM n P x.right).2 = Q at *
 generalize (Go.Proofs.YtmfkpllnmmfpiaaGreatDoor.addM n P x.right).1 = j at *
 have l1 := a4.hi
 have l2 := b4.hi
 have l3 := b4.lo
 have e1 := b1.base.inv.len
 split
 ·have hJ := b1.joining (i := i) (j := j) (by have := a4.lt; omega) (by have := b4.lt; omega)
  exact (joinF_end _ _ _ hJ (by simp only [noteM]; omega) (Nat.le_refl (need [(i, j)] (noteM Q (0, i, j))))).joined.shapes
 ·rfl
theorem Only.say {Q : ByteArray → Nat → Prop} {n : Nat} {S : WS} (ho : Only Q S) (h : Web S) {x : Snt n} (hx : NarrowS x) (hr : S.shapes.length + sizeS x ≤ 400) (hl : AllTm Q n x.left) (hrr : AllTm Q n x.right) : Only Q (sayM S x) :=
 (Only.addM n _ _ hrr (Only.addM n S x.left hl ho)).same (sayM_shapes h hx hr)
def nA : ByteArray := ⟨#[97]⟩
def nF : ByteArray := ⟨#[102]⟩
def PowAt (S : WS) : Nat → Nat → Prop
 | 0, p => S.shapes[p]? = some (nA, 0, 0, 0, 0)
 | e + 1, p => ∃ q, S.shapes[p]? = some (nF, 1, q, 0, 0) ∧ PowAt S e q
def onlyAF (a : ByteArray) (k : Nat) : Prop := (a = nA ∧ k = 0) ∨ (a = nF ∧ k = 1)
theorem PowAt.mono {S T : WS} (h : ∀ (i : Nat) (s : Sh), S.shapes[i]? = some s → T.shapes[i]? = some s) : ∀ {e p : Nat}, PowAt S e p → PowAt T e p
 | 0, _, hp => h _ _ hp
 | _ + 1, _, ⟨q, h1, h2⟩ => ⟨q, h _ _ h1, h2.mono h⟩
theorem PowAt.inj {S : WS} (hB : Base S) : ∀ {e p q : Nat}, PowAt S e p → PowAt S e q → p = q
 | 0, _, _, h1, h2 => hB.inj h1 h2
 | _ + 1, _, _, ⟨a, h1, h2⟩, ⟨b, h3, h4⟩ => by
  obtain rfl := h2.inj hB h4
  exact hB.inj h1 h3
theorem PowAt.fn {S : WS} : ∀ {e f p : Nat}, PowAt S e p → PowAt S f p → e = f
 | 0, 0, _, _, _ => rfl
 | 0, _ + 1, _, h1, ⟨q, h3, _⟩ => by
  have h1' : S.shapes[_]? = some (nA, 0, 0, 0, 0) := h1
  rw [h1'] at h3
  simp at h3
 | _ + 1, 0, _, ⟨q, h3, _⟩, h1 => by
  have h1' : S.shapes[_]? = some (nA, 0, 0, 0, 0) := h1
  rw [h1'] at h3
  simp at h3
 | e + 1, f + 1, _, ⟨a, h1, h2⟩, ⟨b, h3, h4⟩ => by
  rw [h1] at h3
  simp only [Option.some.injEq, Prod.mk.injEq, true_and, and_true] at h3
  subst h3
  rw [h2.fn h4]
theorem PowAt.lt {S : WS} {e p : Nat} (h : PowAt S e p) : p < S.shapes.length := by
 cases e with
 | zero => exact (List.getElem?_eq_some_iff.1 h).1
 | succ e => obtain ⟨q, h1, _⟩ := h; exact (List.getElem?_eq_some_iff.1 h1).1
def PRel (S : WS) (R : Nat → Nat → Prop) (e f : Nat) : Prop := ∃ p q, PowAt S e p ∧ PowAt S f q ∧ R p q
section
variable {S : WS} {R : Nat → Nat → Prop}
theorem PRel.symm (hR : Closed S R) {e f : Nat} (h : PRel S R e f) : PRel S R f e := let ⟨p, q, h1, h2, h3⟩ := h; ⟨q, p, h2, h1, hR.symm _ _ h3⟩
theorem PRel.trans (hB : Base S) (hR : Closed S R) {e f g : Nat} (h : PRel S R e f) (k : PRel S R f g) : PRel S R e g := by
 obtain ⟨p, q, h1, h2, h3⟩ := h
 obtain ⟨q', r, k1, k2, k3⟩ := k
 obtain rfl := h2.inj hB k1
 exact ⟨p, r, h1, k2, hR.trans _ _ _ h3 k3⟩
theorem PRel.succ (hB : Base S) (hR : Closed S R) {e f : Nat} (h : PRel S R e f) (he : ∃ p, PowAt S (e + 1) p) (hf : ∃ p, PowAt S (f + 1) p) : PRel S R (e + 1) (f + 1) := by
 obtain ⟨p, q, h1, h2, h3⟩ := h
 obtain ⟨p', a, g1, g2⟩ := he
 obtain ⟨q', b, g3, g4⟩ := hf
 obtain rfl := h1.inj hB g2
 obtain rfl := h2.inj hB g4
 refine ⟨p', q', ⟨p, g1, h1⟩, ⟨q, g3, h2⟩, hR.cong _ _ _ _ g1 g3 rfl rfl fun k hk => ?_⟩
 have hk' : k < 1 := hk
 obtain rfl : k = 0 := by omega
 exact h3
end
end Go.Proofs.YtmfkpllnmmfpiaaGreatDoor

namespace Go.Proofs.YtmfkpllnmmfpiaaGreatDoor
inductive T3 where
 | v (i : Nat) : T3
 | f (t : T3) : T3
 | g (t : T3) (i : Nat) : T3
namespace T3
def txt : T3 → List UInt8
 | .v i => [UInt8.ofNat (97 + i)]
 | .f t => 102 :: 40 :: (t.txt ++ [41])
 | .g t i => 103 :: 40 :: (t.txt ++ [44, 32, UInt8.ofNat (97 + i), 41])
def depth : T3 → Nat
 | .v _ => 0
 | .f t => t.depth + 1
 | .g t _ => t.depth + 1
def ok : T3 → Prop
 | .v i => i < 3
 | .f t => t.ok
 | .g t i => t.ok ∧ i < 3
end T3
def isT3 : (n : Nat) → Tm n → T3 → Prop
 | 0, _, _ => False
 | _ + 1, t, .v i => t.name = ⟨#[UInt8.ofNat (97 + i)]⟩ ∧ t.parts = []
 | n + 1, t, .f u => t.name = ⟨#[102]⟩ ∧ ∃ p, t.parts = [p] ∧ isT3 n p u
 | n + 1, t, .g u i => t.name = ⟨#[103]⟩ ∧ ∃ p q, t.parts = [p, q] ∧ isT3 n p u ∧ isT3 n q (.v i)
section
variable {s : ByteArray} {A R : List UInt8} {c : UInt8}
theorem size_mid (h : s.data.toList = A ++ R) : s.size = A.length + R.length := by
 have : s.data.toList.length = s.size := by simp
 rw [← this, h, List.length_append]
theorem byte_mid (h : s.data.toList = A ++ c :: R) : byteAt s A.length = (c.toNat : Int) := by
 unfold byteAt
 rw [h]
 simp [List.getD]
theorem word_blank (h : s.data.toList = A ++ 32 :: R) : wordAt s A.length = wordAt s (A.length + 1) := by
 have h1 := size_mid h
 simp only [List.length_cons] at h1
 have h2 : endOf blankB s A.length = endOf blankB s (A.length + 1) := endOf_step (by omega) (by rw [byte_mid h]; rfl)
 unfold wordAt
 rw [h2]
theorem blank_stop (h : s.data.toList = A ++ c :: R) (hc : c ≠ 32) : endOf blankB s A.length = A.length := by
 refine endOf_stop fun hh => ?_
 rw [byte_mid h] at hh
 have h1 : ((c.toNat : Int)) = 32 := by simpa [blankB] using hh.2
 exact hc (UInt8.toNat_inj.1 (by show c.toNat = 32; omega))
theorem word_letter (h : s.data.toList = A ++ c :: R) (hc : letterB (c.toNat : Int) = true) (hR : ∀ d R', R = d :: R' → wordB (d.toNat : Int) = false) : wordAt s A.length = (0, A.length, A.length + 1) := by
 have h1 := size_mid h
 simp only [List.length_cons] at h1
 have hk : kindOf (byteAt s A.length) = 0 := by rw [byte_mid h]; unfold kindOf; rw [if_pos hc]
 have hb : c ≠ 32 := fun e => by subst e; revert hc; decide
 rw [wordAt_name (blank_stop h hb) (by omega) hk]
 congr 2
 refine endOf_stop fun hh => ?_
 cases R with
 | nil => simp at h1; omega
 | cons d R' =>
  have h2 : s.data.toList = (A ++ [c]) ++ d :: R' := by rw [h]; simp
  have h3 := byte_mid h2
  rw [List.length_append] at h3
  have h4 : byteAt s (A.length + 1) = (d.toNat : Int) := h3
  rw [h4, hR d R' rfl] at hh
  exact absurd hh.2 (by decide)
theorem word_sign {k : Int} (h : s.data.toList = A ++ c :: R) (hb : c ≠ 32) (hk : kindOf (c.toNat : Int) = k) (h06 : k ≠ 0 ∧ k ≠ 6) : wordAt s A.length = (k, A.length, A.length + 1) := by
 have h1 := size_mid h
 simp only [List.length_cons] at h1
 rw [wordAt_other (blank_stop h hb) (by omega) (by rw [byte_mid h, hk]; exact h06.1) (by rw [byte_mid h, hk]; exact fun e => h06.2 e.1), byte_mid h, hk]
theorem word_ne (h : s.data.toList = A ++ 33 :: 61 :: R) : wordAt s A.length = (5, A.length, A.length + 2) := by
 have h1 := size_mid h
 simp only [List.length_cons] at h1
 have h2 : s.data.toList = (A ++ [33]) ++ 61 :: R := by rw [h]; simp
 have h3 := byte_mid h2
 rw [List.length_append] at h3
 exact wordAt_unequal (blank_stop h (by decide)) (by omega) (by rw [byte_mid h]; decide) h3
theorem word_end (h : s.data.toList = A) : wordAt s A.length = (7, s.size, s.size) := by
 have h1 : s.data.toList.length = s.size := by simp
 rw [h] at h1
 exact wordAt_end (by rw [endOf_stop (fun hh => by omega)]; exact h1)
theorem extract_one (h : s.data.toList = A ++ c :: R) : s.extract A.length (A.length + 1) = ⟨#[c]⟩ := by
 apply ByteArray.ext
 simp only [ByteArray.data_extract]
 apply Array.ext'
 rw [Array.toList_extract, h]
 simp [List.extract]
end
theorem letter_ok {i : Nat} (h : i < 3) : letterB ((UInt8.ofNat (97 + i)).toNat : Int) = true := by
 match i, h with
 | 0, _ => decide
 | 1, _ => decide
 | 2, _ => decide
 | i + 3, h => omega
theorem termOf_T3 {s : ByteArray} : ∀ (t : T3) (n : Nat) (A R : List UInt8), t.ok → t.depth < n → s.data.toList = A ++ (t.txt ++ R) → (∀ d R', R = d :: R' → wordB (d.toNat : Int) = false) → (wordAt s (A.length + t.txt.length)).1 ≠ 1 →
  ∃ x, termOf s n (wordAt s A.length) = (some x, wordAt s (A.length + t.txt.length)) ∧ isT3 n x t
 | _, 0, _, _, _, hd, _, _, _ => absurd hd (Nat.not_lt_zero _)
 | .v i, n + 1, A, R, hok, _, h, hR, hk => by
  have h1 : s.data.toList = A ++ UInt8.ofNat (97 + i) :: R := h
  have hw := word_letter h1 (letter_ok hok) hR
  rw [hw]
  have hk' : (wordAt s (A.length + 1)).1 ≠ 1 := hk
  rw [termOf_bare (st := (0, A.length, A.length + 1)) rfl hk']
  exact ⟨_, rfl, extract_one h1, rfl⟩
 | .f u, n + 1, A, R, hok, hd, h, hR, hk => by
  have hd' : u.depth < n := by simp [T3.depth] at hd; omega
  have h1 : s.data.toList = A ++ 102 :: (40 :: (u.txt ++ 41 :: R)) := by rw [h]; simp [T3.txt]
  have h2 : s.data.toList = (A ++ [102]) ++ 40 :: (u.txt ++ 41 :: R) := by rw [h1]; simp
  have h3 : s.data.toList = (A ++ [102, 40]) ++ (u.txt ++ 41 :: R) := by rw [h1]; simp
  have h4 : s.data.toList = (A ++ [102, 40] ++ u.txt) ++ 41 :: R := by rw [h1]; simp
  have w1 := word_letter h1 (by decide) (fun d R' e => by cases e; decide)
  have w2 := word_sign (k := 1) h2 (by decide) (by decide) (by decide)
  have w4 := word_sign (k := 2) h4 (by decide) (by decide) (by decide)
  have hl : (A ++ [102, 40] ++ u.txt).length = (A ++ [102, 40]).length + u.txt.length := List.length_append
  rw [hl] at w4
  obtain ⟨x, hx, hi⟩ := termOf_T3 u n (A ++ [102, 40]) (41 :: R) hok hd' h3 (fun d R' e => by cases e; decide) (by rw [w4]; simp)
  have e1 : (A ++ [102]).length = A.length + 1 := by simp
  have e2 : (A ++ [102, 40]).length = A.length + 2 := by simp
  rw [e1] at w2
  rw [e2] at hx w4
  have hp : partsOf s (termOf s n) (s.size + 1) (wordAt s (A.length + 1)) = (some [x], wordAt s (A.length + 2 + u.txt.length + 1)) := by
   have hh : termOf s n (wordAt s (wordAt s (A.length + 1)).2.2) = (some x, wordAt s (A.length + 2 + u.txt.length)) := by rw [w2]; exact hx
   have := partsOf_close (acc := []) (m := s.size) hh (by rw [w4])
   rw [aheadOf_nil, w4] at this
   exact this
  have hlen : A.length + (T3.f u).txt.length = A.length + 2 + u.txt.length + 1 := by simp [T3.txt]; omega
  rw [w1, hlen, termOf_parts (st := (0, A.length, A.length + 1)) rfl (by show (wordAt s (A.length + 1)).1 = 1; rw [w2]) hp]
  exact ⟨_, rfl, extract_one h1, x, rfl, hi⟩
 | .g u i, n + 1, A, R, hok, hd, h, hR, hk => by
  have hd' : u.depth < n := by simp [T3.depth] at hd; omega
  have h1 : s.data.toList = A ++ 103 :: (40 :: (u.txt ++ 44 :: 32 :: UInt8.ofNat (97 + i) :: 41 :: R)) := by rw [h]; simp [T3.txt]
  have h2 : s.data.toList = (A ++ [103]) ++ 40 :: (u.txt ++ 44 :: 32 :: UInt8.ofNat (97 + i) :: 41 :: R) := by rw [h1]; simp
  have h3 : s.data.toList = (A ++ [103, 40]) ++ (u.txt ++ 44 :: 32 :: UInt8.ofNat (97 + i) :: 41 :: R) := by rw [h1]; simp
  have h4 : s.data.toList = (A ++ [103, 40] ++ u.txt) ++ 44 :: 32 :: UInt8.ofNat (97 + i) :: 41 :: R := by rw [h1]; simp
  have h5 : s.data.toList = (A ++ [103, 40] ++ u.txt ++ [44]) ++ 32 :: UInt8.ofNat (97 + i) :: 41 :: R := by rw [h1]; simp
  have h6 : s.data.toList = (A ++ [103, 40] ++ u.txt ++ [44, 32]) ++ (T3.txt (.v i) ++ 41 :: R) := by rw [h1]; simp [T3.txt]
  have h7 : s.data.toList = (A ++ [103, 40] ++ u.txt ++ [44, 32, UInt8.ofNat (97 + i)]) ++ 41 :: R := by rw [h1]; simp
  have w1 := word_letter h1 (by decide) (fun d R' e => by cases e; decide)
  have w2 := word_sign (k := 1) h2 (by decide) (by decide) (by decide)
  have w4 := word_sign (k := 3) h4 (by decide) (by decide) (by decide)
  have w5 := word_blank h5
  have w7 := word_sign (k := 2) h7 (by decide) (by decide) (by decide)
  have hl : (A ++ [103, 40] ++ u.txt).length = (A ++ [103, 40]).length + u.txt.length := List.length_append
  rw [hl] at w4
  obtain ⟨x, hx, hi⟩ := termOf_T3 u n (A ++ [103, 40]) _ hok.1 hd' h3 (fun d R' e => by cases e; decide) (by rw [w4]; simp)
  have l7 : (A ++ [103, 40] ++ u.txt ++ [44, 32, UInt8.ofNat (97 + i)]).length = (A ++ [103, 40] ++ u.txt ++ [44, 32]).length + (T3.txt (.v i)).length := by simp only [List.length_append, List.length_cons, List.length_nil, T3.txt]
  rw [l7] at w7
  obtain ⟨y, hy, hj⟩ := termOf_T3 (.v i) n (A ++ [103, 40] ++ u.txt ++ [44, 32]) (41 :: R) hok.2 (Nat.lt_of_le_of_lt (Nat.zero_le _) hd') h6 (fun d R' e => by cases e; decide) (by rw [w7]; simp)
  have e1 : (A ++ [103]).length = A.length + 1 := by simp
  have e2 : (A ++ [103, 40]).length = A.length + 2 := by simp
  have e5 : (A ++ [103, 40] ++ u.txt ++ [44]).length = A.length + 2 + u.txt.length + 1 := by simp; omega
  have e6 : (A ++ [103, 40] ++ u.txt ++ [44, 32]).length = A.length + 2 + u.txt.length + 2 := by simp; omega
  have e7 : (T3.txt (.v i)).length = 1 := rfl
  rw [e1] at w2
  rw [e2] at hx w4
  rw [e5] at w5
  rw [e6, e7] at hy w7
  have hp : partsOf s (termOf s n) (s.size + 1) (wordAt s (A.length + 1)) = (some [x, y], wordAt s (A.length + 2 + u.txt.length + 2 + 1 + 1)) := by
   have hh : termOf s n (wordAt s (wordAt s (A.length + 1)).2.2) = (some x, wordAt s (A.length + 2 + u.txt.length)) := by rw [w2]; exact hx
   have h8 := partsOf_comma (acc := []) (m := s.size) hh (by rw [w4])
   rw [aheadOf_nil] at h8
   rw [h8]
   have hz := size_mid h1
   simp only [List.length_cons] at hz
   obtain ⟨m, hm⟩ : ∃ m, s.size = m + 1 := ⟨s.size - 1, by omega⟩
   have hh2 : termOf s n (wordAt s (wordAt s (A.length + 2 + u.txt.length)).2.2) = (some y, wordAt s (A.length + 2 + u.txt.length + 2 + 1)) := by
    rw [w4]
    show termOf s n (wordAt s (A.length + 2 + u.txt.length + 1)) = _
    rw [w5]
    exact hy
   have h9 := partsOf_close (acc := [x]) (m := m) hh2 (by rw [w7])
   rw [hm]
   simp only [List.nil_append]
   rw [h9, w7]
   rfl
  have hlen : A.length + (T3.g u i).txt.length = A.length + 2 + u.txt.length + 2 + 1 + 1 := by simp [T3.txt]; omega
  rw [w1, hlen, termOf_parts (st := (0, A.length, A.length + 1)) rfl (by show (wordAt s (A.length + 1)).1 = 1; rw [w2]) hp]
  exact ⟨_, rfl, extract_one h1, x, y, rfl, hi, hj⟩
theorem isT3_range : ∀ (n : Nat) (x : Tm n) (t : T3) (d : Nat), isT3 n x t → t.depth + d ≤ 12 → rangeOf n x d = none
 | 0, x, _, _, _, _ => x.elim
 | n + 1, x, .v i, d, h, hd => by
  unfold rangeOf
  simp only [T3.depth] at hd
  rw [h.1, h.2, if_neg (by show ¬ 8 < 1; omega), if_neg (by simp), if_neg (by omega)]
  rfl
 | n + 1, x, .f u, d, h, hd => by
  obtain ⟨h1, p, h2, h3⟩ := h
  simp only [T3.depth] at hd
  have := isT3_range n p u (d + 1) h3 (by omega)
  unfold rangeOf
  rw [h1, h2, if_neg (by show ¬ 8 < 1; omega), if_neg (by simp), if_neg (by omega)]
  simp [firstOf, this]
 | n + 1, x, .g u i, d, h, hd => by
  obtain ⟨h1, p, q, h2, h3, h4⟩ := h
  simp only [T3.depth] at hd
  have a := isT3_range n p u (d + 1) h3 (by omega)
  have b := isT3_range n q (.v i) (d + 1) h4 (by simp [T3.depth]; omega)
  unfold rangeOf
  rw [h1, h2, if_neg (by show ¬ 8 < 1; omega), if_neg (by simp), if_neg (by omega)]
  simp [firstOf, a, b]
def s3T (l : T3) (b : Bool) (r : T3) : ByteArray := ⟨(l.txt ++ ((if b then [32, 61, 32] else [32, 33, 61, 32]) ++ r.txt)).toArray⟩
theorem read_T3 (l r : T3) (b : Bool) (hl : l.ok) (hr : r.ok) (dl : l.depth ≤ 12) (dr : r.depth ≤ 12) (hs : (s3T l b r).size ≤ 200) :
  ∃ x, (readOf (s3T l b r)).1 = some x ∧ isT3 _ x.left l ∧ x.eq = b ∧ isT3 _ x.right r := by
 have hlen : ∀ t : T3, t.depth < t.txt.length := fun t => by
  induction t with
  | v i => simp [T3.depth, T3.txt]
  | f t ih => simp [T3.depth, T3.txt]; omega
  | g t i ih => simp [T3.depth, T3.txt]; omega
 obtain ⟨s, hse⟩ : ∃ s, s3T l b r = s := ⟨_, rfl⟩
 rw [hse] at hs ⊢
 have h0 : s.data.toList = [] ++ (l.txt ++ ((if b then [32, 61, 32] else [32, 33, 61, 32]) ++ r.txt)) := by rw [← hse]; simp [s3T]
 have hsz := size_mid h0
 simp only [List.length_append, List.length_nil] at hsz
 have f1 := hlen l
 have f2 := hlen r
 have hfu : fuelOf s = s.size + 1 := rfl
 have w7 := word_end (s := s) rfl
 have hll : s.data.toList.length = s.size := by simp
 rw [hll] at w7
 have key : ∃ x st, sentOf s (fuelOf s) (wordAt s 0) = (some x, st) ∧ isT3 _ x.left l ∧ x.eq = b ∧ isT3 _ x.right r := by
  cases b with
  | true =>
   have h1 : s.data.toList = l.txt ++ 32 :: (61 :: 32 :: r.txt) := by rw [h0]; simp
   have h2 : s.data.toList = (l.txt ++ [32]) ++ 61 :: (32 :: r.txt) := by rw [h0]; simp
   have h3 : s.data.toList = (l.txt ++ [32, 61]) ++ 32 :: r.txt := by rw [h0]; simp
   have h4 : s.data.toList = (l.txt ++ [32, 61, 32]) ++ (r.txt ++ []) := by rw [h0]; simp
   have w1 := word_blank h1
   have w2 := word_sign (k := 4) h2 (by decide) (by decide) (by decide)
   have w3 := word_blank h3
   rw [show (l.txt ++ ([32] : List UInt8)).length = l.txt.length + 1 by simp] at w2
   rw [show (l.txt ++ ([32, 61] : List UInt8)).length = l.txt.length + 2 by simp] at w3
   have we : (l.txt ++ [32, 61, 32]).length + r.txt.length = s.size := by simp at hsz ⊢; omega
   obtain ⟨x, hx, ix⟩ := termOf_T3 l (fuelOf s) [] _ hl (by rw [hfu]; omega) h0 (fun d R' e => by simp at e; rw [← e.1]; decide) (by simp only [List.length_nil, Nat.zero_add]; rw [w1, w2]; simp)
   obtain ⟨y, hy, iy⟩ := termOf_T3 r (fuelOf s) _ [] hr (by rw [hfu]; omega) h4 (fun d R' e => by cases e) (by rw [we, w7]; simp)
   simp only [List.length_nil, Nat.zero_add] at hx
   rw [we, show (l.txt ++ ([32, 61, 32] : List UInt8)).length = l.txt.length + 3 by simp] at hy
   refine ⟨⟨x, true, y⟩, (7, s.size, s.size), ?_, ix, rfl, iy⟩
   unfold sentOf
   rw [hx]
   simp only
   rw [w1, w2, signOf_eq rfl]
   simp only
   rw [w3, hy]
   simp only
   rw [w7, if_pos rfl]
  | false =>
   have h1 : s.data.toList = l.txt ++ 32 :: (33 :: 61 :: 32 :: r.txt) := by rw [h0]; simp
   have h2 : s.data.toList = (l.txt ++ [32]) ++ 33 :: 61 :: (32 :: r.txt) := by rw [h0]; simp
   have h3 : s.data.toList = (l.txt ++ [32, 33, 61]) ++ 32 :: r.txt := by rw [h0]; simp
   have h4 : s.data.toList = (l.txt ++ [32, 33, 61, 32]) ++ (r.txt ++ []) := by rw [h0]; simp
   have w1 := word_blank h1
   have w2 := word_ne h2
   have w3 := word_blank h3
   rw [show (l.txt ++ ([32] : List UInt8)).length = l.txt.length + 1 by simp] at w2
   rw [show (l.txt ++ ([32, 33, 61] : List UInt8)).length = l.txt.length + 3 by simp] at w3
   have we : (l.txt ++ [32, 33, 61, 32]).length + r.txt.length = s.size := by simp at hsz ⊢; omega
   obtain ⟨x, hx, ix⟩ := termOf_T3 l (fuelOf s) [] _ hl (by rw [hfu]; omega) h0 (fun d R' e => by simp at e; rw [← e.1]; decide) (by simp only [List.length_nil, Nat.zero_add]; rw [w1, w2]; simp)
   obtain ⟨y, hy, iy⟩ := termOf_T3 r (fuelOf s) _ [] hr (by rw [hfu]; omega) h4 (fun d R' e => by cases e) (by rw [we, w7]; simp)
   simp only [List.length_nil, Nat.zero_add] at hx
   rw [we, show (l.txt ++ ([32, 33, 61, 32] : List UInt8)).length = l.txt.length + 4 by simp] at hy
   refine ⟨⟨x, false, y⟩, (7, s.size, s.size), ?_, ix, rfl, iy⟩
   unfold sentOf
   rw [hx]
   simp only
   rw [w1, w2, signOf_ne rfl]
   simp only
   rw [w3, hy]
   simp only
   rw [w7, if_pos rfl]
 obtain ⟨x, st, hx, i1, i2, i3⟩ := key
 refine ⟨x, ?_, i1, i2, i3⟩
 have g1 := isT3_range _ x.left l 0 i1 (by omega)
 have g2 := isT3_range _ x.right r 0 i3 (by omega)
 unfold readOf
 rw [if_neg (by omega), hx]
 simp only
 rw [g1]
 simp only
 rw [g2]
end Go.Proofs.YtmfkpllnmmfpiaaGreatDoor

namespace Go.Proofs.YtmfkpllnmmfpiaaGreatDoor
open Go.RowKit
def nc (S : WS) : Nat := (S.shapes.filter (fun s => s.2.1 != 0)).length
theorem nc_same {S T : WS} (h : T.shapes = S.shapes) : nc T = nc S := by unfold nc; rw [h]
theorem nc_enter (S : WS) (s : Sh) : nc (enterM S s).2 ≤ nc S + 1 ∧ (s.2.1 = 0 → nc (enterM S s).2 = nc S) := by
 have e : (enterM S s).2.shapes = S.shapes ++ [s] := by
  show (fileM S s S.shapes.length).2.shapes ++ [s] = _
  rw [(fileM_rows S s S.shapes.length).1]
 unfold nc
 rw [e, List.filter_append, List.length_append]
 constructor
 ·have : ([s].filter (fun s => s.2.1 != 0)).length ≤ 1 := List.length_filter_le _ _
  omega
 ·intro h0
  simp [h0]
theorem addM_of (n : Nat) (S : WS) (t : Tm (n + 1)) : ∃ s : Sh, s.2.1 = t.parts.length ∧ ((addM (n + 1) S t).2 = (addAll (addM n) S t.parts).2 ∨ (addM (n + 1) S t).2 = (enterM (addAll (addM n) S t.parts).2 s).2) := by
 refine ⟨shapeOf t.name (addAll (addM n) S t.parts).1, by show (addAll _ _ _).1.length = _; rw [addAll_length], ?_⟩
 unfold addM
 simp only
 split
 ·exact .inl rfl
 ·exact .inr rfl
theorem nc_addM : ∀ (n : Nat) (S : WS) (x : Tm n) (t : T3), isT3 n x t → nc (addM n S x).2 ≤ nc S + t.depth
 | 0, _, x, _, _ => x.elim
 | n + 1, S, x, .v i, h => by
  obtain ⟨s, hs, hc⟩ := addM_of n S x
  rw [h.2] at hs hc
  have e : (addAll (addM n) S []).2 = S := rfl
  rw [e] at hc
  rcases hc with hc | hc
  ·rw [hc]; exact Nat.le_add_right _ _
  ·rw [hc, (nc_enter S s).2 hs]; exact Nat.le_add_right _ _
 | n + 1, S, x, .f u, h => by
  obtain ⟨_, p, hp, hu⟩ := h
  obtain ⟨s, hs, hc⟩ := addM_of n S x
  rw [hp] at hc
  have e : (addAll (addM n) S [p]).2 = (addM n S p).2 := rfl
  rw [e] at hc
  have h1 := nc_addM n S p u hu
  simp only [T3.depth]
  rcases hc with hc | hc
  ·rw [hc]; omega
  ·rw [hc]
   have := (nc_enter (addM n S p).2 s).1
   omega
 | n + 1, S, x, .g u i, h => by
  obtain ⟨_, p, q, hp, hu, hv⟩ := h
  obtain ⟨s, hs, hc⟩ := addM_of n S x
  rw [hp] at hc
  have e : (addAll (addM n) S [p, q]).2 = (addM n (addM n S p).2 q).2 := rfl
  rw [e] at hc
  have h1 := nc_addM n S p u hu
  have h2 := nc_addM n (addM n S p).2 q (.v i) hv
  simp only [T3.depth] at h2 ⊢
  rcases hc with hc | hc
  ·rw [hc]; omega
  ·rw [hc]
   have := (nc_enter (addM n (addM n S p).2 q).2 s).1
   omega
def vB (i : Nat) : ByteArray := ⟨#[UInt8.ofNat (97 + i)]⟩
def only3 (a : ByteArray) (k : Nat) : Prop := k = 0 → a = vB 0 ∨ a = vB 1 ∨ a = vB 2
theorem isT3_all : ∀ (n : Nat) (x : Tm n) (t : T3), isT3 n x t → t.ok → AllTm only3 n x
 | 0, x, _, _, _ => x.elim
 | n + 1, x, .v i, h, hok => by
  refine ⟨fun _ => ?_, by rw [h.2]; trivial⟩
  rw [h.1]
  have hi : i < 3 := hok
  match i, hi with
  | 0, _ => exact .inl rfl
  | 1, _ => exact .inr (.inl rfl)
  | 2, _ => exact .inr (.inr rfl)
  | i + 3, hi => omega
 | n + 1, x, .f u, h, hok => by
  obtain ⟨_, p, hp, hu⟩ := h
  exact ⟨fun e => by rw [hp] at e; simp at e, by rw [hp]; exact ⟨isT3_all n p u hu hok, trivial⟩⟩
 | n + 1, x, .g u i, h, hok => by
  obtain ⟨_, p, q, hp, hu, hv⟩ := h
  exact ⟨fun e => by rw [hp] at e; simp at e, by rw [hp]; exact ⟨isT3_all n p u hu hok.1, isT3_all n q (.v i) hv hok.2, trivial⟩⟩
theorem isT3_size : ∀ (n : Nat) (x : Tm n) (t : T3), isT3 n x t → sizeT n x ≤ 2 * t.depth + 1
 | 0, x, _, _ => x.elim
 | n + 1, x, .v i, h => by simp only [sizeT, h.2, sumOf, T3.depth]; omega
 | n + 1, x, .f u, h => by
  obtain ⟨_, p, hp, hu⟩ := h
  have := isT3_size n p u hu
  simp only [sizeT, hp, sumOf, T3.depth]; omega
 | n + 1, x, .g u i, h => by
  obtain ⟨_, p, q, hp, hu, hv⟩ := h
  have h1 := isT3_size n p u hu
  have h2 := isT3_size n q (.v i) hv
  simp only [T3.depth] at h2
  simp only [sizeT, hp, sumOf, T3.depth]; omega
theorem nodup3 {α : Type} {a b c : α} : ∀ {l : List α}, l.Nodup → (∀ x ∈ l, x = a ∨ x = b ∨ x = c) → l.length ≤ 3
 | [], _, _ => by simp
 | [_], _, _ => by simp
 | [_, _], _, _ => by simp
 | [_, _, _], _, _ => by simp
 | x :: y :: z :: u :: l, hn, h => by
  exfalso
  simp only [List.nodup_cons, List.mem_cons, not_or] at hn
  obtain ⟨⟨n1, n2, n3, _⟩, ⟨n4, n5, _⟩, ⟨n6, _⟩, _⟩ := hn
  have h1 := h x (by simp)
  have h2 := h y (by simp)
  have h3 := h z (by simp)
  have h4 := h u (by simp)
  rcases h1 with rfl | rfl | rfl <;> rcases h2 with rfl | rfl | rfl <;> rcases h3 with rfl | rfl | rfl <;> rcases h4 with rfl | rfl | rfl <;> simp_all
theorem nodup_of_get {α : Type} : ∀ {l : List α}, (∀ (i j : Nat) (x : α), l[i]? = some x → l[j]? = some x → i = j) → l.Nodup
 | [], _ => List.nodup_nil
 | a :: l, h => by
  refine List.nodup_cons.2 ⟨fun hm => ?_, nodup_of_get fun i j x hi hj => by have := h (i + 1) (j + 1) x (by simpa using hi) (by simpa using hj); omega⟩
  obtain ⟨i, hi⟩ := List.getElem?_of_mem hm
  have := h 0 (i + 1) a (by simp) (by simpa using hi)
  omega
theorem filter_split {α : Type} (p : α → Bool) : ∀ l : List α, l.length = (l.filter p).length + (l.filter (fun x => !p x)).length
 | [] => rfl
 | a :: l => by
  have := filter_split p l
  cases h : p a <;> simp [h] <;> omega
theorem shapes3 {S : WS} (hB : Base S) (ho : Only only3 S) : S.shapes.length ≤ nc S + 3 := by
 have hn : S.shapes.Nodup := nodup_of_get fun i j s hi hj => hB.inj hi hj
 have h3 : (S.shapes.filter (fun s => !(s.2.1 != 0))).length ≤ 3 := by
  refine nodup3 (a := (vB 0, 0, 0, 0, 0)) (b := (vB 1, 0, 0, 0, 0)) (c := (vB 2, 0, 0, 0, 0)) (hn.filter _) fun s hs => ?_
  rw [List.mem_filter] at hs
  obtain ⟨hm, h0⟩ := hs
  have h0' : s.2.1 = 0 := by simpa using h0
  obtain ⟨i, hi⟩ := List.getElem?_of_mem hm
  have hg := hB.good i s hi
  have r0 : s.2.2.1 = 0 := hg.rest 0 (by omega) (by omega)
  have r1 : s.2.2.2.1 = 0 := hg.rest 1 (by omega) (by omega)
  have r2 : s.2.2.2.2 = 0 := hg.rest 2 (by omega) (by omega)
  have hq := ho i s hi h0'
  obtain ⟨a, k, p, q, r⟩ := s
  simp only at h0' r0 r1 r2 hq
  subst h0' r0 r1 r2
  rcases hq with rfl | rfl | rfl
  ·exact .inl rfl
  ·exact .inr (.inl rfl)
  ·exact .inr (.inr rfl)
 have := filter_split (fun s : Sh => s.2.1 != 0) S.shapes
 unfold nc
 omega
structure W3 (S : WS) (k : Nat) : Prop where
 fine : Fine S
 only : Only only3 S
 nc : nc S ≤ 4 * k
 said : S.said.length = k
theorem W3.none : W3 noWS 0 := ⟨noWS_fine, fun i s h => by simp [noWS] at h, by simp [Go.Proofs.YtmfkpllnmmfpiaaGreatDoor.nc, noWS], rfl⟩
theorem W3.len {S : WS} {k : Nat} (h : W3 S k) : S.shapes.length ≤ 4 * k + 3 := by
 have h1 := shapes3 h.fine.web.base h.only
 have h2 := h.nc
 omega
structure S3 where
 l : T3
 b : Bool
 r : T3
structure S3.ok (s : S3) : Prop where
 l : s.l.ok
 r : s.r.ok
 dl : s.l.depth ≤ 2
 dr : s.r.depth ≤ 2
def S3.text (s : S3) : ByteArray := s3T s.l s.b s.r
theorem T3.len : ∀ t : T3, t.txt.length ≤ 6 * t.depth + 1
 | .v _ => by simp [T3.txt, T3.depth]
 | .f t => by have := T3.len t; simp [T3.txt, T3.depth]; omega
 | .g t _ => by have := T3.len t; simp [T3.txt, T3.depth]; omega
theorem S3.size {s : S3} (h : s.ok) : s.text.size ≤ 30 := by
 have h1 := s.l.len
 have h2 := s.r.len
 have h3 := h.dl
 have h4 := h.dr
 have e : s.text.size = s.l.txt.length + ((if s.b then [32, 61, 32] else [32, 33, 61, 32] : List UInt8).length + s.r.txt.length) := by
  show (s.l.txt ++ (_ ++ s.r.txt)).toArray.size = _
  simp
 rw [e]
 split <;> simp <;> omega
theorem S3.read {s : S3} (h : s.ok) : ∃ x, (readOf s.text).1 = some x ∧ isT3 _ x.left s.l ∧ x.eq = s.b ∧ isT3 _ x.right s.r :=
 read_T3 s.l s.r s.b h.l h.r (by have := h.dl; omega) (by have := h.dr; omega) (by have := S3.size h; unfold S3.text at this; omega)
theorem W3.say {S : WS} {k : Nat} (h : W3 S k) (hk : k ≤ 23) {s : S3} (hs : s.ok) : (sayOf S s.text).1 = (k, 0, 0) ∧ W3 (sayOf S s.text).2 (k + 1) ∧ ∀ S0, Goes S0 S → Goes S0 (sayOf S s.text).2 := by
 obtain ⟨x, hx, h1, h2, h3⟩ := S3.read hs
 obtain ⟨hnar, _, _⟩ := readOf_small hx
 have hl := h.len
 have z1 := isT3_size _ _ _ h1
 have z2 := isT3_size _ _ _ h3
 have d1 := hs.dl
 have d2 := hs.dr
 have hsz : sizeS x ≤ 10 := by unfold sizeS; omega
 have E := sayM_end h.fine.web hnar (by omega)
 obtain ⟨i, j, _, _, hsd⟩ := E.said
 have ho : Only only3 (sayM S x) := h.only.say h.fine.web hnar (by omega) (isT3_all _ _ _ h1 hs.l) (isT3_all _ _ _ h3 hs.r)
 have hnc : Go.Proofs.YtmfkpllnmmfpiaaGreatDoor.nc (sayM S x) ≤ 4 * (k + 1) := by
  rw [nc_same (sayM_shapes h.fine.web hnar (by omega))]
  have a := nc_addM _ S x.left s.l h1
  have b := nc_addM _ (addM _ S x.left).2 x.right s.r h3
  have c := h.nc
  omega
 have hW : W3 (sayM S x) (k + 1) := ⟨⟨E.web, E.pot h.fine.pot⟩, ho, hnc, by rw [hsd]; simp [h.said]⟩
 have hlen := hW.len
 have e : sayOf S s.text = ((S.said.length, 0, 0), sayM S x) := by
  unfold sayOf
  rw [hx]
  simp only
  rw [if_neg (by rw [h.said]; omega), if_neg (by omega)]
 rw [e]
 exact ⟨by rw [h.said], hW, E.goes⟩
end Go.Proofs.YtmfkpllnmmfpiaaGreatDoor
