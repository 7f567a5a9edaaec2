/- WhyLaw, SentLaw, RefHold -/
import Derived.Test.YtmfkpllnmmfpiaaGreatDoorRefReadW
import Derived.Test.YtmfkpllnmmfpiaaGreatDoorWebTermW
import Derived.Test.YtmfkpllnmmfpiaaGreatDoorRefDrawW
import Derived.Test.YtmfkpllnmmfpiaaGreatDoorBookTellW
namespace Go.Proofs.YtmfkpllnmmfpiaaGreatDoor
open Go.RowKit
def ClashOn (c : ST) (L : List ST) (p : Nat → Prop) : Prop := ∃ M : List ST, (∀ s ∈ M, s = c ∨ ∃ j, p j ∧ L[j]? = some s) ∧ ClashT M
theorem ClashOn.mono {c : ST} {L : List ST} {p q : Nat → Prop} (h : ∀ j, j < L.length → p j → q j) : ClashOn c L p → ClashOn c L q
 | ⟨M, h1, h2⟩ => ⟨M, fun s hs => (h1 s hs).imp id fun ⟨j, hj, e⟩ => ⟨j, h j (List.getElem?_eq_some_iff.1 e).1 hj, e⟩, h2⟩
structure WhyIs (c : ST) (L : List ST) (l : List Nat) : Prop where
 rise : l.Pairwise (· < ·)
 lt : ∀ k ∈ l, k < L.length
 iff : ∀ k, k < L.length → (k ∈ l ↔ ¬ ClashOn c L (fun j => j < k ∨ (k < j ∧ j ∈ l)))
theorem rise_eq : ∀ {l m : List Nat}, l.Pairwise (· < ·) → m.Pairwise (· < ·) → (∀ x, x ∈ l ↔ x ∈ m) → l = m
 | [], [], _, _, _ => rfl
 | [], b :: m, _, _, h => by have := (h b).2 (by simp); cases this
 | a :: l, [], _, _, h => by have := (h a).1 (by simp); cases this
 | a :: l, b :: m, hl, hm, h => by
  have hl' := List.pairwise_cons.1 hl
  have hm' := List.pairwise_cons.1 hm
  have e : a = b := by
   have h1 := (h a).1 (by simp)
   have h2 := (h b).2 (by simp)
   simp only [List.mem_cons] at h1 h2
   rcases h1 with h1 | h1
   ·exact h1
   ·rcases h2 with h2 | h2
    ·exact h2.symm
    ·have := hm'.1 a h1
     have := hl'.1 b h2
     omega
  subst e
  rw [rise_eq hl'.2 hm'.2 fun x => ?_]
  have hx := h x
  simp only [List.mem_cons] at hx
  constructor
  ·intro hq
   rcases hx.1 (.inr hq) with rfl | h1
   ·exact absurd (hl'.1 x hq) (Nat.lt_irrefl _)
   ·exact h1
  ·intro hq
   rcases hx.2 (.inr hq) with rfl | h1
   ·exact absurd (hm'.1 x hq) (Nat.lt_irrefl _)
   ·exact h1
theorem WhyIs.unique {c : ST} {L : List ST} {l m : List Nat} (h : WhyIs c L l) (k : WhyIs c L m) : l = m := by
 have key : ∀ d i, i < L.length → L.length ≤ i + d → (i ∈ l ↔ i ∈ m) := by
  intro d
  induction d with
  | zero => intro i h1 h2; omega
  | succ d ih =>
   intro i h1 h2
   rw [h.iff i h1, k.iff i h1]
   have e : ClashOn c L (fun j => j < i ∨ (i < j ∧ j ∈ l)) ↔ ClashOn c L (fun j => j < i ∨ (i < j ∧ j ∈ m)) := by
    constructor
    ·exact ClashOn.mono fun j hj hp => hp.imp id fun hp => ⟨hp.1, (ih j hj (by omega)).1 hp.2⟩
    ·exact ClashOn.mono fun j hj hp => hp.imp id fun hp => ⟨hp.1, (ih j hj (by omega)).2 hp.2⟩
   rw [e]
 refine rise_eq h.rise k.rise fun x => ⟨fun hx => ?_, fun hx => ?_⟩
 ·have := h.lt x hx
  exact (key L.length x this (by omega)).1 hx
 ·have := k.lt x hx
  exact (key L.length x this (by omega)).2 hx
def eraseX (x : SntX) : ST := eraseS x.2
def whyR (O : Nat → WS) (xs : List SntX) : Nat → List Nat × List SntX
 | 0 => ([], [])
 | d + 1 => if clashM (sayAll (O (xs.length - (d + 1))) (whyR O xs d).2) then whyR O xs d else ((whyR O xs d).1 ++ [xs.length - (d + 1)], (whyR O xs d).2 ++ (xs[xs.length - (d + 1)]?).toList)
structure WhyTo (O : Nat → WS) (xs : List SntX) (c : ST) (d : Nat) : Prop where
 rise : (whyR O xs d).1.reverse.Pairwise (· < ·)
 lt : ∀ k ∈ (whyR O xs d).1, k < xs.length ∧ xs.length ≤ k + d
 mem : ∀ x, x ∈ (whyR O xs d).2 ↔ ∃ k ∈ (whyR O xs d).1, xs[k]? = some x
 len : (whyR O xs d).1.length ≤ d
 len2 : (whyR O xs d).2.length = (whyR O xs d).1.length
 iff : ∀ k, k < xs.length → xs.length ≤ k + d → (k ∈ (whyR O xs d).1 ↔ ¬ ClashOn c (xs.map eraseX) (fun j => j < k ∨ (k < j ∧ j ∈ (whyR O xs d).1)))
structure Under (B : WS) (K : List ST) : Prop where
 holds : Holds B K
 few : B.shapes.length ≤ 250
def SubX (K : List ST) (x : SntX) : Prop := NarrowX x ∧ sizeX x ≤ 150 ∧ ∀ t, known [eraseX x] t → known K t
theorem known_append {L M : List ST} {t : Trm} : known (L ++ M) t ↔ known L t ∨ known M t := by
 unfold known
 simp only [List.mem_append]
 constructor
 ·rintro ⟨s, h1 | h1, h2⟩
  ·exact .inl ⟨s, h1, h2⟩
  ·exact .inr ⟨s, h1, h2⟩
 ·rintro (⟨s, h1, h2⟩ | ⟨s, h1, h2⟩)
  ·exact ⟨s, .inl h1, h2⟩
  ·exact ⟨s, .inr h1, h2⟩
theorem Under.say {B : WS} {K : List ST} (h : Under B K) {S : WS} {L : List ST} (hS : Holds S L) (hk : ∀ t, known L t → known K t) {x : SntX} (hx : SubX K x) : S.shapes.length + sizeX x ≤ 400 ∧ Holds (sayM S x.2) (L ++ [eraseX x]) ∧ ∀ t, known (L ++ [eraseX x]) t → known K t := by
 have h1 := h.holds.fewer hS hk
 have h2 := h.few
 have h3 := hx.2.1
 have h4 : S.shapes.length + sizeX x ≤ 400 := by omega
 exact ⟨h4, hS.say hx.1 h4, fun t ht => (known_append.1 ht).elim (hk t) (hx.2.2 t)⟩
theorem Under.sayAll {B : WS} {K : List ST} (h : Under B K) : ∀ (ys : List SntX) {S : WS} {L : List ST}, Holds S L → (∀ t, known L t → known K t) → (∀ y ∈ ys, SubX K y) → RoomX S ys ∧ Holds (sayAll S ys) (L ++ ys.map eraseX) ∧ allOf NarrowX ys ∧ ∀ t, known (L ++ ys.map eraseX) t → known K t
 | [], S, L, hS, hk, _ => ⟨by have h1 := h.holds.fewer hS hk; have h2 := h.few; show S.shapes.length ≤ 400; omega, by simpa [Go.Proofs.YtmfkpllnmmfpiaaGreatDoor.sayAll] using hS, trivial, by simpa using hk⟩
 | y :: ys, S, L, hS, hk, hy => by
  obtain ⟨a, b, c⟩ := h.say hS hk (hy y (by simp))
  obtain ⟨d, e, f, g⟩ := Under.sayAll h ys b c (fun z hz => hy z (by simp [hz]))
  have e1 : L ++ (y :: ys).map eraseX = L ++ [eraseX y] ++ ys.map eraseX := by simp
  rw [e1]
  exact ⟨⟨a, d⟩, e, ⟨(hy y (by simp)).1, f⟩, g⟩
def otherM (c : SntX) (xs : List SntX) (k : Nat) : WS := sayAll (sayM noWS c.2) (xs.take k)
end Go.Proofs.YtmfkpllnmmfpiaaGreatDoor

namespace Go.Proofs.YtmfkpllnmmfpiaaGreatDoor
open Go.RowKit
mutual
/-- How many terms a term has in it. -/
def Trm.size : Trm → Nat
 | .node _ ps => 1 + Trm.sizeL ps
def Trm.sizeL : List Trm → Nat
 | [] => 0
 | p :: ps => p.size + Trm.sizeL ps
end
theorem sizeL_map {n : Nat} (h : ∀ t : Tm n, (erase n t).size = sizeT n t) : ∀ l : List (Tm n), Trm.sizeL (l.map (erase n)) = sumOf (sizeT n) l
 | [] => rfl
 | p :: l => by
  show (erase n p).size + Trm.sizeL (l.map (erase n)) = sizeT n p + sumOf (sizeT n) l
  rw [h p, sizeL_map h l]
theorem size_erase : ∀ (n : Nat) (t : Tm n), (erase n t).size = sizeT n t
 | 0, t => nomatch t
 | n + 1, t => by
  show 1 + Trm.sizeL (t.parts.map (erase n)) = 1 + sumOf (sizeT n) t.parts
  rw [sizeL_map (size_erase n)]
def ST.size (s : ST) : Nat := s.l.size + s.r.size
theorem sizeS_erase {n : Nat} (x : Snt n) : (eraseS x).size = sizeS x := by
 show (erase n x.left).size + (erase n x.right).size = _
 rw [size_erase, size_erase]
 rfl
def sentX (S : WS) (x : Nat × Nat × Nat) : SntX := ⟨S.shapes.length + 2, ⟨termTm S S.shapes.length x.2.1, x.1 == 0, termTm S S.shapes.length x.2.2⟩⟩
def sentsX (S : WS) : List SntX := S.said.map (sentX S)
def SmallL (L : List ST) : Prop := ∀ s ∈ L, s.size ≤ 100
theorem Holds.follows_iff {S : WS} {L : List ST} (h : Holds S L) {n : Nat} {x : Snt n} (hx : NarrowS x) (hr : S.shapes.length + sizeS x ≤ 400) : followsM S x = true ↔ ClashT (L ++ [contraT (eraseS x)]) := by
 unfold followsM
 rw [← eraseS_contra]
 exact (h.say (x := contra x) (contra_narrow hx) hr).clash_iff
end Go.Proofs.YtmfkpllnmmfpiaaGreatDoor

namespace Go.Proofs.YtmfkpllnmmfpiaaGreatDoor
open Go.RowKit
theorem runTo_all (p : Int → Bool) (s : ByteArray) : ∀ n i j, i ≤ j → j < runTo p s n i → j < s.size ∧ p (byteAt s j) = true
 | 0, i, j, h1, h2 => by simp only [runTo] at h2; omega
 | n + 1, i, j, h1, h2 => by
  unfold runTo at h2
  split at h2
  ·rename_i hc
   by_cases e : j = i
   ·subst e; exact hc
   ·exact runTo_all p s n (i + 1) j (by omega) h2
  ·omega
theorem name_ok {s : ByteArray} {a b : Nat} (hab : a < b) (hb : b ≤ s.size) (h : ∀ j, a ≤ j → j < b → wordB (byteAt s j) = true) : NameOK (s.extract a b) := by
 have e : (s.extract a b).data.toList = (s.data.toList.drop a).take (b - a) := by simp [List.extract_eq_take_drop]
 have hl : s.data.toList.length = s.size := by simp
 refine ⟨fun h0 => ?_, fun c hc => ?_⟩
 ·rw [e] at h0
  have h1 := congrArg List.length h0
  simp only [List.length_take, List.length_drop, List.length_nil, hl] at h1
  omega
 ·rw [e] at hc
  obtain ⟨i, hi⟩ := List.getElem?_of_mem hc
  have hlt := (List.getElem?_eq_some_iff.1 hi).1
  simp only [List.length_take, List.length_drop, hl] at hlt
  rw [List.getElem?_take_of_lt (by omega), List.getElem?_drop] at hi
  have h2 := h (a + i) (by omega) (by omega)
  unfold byteAt at h2
  rw [List.getD_eq_getElem?_getD, hi] at h2
  exact h2
def Tok (s : ByteArray) (st : Wd) : Prop := st.1 = 0 → NameOK (s.extract st.2.1 st.2.2)
theorem tok_at (s : ByteArray) (t : Nat) : Tok s (wordAt s t) := fun h => by
 obtain ⟨h1, h2, h3⟩ := word_name h
 rw [wordAt_from, h3]
 have hw : wordB (byteAt s (endOf blankB s t)) = true := by unfold wordB; rw [h2]; rfl
 have h4 := endOf_step h1 hw
 have h5 := endOf_le wordB s (endOf blankB s t + 1) (by omega)
 refine name_ok (by omega) (by omega) fun j hj1 hj2 => ?_
 exact (runTo_all wordB s _ _ j hj1 hj2).2
theorem partsOf_ok {s : ByteArray} {n : Nat} (ht : ∀ (st : Wd) (t : Tm n) (st2 : Wd), Tok s st → termOf s n st = (some t, st2) → TrmOK (erase n t)) :
  ∀ (m : Nat) (st : Wd) (ps : List (Tm n)) (st2 : Wd), partsOf s (termOf s n) m st = (some ps, st2) → ∀ p ∈ ps, TrmOK (erase n p)
 | 0, _, _, _, h => by simp [partsOf] at h
 | m + 1, st, ps, st2, h => by
  unfold partsOf at h
  cases hpp : termOf s n (wordAt s st.2.2) with
  | mk o stx =>
   rw [hpp] at h
   cases o with
   | none => simp at h
   | some x =>
    have h2 := ht _ x stx (tok_at s _) hpp
    simp only at h
    split at h
    ·cases h
     intro p hp
     simp only [List.mem_singleton] at hp
     subst hp
     exact h2
    ·split at h
     ·cases hq : partsOf s (termOf s n) m stx with
      | mk o3 st3 =>
       rw [hq] at h
       cases o3 with
       | none => simp at h
       | some xs =>
        simp only [Prod.mk.injEq, Option.some.injEq] at h
        obtain ⟨rfl, rfl⟩ := h
        have h8 := partsOf_ok ht m stx xs _ hq
        intro p hp
        simp only [List.mem_cons] at hp
        rcases hp with rfl | hp
        ·exact h2
        ·exact h8 p hp
     ·simp at h
theorem termOf_ok {s : ByteArray} : ∀ (n : Nat) (st : Wd) (t : Tm n) (st2 : Wd), Tok s st → termOf s n st = (some t, st2) → TrmOK (erase n t)
 | 0, _, t, _, _, _ => t.elim
 | n + 1, st, t, st2, hf, h => by
  by_cases hk : st.1 = 0
  ·by_cases h1' : (wordAt s st.2.2).1 = 1
   ·cases hq : partsOf s (termOf s n) (s.size + 1) (wordAt s st.2.2) with
    | mk o st3 =>
     cases o with
     | none => rw [termOf_fails hk h1' hq] at h; simp at h
     | some ps =>
      rw [termOf_parts hk h1' hq] at h
      simp only [Prod.mk.injEq, Option.some.injEq] at h
      obtain ⟨rfl, rfl⟩ := h
      have h2 := partsOf_ok (termOf_ok n) _ _ ps _ hq
      refine TrmOK.mk (hf hk) fun p hp => ?_
      obtain ⟨q, hq, rfl⟩ := List.mem_map.1 hp
      exact h2 q hq
   ·rw [termOf_bare hk h1'] at h
    simp only [Prod.mk.injEq, Option.some.injEq] at h
    obtain ⟨rfl, rfl⟩ := h
    exact TrmOK.mk (hf hk) fun p hp => by cases hp
  ·rw [termOf_no hk] at h; simp at h
theorem partsOf_len {s : ByteArray} {n : Nat} (ht : ∀ (st : Wd) (t : Tm n) (st2 : Wd), Fit s st → termOf s n st = (some t, st2) → lenTm n t + 2 * st.2.1 ≤ 2 * st2.2.1) :
  ∀ (m : Nat) (st : Wd) (ps : List (Tm n)) (st2 : Wd), Fit s st → partsOf s (termOf s n) m st = (some ps, st2) → sumOf (fun p => 2 + lenTm n p) ps + 2 * st.2.2 ≤ 2 * st2.2.1
 | 0, _, _, _, _, h => by simp [partsOf] at h
 | m + 1, st, ps, st2, hf, h => by
  have h1 := Fit.next s st.2.2 hf.size
  have hw := wordAt_le s st.2.2 hf.size
  unfold partsOf at h
  cases hpp : termOf s n (wordAt s st.2.2) with
  | mk o stx =>
   rw [hpp] at h
   cases o with
   | none => simp at h
   | some x =>
    have h2 := ht _ x stx h1 hpp
    have h3 := (termOf_fit n (wordAt s st.2.2) h1).1
    rw [hpp] at h3
    have h4 := h3.le
    have h5 := wordAt_le s stx.2.2 h3.size
    have h6 := h3.lt
    simp only at h h3 h4 h5 h6
    split at h
    ·rename_i hk
     have h7 := h6 (by omega)
     cases h
     simp only [sumOf]
     omega
    ·split at h
     ·rename_i hk
      have h7 := h6 (by omega)
      cases hq : partsOf s (termOf s n) m stx with
      | mk o3 st3 =>
       rw [hq] at h
       cases o3 with
       | none => simp at h
       | some xs =>
        simp only [Prod.mk.injEq, Option.some.injEq] at h
        obtain ⟨rfl, rfl⟩ := h
        have h8 := partsOf_len ht m stx xs _ h3 hq
        simp only [sumOf]
        omega
     ·simp at h
theorem termOf_len {s : ByteArray} : ∀ (n : Nat) (st : Wd) (t : Tm n) (st2 : Wd), Fit s st → termOf s n st = (some t, st2) → lenTm n t + 2 * st.2.1 ≤ 2 * st2.2.1
 | 0, _, t, _, _, _ => t.elim
 | n + 1, st, t, st2, hf, h => by
  by_cases hk : st.1 = 0
  ·have h1 := Fit.next s st.2.2 hf.size
   have hw := wordAt_le s st.2.2 hf.size
   have hlt := hf.lt (by omega)
   have hsz : (s.extract st.2.1 st.2.2).size = st.2.2 - st.2.1 := by
    have := hf.size
    simp only [ByteArray.size_extract]
    omega
   by_cases h1' : (wordAt s st.2.2).1 = 1
   ·cases hq : partsOf s (termOf s n) (s.size + 1) (wordAt s st.2.2) with
    | mk o st3 =>
     cases o with
     | none => rw [termOf_fails hk h1' hq] at h; simp at h
     | some ps =>
      rw [termOf_parts hk h1' hq] at h
      simp only [Prod.mk.injEq, Option.some.injEq] at h
      obtain ⟨rfl, rfl⟩ := h
      have h2 := partsOf_len (termOf_len n) _ _ ps _ h1 hq
      have h3 := h1.lt (by omega)
      show (s.extract st.2.1 st.2.2).size + (sumOf (fun p => 2 + lenTm n p) ps + 1) + 2 * st.2.1 ≤ _
      omega
   ·rw [termOf_bare hk h1'] at h
    simp only [Prod.mk.injEq, Option.some.injEq] at h
    obtain ⟨rfl, rfl⟩ := h
    show (s.extract st.2.1 st.2.2).size + (0 + 1) + 2 * st.2.1 ≤ _
    omega
  ·rw [termOf_no hk] at h; simp at h
theorem readOf_ok {s : ByteArray} {x : Snt (fuelOf s)} (h : (readOf s).1 = some x) : STOK (eraseS x) ∧ lenTm _ x.left ≤ 400 ∧ lenTm _ x.right ≤ 400 := by
 unfold readOf at h
 split at h
 ·simp at h
 ·rename_i hl
  split at h
  ·simp at h
  ·rename_i y st hs
   have hyx : y = x := by
    split at h
    ·simp at h
    ·split at h
     ·simp at h
     ·simpa using h
   subst hyx
   clear h
   have f0 := Fit.next s 0 (Nat.zero_le _)
   unfold sentOf at hs
   cases h1 : termOf s (fuelOf s) (wordAt s 0) with
   | mk o st1 =>
    rw [h1] at hs
    cases o with
    | none => simp at hs
    | some l =>
     have e1 := termOf_len _ _ l _ f0 h1
     have o1 := termOf_ok _ _ l _ (tok_at s 0) h1
     have f1 := (termOf_fit (fuelOf s) (wordAt s 0) f0).1
     rw [h1] at f1
     simp only at hs f1
     cases h2 : signOf s st1 with
     | mk o2 st2 =>
      rw [h2] at hs
      cases o2 with
      | none => simp at hs
      | some g =>
       have e2 : Fit s st2 ∧ Tok s st2 := by
        unfold signOf at h2
        split at h2
        ·cases h2; exact ⟨Fit.next s _ f1.size, tok_at s _⟩
        ·split at h2
         ·cases h2; exact ⟨Fit.next s _ f1.size, tok_at s _⟩
         ·split at h2 <;> simp at h2
       simp only at hs
       cases h3 : termOf s (fuelOf s) st2 with
       | mk o3 st3 =>
        rw [h3] at hs
        cases o3 with
        | none => simp at hs
        | some r =>
         have e3 := termOf_len _ _ r _ e2.1 h3
         have o3 := termOf_ok _ _ r _ e2.2 h3
         have f3 := (termOf_fit (fuelOf s) st2 e2.1).1
         rw [h3] at f3
         simp only at hs f3
         have g1 := f1.le
         have g2 := f1.size
         have g3 := f3.le
         have g4 := f3.size
         split at hs
         ·simp only [Prod.mk.injEq, Option.some.injEq] at hs
          obtain ⟨rfl, rfl⟩ := hs
          exact ⟨⟨o1, o3⟩, by show lenTm _ l ≤ 400; omega, by show lenTm _ r ≤ 400; omega⟩
         ·simp at hs
theorem den_plain {S : WS} (hB : Base S) {t : Trm} {i : Nat} (h : DenE S t i) : ∀ g, i < g → plainF S g i = t.txt := by
 induction h with
 | @mk nm ps ks i h1 h2 h3 _ ih =>
  intro g hg
  obtain ⟨f, rfl⟩ : ∃ f, g = f + 1 := ⟨g - 1, by omega⟩
  have hS := hB.good i _ h1
  have hs : shapeAt S i = shapeOf nm ks := by unfold shapeAt; rw [List.getD_eq_getElem?_getD, h1]; rfl
  have hp : ∀ (j : Nat) (p : Trm) (k : Nat), ps[j]? = some p → ks[j]? = some k → plainF S f (partAt (shapeOf nm ks) j) = p.txt := fun j p k e1 e2 => by
   have hj := (List.getElem?_eq_some_iff.1 e2).1
   have hk := hS.part j (show j < (shapeOf nm ks).2.1 from hj)
   rw [partAt_shapeOf h3 e2] at hk ⊢
   exact ih j p k e1 e2 f (by omega)
  unfold plainF
  rw [hs]
  have e9 : (shapeOf nm ks).2.1 = ks.length := rfl
  have e10 : (shapeOf nm ks).1 = nm := rfl
  rw [e9, e10]
  match ps, ks, h2, h3, hp with
  | [], [], _, _, _ => simp [Trm.txt]
  | [p], [a], _, _, hp =>
   simp only [List.length_cons, List.length_nil, partsTo, hp 0 p a rfl rfl, Trm.txt, Trm.txtR]
   simp
  | [p, q], [a, b], _, _, hp =>
   simp only [List.length_cons, List.length_nil, partsTo, hp 0 p a rfl rfl, hp 1 q b rfl rfl, Trm.txt, Trm.txtR]
   simp
  | [p, q, r], [a, b, c], _, _, hp =>
   simp only [List.length_cons, List.length_nil, partsTo, hp 0 p a rfl rfl, hp 1 q b rfl rfl, hp 2 r c rfl rfl, Trm.txt, Trm.txtR]
   simp
  | _ :: _, [], h2, _, _ => simp at h2
  | [], _ :: _, h2, _, _ => simp at h2
  | [_], _ :: _ :: _, h2, _, _ => simp at h2
  | _ :: _ :: _, [_], h2, _, _ => simp at h2
  | [_, _], _ :: _ :: _ :: _, h2, _, _ => simp at h2
  | _ :: _ :: _ :: _, [_, _], h2, _, _ => simp at h2
  | [_, _, _], _ :: _ :: _ :: _ :: _, h2, _, _ => simp at h2
  | _ :: _ :: _ :: _ :: _, [_, _, _], h2, _, _ => simp at h2
  | _ :: _ :: _ :: _ :: _, _ :: _ :: _ :: _ :: _, _, h3, _ => simp at h3
theorem den_text {S : WS} (hB : Base S) {t : Trm} {i : Nat} (h : DenE S t i) : plainT S i = t.text := by
 unfold plainT Trm.text
 rw [den_plain hB h (i + 1) (by omega)]
def ST.text (s : ST) : ByteArray := if s.eq then s.l.text ++ (⟨#[32, 61, 32]⟩ : ByteArray) ++ s.r.text else s.l.text ++ (⟨#[32, 33, 61, 32]⟩ : ByteArray) ++ s.r.text
theorem Holds.texts {S : WS} {L : List ST} (h : Holds S L) : saidOf S = L.map ST.text := by
 have key : ∀ (xs : List (Nat × Nat × Nat)) (l : List ST), AllIs (fun (x : Nat × Nat × Nat) (s : ST) => x.1 = (if s.eq then 0 else 1) ∧ DenE S s.l x.2.1 ∧ DenE S s.r x.2.2) xs l → xs.map (sayT S) = l.map ST.text := by
  intro xs
  induction xs with
  | nil =>
   intro l hl
   cases l with
   | nil => rfl
   | cons => exact hl.elim
  | cons x xs ih =>
   intro l hl
   cases l with
   | nil => exact hl.elim
   | cons s l =>
    obtain ⟨⟨h1, h2, h3⟩, h4⟩ := hl
    rw [List.map_cons, List.map_cons, ih l h4]
    congr 1
    unfold sayT ST.text
    rw [den_text h.fine.web.base h2, den_text h.fine.web.base h3, h1]
    cases hs : s.eq <;> (apply ByteArray.ext; apply Array.ext'; simp [signB])
 exact key _ _ h.said
theorem Holds.tags {S : WS} {L : List ST} (h : Holds S L) : TagOK S := fun x hx => by
 obtain ⟨s, _, h1, _⟩ := h.left hx
 rw [h1]
 split <;> omega
def sayR (L : List ST) (s : ByteArray) : (Int × Int × Int) × List ST :=
 match (refRead s).1 with
 | none => ((0, (refRead s).2.1, (refRead s).2.2), L)
 | some x => if 40 ≤ L.length ∨ 100 < (termsR (L ++ [x])).length then ((0, 4, 0), L) else (((L.length : Nat), 0, 0), L ++ [x])
structure Both (S : WS) (L : List ST) : Prop where
 holds : Holds S L
 ok : ∀ s ∈ L, STOK s
 small : SmallL L
 text : TextOK S
 terms : S.shapes.length ≤ 100
 saids : S.said.length ≤ 40
theorem Both.none : Both noWS [] := ⟨Holds.none, fun s hs => (by cases hs), fun s hs => (by cases hs), TextOK.none, by simp [noWS], by simp [noWS]⟩
theorem Both.length {S : WS} {L : List ST} (h : Both S L) : S.said.length = L.length := h.holds.said.length
theorem Both.say {S : WS} {L : List ST} (h : Both S L) (s : ByteArray) : ((sayOf S s).1.1 : Int) = (sayR L s).1.1 ∧ (sayOf S s).1.2.1 = (sayR L s).1.2.1 ∧ ((sayOf S s).1.2.2 : Int) = (sayR L s).1.2.2 ∧ Both (sayOf S s).2 (sayR L s).2 := by
 obtain ⟨r1, r2⟩ := refRead_eq s
 unfold sayOf sayR
 cases hr : (readOf s).1 with
 | none =>
  rw [r2 hr]
  exact ⟨rfl, rfl, rfl, h⟩
 | some x =>
  rw [r1 x hr]
  obtain ⟨hn, hz, _⟩ := readOf_small hr
  obtain ⟨o1, o2, o3⟩ := readOf_ok hr
  have ht := h.terms
  have hl := h.length
  have hok : ∀ t ∈ L ++ [eraseS x], STOK t := fun t ht => by
   simp only [List.mem_append, List.mem_singleton] at ht
   rcases ht with ht | rfl
   ·exact h.ok t ht
   ·exact o1
  have H1 := h.holds.say hn (by omega)
  have hc := H1.count hok
  simp only
  rw [hl, hc]
  by_cases h40 : 40 ≤ L.length
  ·rw [if_pos h40, if_pos (.inl h40)]
   exact ⟨rfl, rfl, rfl, h⟩
  ·rw [if_neg h40]
   by_cases h100 : 100 < (termsR (L ++ [eraseS x])).length
   ·rw [if_pos h100, if_pos (.inr h100)]
    exact ⟨rfl, rfl, rfl, h⟩
   ·rw [if_neg h100, if_neg (by omega)]
    refine ⟨rfl, rfl, rfl, H1, hok, fun t ht => ?_, h.text.say h.holds.fine.web hn (by omega) (by omega) (by omega), by show (sayM S x).shapes.length ≤ 100; omega, ?_⟩
    ·simp only [List.mem_append, List.mem_singleton] at ht
     rcases ht with ht | rfl
     ·exact h.small t ht
     ·rw [sizeS_erase]; exact hz
    ·have e := H1.said.length
     simp only [List.length_append, List.length_singleton] at e
     show (sayM S x).said.length ≤ 40
     omega
end Go.Proofs.YtmfkpllnmmfpiaaGreatDoor
