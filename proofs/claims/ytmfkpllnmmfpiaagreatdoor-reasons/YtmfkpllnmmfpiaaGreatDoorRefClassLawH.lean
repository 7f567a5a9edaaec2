/- RefHold, RefSort, RefClassLaw -/
import Derived.Test.YtmfkpllnmmfpiaaGreatDoorRefReadH
import Derived.Test.YtmfkpllnmmfpiaaGreatDoorRefDrawH
import Derived.Test.YtmfkpllnmmfpiaaGreatDoorTellH
import Derived.Test.YtmfkpllnmmfpiaaGreatDoorBookTellH
import Derived.Test.YtmfkpllnmmfpiaaGreatDoorPlacesH
namespace Go.Proofs.YtmfkpllnmmfpiaaGreatDoor
open Go.RowKit
theorem runTo_all (p : Int → Bool) (s : ByteArray) : ∀ n i j, i ≤ j → j < runTo p s n i → j < s.size ∧ p (byteAt s j) = true
 | 0, i, j, h1, h2 => by simp only [runTo] at h2; omega
 | n + 1, i, j, h1, h2 => by
  unfold runTo at h2
  split at h2
  ·rename_i hc
   by_cases e : j = i
   ·subst e; exact hc
   ·exact runTo_all p s n (i + 1) j (by omega) h2
  ·omega
theorem name_ok {s : ByteArray} {a b : Nat} (hab : a < b) (hb : b ≤ s.size) (h : ∀ j, a ≤ j → j < b → wordB (byteAt s j) = true) : NameOK (s.extract a b) := by
 have e : (s.extract a b).data.toList = (s.data.toList.drop a).take (b - a) := by simp [List.extract_eq_take_drop]
 have hl : s.data.toList.length = s.size := by simp
 refine ⟨fun h0 => ?_, fun c hc => ?_⟩
 ·rw [e] at h0
  have h1 := congrArg List.length h0
  simp only [List.length_take, List.length_drop, List.length_nil, hl] at h1
  omega
 ·rw [e] at hc
  obtain ⟨i, hi⟩ := List.getElem?_of_mem hc
  have hlt := (List.getElem?_eq_some_iff.1 hi).1
  simp only [List.length_take, List.length_drop, hl] at hlt
  rw [List.getElem?_take_of_lt (by omega), List.getElem?_drop] at hi
  have h2 := h (a + i) (by omega) (by omega)
  unfold byteAt at h2
  rw [List.getD_eq_getElem?_getD, hi] at h2
  exact h2
def Tok (s : ByteArray) (st : Wd) : Prop := st.1 = 0 → NameOK (s.extract st.2.1 st.2.2)
theorem tok_at (s : ByteArray) (t : Nat) : Tok s (wordAt s t) := fun h => by
 obtain ⟨h1, h2, h3⟩ := word_name h
 rw [wordAt_from, h3]
 have hw : wordB (byteAt s (endOf blankB s t)) = true := by unfold wordB; rw [h2]; rfl
 have h4 := endOf_step h1 hw
 have h5 := endOf_le wordB s (endOf blankB s t + 1) (by omega)
 refine name_ok (by omega) (by omega) fun j hj1 hj2 => ?_
 exact (runTo_all wordB s _ _ j hj1 hj2).2
theorem partsOf_ok {s : ByteArray} {n : Nat} (ht : ∀ (st : Wd) (t : Tm n) (st2 : Wd), Tok s st → termOf s n st = (some t, st2) → TrmOK (erase n t)) :
  ∀ (m : Nat) (st : Wd) (ps : List (Tm n)) (st2 : Wd), partsOf s (termOf s n) m st = (some ps, st2) → ∀ p ∈ ps, TrmOK (erase n p)
 | 0, _, _, _, h => by simp [partsOf] at h
 | m + 1, st, ps, st2, h => by
  unfold partsOf at h
  cases hpp : termOf s n (wordAt s st.2.2) with
  | mk o stx =>
   rw [hpp] at h
   cases o with
   | none => simp at h
   | some x =>
    have h2 := ht _ x stx (tok_at s _) hpp
    simp only at h
    split at h
    ·cases h
     intro p hp
     simp only [List.mem_singleton] at hp
     subst hp
     exact h2
    ·split at h
     ·cases hq : partsOf s (termOf s n) m stx with
      | mk o3 st3 =>
       rw [hq] at h
       cases o3 with
       | none => simp at h
       | some xs =>
        simp only [Prod.mk.injEq, Option.some.injEq] at h
        obtain ⟨rfl, rfl⟩ := h
        have h8 := partsOf_ok ht m stx xs _ hq
        intro p hp
        simp only [List.mem_cons] at hp
        rcases hp with rfl | hp
        ·exact h2
        ·exact h8 p hp
     ·simp at h
theorem termOf_ok {s : ByteArray} : ∀ (n : Nat) (st : Wd) (t : Tm n) (st2 : Wd), Tok s st → termOf s n st = (some t, st2) → TrmOK (erase n t)
 | 0, _, t, _, _, _ => t.elim
 | n + 1, st, t, st2, hf, h => by
  by_cases hk : st.1 = 0
  ·by_cases h1' : (wordAt s st.2.2).1 = 1
   ·cases hq : partsOf s (termOf s n) (s.size + 1) (wordAt s st.2.2) with
    | mk o st3 =>
     cases o with
     | none => rw [termOf_fails hk h1' hq] at h; simp at h
     | some ps =>
      rw [termOf_parts hk h1' hq] at h
      simp only [Prod.mk.injEq, Option.some.injEq] at h
      obtain ⟨rfl, rfl⟩ := h
      have h2 := partsOf_ok (termOf_ok n) _ _ ps _ hq
      refine TrmOK.mk (hf hk) fun p hp => ?_
      obtain ⟨q, hq, rfl⟩ := List.mem_map.1 hp
      exact h2 q hq
   ·rw [termOf_bare hk h1'] at h
    simp only [Prod.mk.injEq, Option.some.injEq] at h
    obtain ⟨rfl, rfl⟩ := h
    exact TrmOK.mk (hf hk) fun p hp => by cases hp
  ·rw [termOf_no hk] at h; simp at h
theorem partsOf_len {s : ByteArray} {n : Nat} (ht : ∀ (st : Wd) (t : Tm n) (st2 : Wd), Fit s st → termOf s n st = (some t, st2) → lenTm n t + 2 * st.2.1 ≤ 2 * st2.2.1) :
  ∀ (m : Nat) (st : Wd) (ps : List (Tm n)) (st2 : Wd), Fit s st → partsOf s (termOf s n) m st = (some ps, st2) → sumOf (fun p => 2 + lenTm n p) ps + 2 * st.2.2 ≤ 2 * st2.2.1
 | 0, _, _, _, _, h => by simp [partsOf] at h
 | m + 1, st, ps, st2, hf, h => by
  have h1 := Fit.next s st.2.2 hf.size
  have hw := wordAt_le s st.2.2 hf.size
  unfold partsOf at h
  cases hpp : termOf s n (wordAt s st.2.2) with
  | mk o stx =>
   rw [hpp] at h
   cases o with
   | none => simp at h
   | some x =>
    have h2 := ht _ x stx h1 hpp
    have h3 := (termOf_fit n (wordAt s st.2.2) h1).1
    rw [hpp] at h3
    have h4 := h3.le
    have h5 := wordAt_le s stx.2.2 h3.size
    have h6 := h3.lt
    simp only at h h3 h4 h5 h6
    split at h
    ·rename_i hk
     have h7 := h6 (by omega)
     cases h
     simp only [sumOf]
     omega
    ·split at h
     ·rename_i hk
      have h7 := h6 (by omega)
      cases hq : partsOf s (termOf s n) m stx with
      | mk o3 st3 =>
       rw [hq] at h
       cases o3 with
       | none => simp at h
       | some xs =>
        simp only [Prod.mk.injEq, Option.some.injEq] at h
        obtain ⟨rfl, rfl⟩ := h
        have h8 := partsOf_len ht m stx xs _ h3 hq
        simp only [sumOf]
        omega
     ·simp at h
theorem termOf_len {s : ByteArray} : ∀ (n : Nat) (st : Wd) (t : Tm n) (st2 : Wd), Fit s st → termOf s n st = (some t, st2) → lenTm n t + 2 * st.2.1 ≤ 2 * st2.2.1
 | 0, _, t, _, _, _ => t.elim
 | n + 1, st, t, st2, hf, h => by
  by_cases hk : st.1 = 0
  ·have h1 := Fit.next s st.2.2 hf.size
   have hw := wordAt_le s st.2.2 hf.size
   have hlt := hf.lt (by omega)
   have hsz : (s.extract st.2.1 st.2.2).size = st.2.2 - st.2.1 := by
    have := hf.size
    simp only [ByteArray.size_extract]
    omega
   by_cases h1' : (wordAt s st.2.2).1 = 1
   ·cases hq : partsOf s (termOf s n) (s.size + 1) (wordAt s st.2.2) with
    | mk o st3 =>
     cases o with
     | none => rw [termOf_fails hk h1' hq] at h; simp at h
     | some ps =>
      rw [termOf_parts hk h1' hq] at h
      simp only [Prod.mk.injEq, Option.some.injEq] at h
      obtain ⟨rfl, rfl⟩ := h
      have h2 := partsOf_len (termOf_len n) _ _ ps _ h1 hq
      have h3 := h1.lt (by omega)
      show (s.extract st.2.1 st.2.2).size + (sumOf (fun p => 2 + lenTm n p) ps + 1) + 2 * st.2.1 ≤ _
      omega
   ·rw [termOf_bare hk h1'] at h
    simp only [Prod.mk.injEq, Option.some.injEq] at h
    obtain ⟨rfl, rfl⟩ := h
    show (s.extract st.2.1 st.2.2).size + (0 + 1) + 2 * st.2.1 ≤ _
    omega
  ·rw [termOf_no hk] at h; simp at h
theorem readOf_ok {s : ByteArray} {x : Snt (fuelOf s)} (h : (readOf s).1 = some x) : STOK (eraseS x) ∧ lenTm _ x.left ≤ 400 ∧ lenTm _ x.right ≤ 400 := by
 unfold readOf at h
 split at h
 ·simp at h
 ·rename_i hl
  split at h
  ·simp at h
  ·rename_i y st hs
   have hyx : y = x := by
    split at h
    ·simp at h
    ·split at h
     ·simp at h
     ·simpa using h
   subst hyx
   clear h
   have f0 := Fit.next s 0 (Nat.zero_le _)
   unfold sentOf at hs
   cases h1 : termOf s (fuelOf s) (wordAt s 0) with
   | mk o st1 =>
    rw [h1] at hs
    cases o with
    | none => simp at hs
    | some l =>
     have e1 := termOf_len _ _ l _ f0 h1
     have o1 := termOf_ok _ _ l _ (tok_at s 0) h1
     have f1 := (termOf_fit (fuelOf s) (wordAt s 0) f0).1
     rw [h1] at f1
     simp only at hs f1
     cases h2 : signOf s st1 with
     | mk o2 st2 =>
      rw [h2] at hs
      cases o2 with
      | none => simp at hs
      | some g =>
       have e2 : Fit s st2 ∧ Tok s st2 := by
        unfold signOf at h2
        split at h2
        ·cases h2; exact ⟨Fit.next s _ f1.size, tok_at s _⟩
        ·split at h2
         ·cases h2; exact ⟨Fit.next s _ f1.size, tok_at s _⟩
         ·split at h2 <;> simp at h2
       simp only at hs
       cases h3 : termOf s (fuelOf s) st2 with
       | mk o3 st3 =>
        rw [h3] at hs
        cases o3 with
        | none => simp at hs
        | some r =>
         have e3 := termOf_len _ _ r _ e2.1 h3
         have o3 := termOf_ok _ _ r _ e2.2 h3
         have f3 := (termOf_fit (fuelOf s) st2 e2.1).1
         rw [h3] at f3
         simp only at hs f3
         have g1 := f1.le
         have g2 := f1.size
         have g3 := f3.le
         have g4 := f3.size
         split at hs
         ·simp only [Prod.mk.injEq, Option.some.injEq] at hs
          obtain ⟨rfl, rfl⟩ := hs
          exact ⟨⟨o1, o3⟩, by show lenTm _ l ≤ 400; omega, by show lenTm _ r ≤ 400; omega⟩
         ·simp at hs
theorem den_plain {S : WS} (hB : Base S) {t : Trm} {i : Nat} (h : DenE S t i) : ∀ g, i < g → plainF S g i = t.txt := by
 induction h with
 | @mk nm ps ks i h1 h2 h3 _ ih =>
  intro g hg
  obtain ⟨f, rfl⟩ : ∃ f, g = f + 1 := ⟨g - 1, by omega⟩
  have hS := hB.good i _ h1
  have hs : shapeAt S i = shapeOf nm ks := by unfold shapeAt; rw [List.getD_eq_getElem?_getD, h1]; rfl
  have hp : ∀ (j : Nat) (p : Trm) (k : Nat), ps[j]? = some p → ks[j]? = some k → plainF S f (partAt (shapeOf nm ks) j) = p.txt := fun j p k e1 e2 => by
   have hj := (List.getElem?_eq_some_iff.1 e2).1
   have hk := hS.part j (show j < (shapeOf nm ks).2.1 from hj)
   rw [partAt_shapeOf h3 e2] at hk ⊢
   exact ih j p k e1 e2 f (by omega)
  unfold plainF
  rw [hs]
  have e9 : (shapeOf nm ks).2.1 = ks.length := rfl
  have e10 : (shapeOf nm ks).1 = nm := rfl
  rw [e9, e10]
  match ps, ks, h2, h3, hp with
  | [], [], _, _, _ => simp [Trm.txt]
  | [p], [a], _, _, hp =>
   simp only [List.length_cons, List.length_nil, partsTo, hp 0 p a rfl rfl, Trm.txt, Trm.txtR]
   simp
  | [p, q], [a, b], _, _, hp =>
   simp only [List.length_cons, List.length_nil, partsTo, hp 0 p a rfl rfl, hp 1 q b rfl rfl, Trm.txt, Trm.txtR]
   simp
  | [p, q, r], [a, b, c], _, _, hp =>
   simp only [List.length_cons, List.length_nil, partsTo, hp 0 p a rfl rfl, hp 1 q b rfl rfl, hp 2 r c rfl rfl, Trm.txt, Trm.txtR]
   simp
  | _ :: _, [], h2, _, _ => simp at h2
  | [], _ :: _, h2, _, _ => simp at h2
  | [_], _ :: _ :: _, h2, _, _ => simp at h2
  | _ :: _ :: _, [_], h2, _, _ => simp at h2
  | [_, _], _ :: _ :: _ :: _, h2, _, _ => simp at h2
  | _ :: _ :: _ :: _, [_, _], h2, _, _ => simp at h2
  | [_, _, _], _ :: _ :: _ :: _ :: _, h2, _, _ => simp at h2
  | _ :: _ :: _ :: _ :: _, [_, _, _], h2, _, _ => simp at h2
  | _ :: _ :: _ :: _ :: _, _ :: _ :: _ :: _ :: _, _, h3, _ => simp at h3
theorem den_text {S : WS} (hB : Base S) {t : Trm} {i : Nat} (h : DenE S t i) : plainT S i = t.text := by
 unfold plainT Trm.text
 rw [den_plain hB h (i + 1) (by omega)]
def ST.text (s : ST) : ByteArray := if s.eq then s.l.text ++ (⟨#[32, 61, 32]⟩ : ByteArray) ++ s.r.text else s.l.text ++ (⟨#[32, 33, 61, 32]⟩ : ByteArray) ++ s.r.text
theorem Holds.texts {S : WS} {L : List ST} (h : Holds S L) : saidOf S = L.map ST.text := by
 have key : ∀ (xs : List (Nat × Nat × Nat)) (l : List ST), AllIs (fun (x : Nat × Nat × Nat) (s : ST) => x.1 = (if s.eq then 0 else 1) ∧ DenE S s.l x.2.1 ∧ DenE S s.r x.2.2) xs l → xs.map (sayT S) = l.map ST.text := by
  intro xs
  induction xs with
  | nil =>
   intro l hl
   cases l with
   | nil => rfl
   | cons => exact hl.elim
  | cons x xs ih =>
   intro l hl
   cases l with
   | nil => exact hl.elim
   | cons s l =>
    obtain ⟨⟨h1, h2, h3⟩, h4⟩ := hl
    rw [List.map_cons, List.map_cons, ih l h4]
    congr 1
    unfold sayT ST.text
    rw [den_text h.fine.web.base h2, den_text h.fine.web.base h3, h1]
    cases hs : s.eq <;> (apply ByteArray.ext; apply Array.ext'; simp [signB])
 exact key _ _ h.said
theorem Holds.tags {S : WS} {L : List ST} (h : Holds S L) : TagOK S := fun x hx => by
 obtain ⟨s, _, h1, _⟩ := h.left hx
 rw [h1]
 split <;> omega
def sayR (L : List ST) (s : ByteArray) : (Int × Int × Int) × List ST :=
 match (refRead s).1 with
 | none => ((0, (refRead s).2.1, (refRead s).2.2), L)
 | some x => if 40 ≤ L.length ∨ 100 < (termsR (L ++ [x])).length then ((0, 4, 0), L) else (((L.length : Nat), 0, 0), L ++ [x])
def followsR (L : List ST) (s : ByteArray) : Bool × Int × Int :=
 match (refRead s).1 with
 | none => (false, (refRead s).2.1, (refRead s).2.2)
 | some x => (clashR (L ++ [contraT x]), 0, 0)
structure Both (S : WS) (L : List ST) : Prop where
 holds : Holds S L
 ok : ∀ s ∈ L, STOK s
 small : SmallL L
 text : TextOK S
 terms : S.shapes.length ≤ 100
 saids : S.said.length ≤ 40
theorem Both.none : Both noWS [] := ⟨Holds.none, fun s hs => (by cases hs), fun s hs => (by cases hs), TextOK.none, by simp [noWS], by simp [noWS]⟩
theorem Both.length {S : WS} {L : List ST} (h : Both S L) : S.said.length = L.length := h.holds.said.length
theorem Both.follows {S : WS} {L : List ST} (h : Both S L) (s : ByteArray) : (followsOf S s).1 = (followsR L s).1 ∧ (followsOf S s).2.1 = (followsR L s).2.1 ∧ ((followsOf S s).2.2 : Int) = (followsR L s).2.2 := by
 obtain ⟨r1, r2⟩ := refRead_eq s
 unfold followsOf followsR
 cases hr : (readOf s).1 with
 | none =>
  rw [r2 hr]
  exact ⟨rfl, rfl, rfl⟩
 | some x =>
  rw [r1 x hr]
  obtain ⟨hn, hz, _⟩ := readOf_small hr
  obtain ⟨o1, _, _⟩ := readOf_ok hr
  refine ⟨?_, rfl, rfl⟩
  have ht := h.terms
  have e1 := h.holds.follows_iff hn (by omega)
  have e2 := clashR_iff (L := L ++ [contraT (eraseS x)]) (fun t ht => by
   simp only [List.mem_append, List.mem_singleton] at ht
   rcases ht with ht | rfl
   ·exact h.ok t ht
   ·exact o1)
  show followsM S x = clashR (L ++ [contraT (eraseS x)])
  rw [Bool.eq_iff_iff, e1, e2]
theorem Both.say {S : WS} {L : List ST} (h : Both S L) (s : ByteArray) : ((sayOf S s).1.1 : Int) = (sayR L s).1.1 ∧ (sayOf S s).1.2.1 = (sayR L s).1.2.1 ∧ ((sayOf S s).1.2.2 : Int) = (sayR L s).1.2.2 ∧ Both (sayOf S s).2 (sayR L s).2 := by
 obtain ⟨r1, r2⟩ := refRead_eq s
 unfold sayOf sayR
 cases hr : (readOf s).1 with
 | none =>
  rw [r2 hr]
  exact ⟨rfl, rfl, rfl, h⟩
 | some x =>
  rw [r1 x hr]
  obtain ⟨hn, hz, _⟩ := readOf_small hr
  obtain ⟨o1, o2, o3⟩ := readOf_ok hr
  have ht := h.terms
  have hl := h.length
  have hok : ∀ t ∈ L ++ [eraseS x], STOK t := fun t ht => by
   simp only [List.mem_append, List.mem_singleton] at ht
   rcases ht with ht | rfl
   ·exact h.ok t ht
   ·exact o1
  have H1 := h.holds.say hn (by omega)
  have hc := H1.count hok
  simp only
  rw [hl, hc]
  by_cases h40 : 40 ≤ L.length
  ·rw [if_pos h40, if_pos (.inl h40)]
   exact ⟨rfl, rfl, rfl, h⟩
  ·rw [if_neg h40]
   by_cases h100 : 100 < (termsR (L ++ [eraseS x])).length
   ·rw [if_pos h100, if_pos (.inr h100)]
    exact ⟨rfl, rfl, rfl, h⟩
   ·rw [if_neg h100, if_neg (by omega)]
    refine ⟨rfl, rfl, rfl, H1, hok, fun t ht => ?_, h.text.say h.holds.fine.web hn (by omega) (by omega) (by omega), by show (sayM S x).shapes.length ≤ 100; omega, ?_⟩
    ·simp only [List.mem_append, List.mem_singleton] at ht
     rcases ht with ht | rfl
     ·exact h.small t ht
     ·rw [sizeS_erase]; exact hz
    ·have e := H1.said.length
     simp only [List.length_append, List.length_singleton] at e
     show (sayM S x).said.length ≤ 40
     omega
end Go.Proofs.YtmfkpllnmmfpiaaGreatDoor

namespace Go.Proofs.YtmfkpllnmmfpiaaGreatDoor
theorem strict_unique {α : Type} {R : α → α → Prop} (irr : ∀ a, ¬ R a a) (tr : ∀ a b c, R a b → R b c → R a c) : ∀ {l m : List α}, l.Pairwise R → m.Pairwise R → (∀ x, x ∈ l ↔ x ∈ m) → l = m
 | [], [], _, _, _ => rfl
 | [], b :: m, _, _, h => by have := (h b).2 (by simp); cases this
 | a :: l, [], _, _, h => by have := (h a).1 (by simp); cases this
 | a :: l, b :: m, hl, hm, h => by
  rw [List.pairwise_cons] at hl hm
  have hab : a = b := by
   rcases List.mem_cons.1 ((h a).1 (by simp)) with e | e
   ·exact e
   ·rcases List.mem_cons.1 ((h b).2 (by simp)) with e2 | e2
    ·exact e2.symm
    ·exact absurd (tr _ _ _ (hl.1 b e2) (hm.1 a e)) (irr a)
  subst hab
  rw [strict_unique irr tr hl.2 hm.2 fun x => ?_]
  constructor
  ·intro hx
   rcases List.mem_cons.1 ((h x).1 (by simp [hx])) with e | e
   ·subst e; exact absurd (hl.1 x hx) (irr x)
   ·exact e
  ·intro hx
   rcases List.mem_cons.1 ((h x).2 (by simp [hx])) with e | e
   ·subst e; exact absurd (hm.1 x hx) (irr x)
   ·exact e
def bLt (a b : ByteArray) : Prop := a.data.toList < b.data.toList
instance (a b : ByteArray) : Decidable (bLt a b) := inferInstanceAs (Decidable (a.data.toList < b.data.toList))
theorem bLt_irr (a : ByteArray) : ¬ bLt a a := List.lt_irrefl _
theorem bLt_trans (a b c : ByteArray) (h : bLt a b) (k : bLt b c) : bLt a c := List.lt_trans h k
theorem bLt_total {a b : ByteArray} (h : ¬ bLt a b) (k : a ≠ b) : bLt b a := by
 rcases List.le_total a.data.toList b.data.toList with h1 | h1
 ·exfalso
  apply h
  rcases List.le_iff_lt_or_eq.1 h1 with h2 | h2
  ·exact h2
  ·exact absurd (ByteArray.ext (Array.ext' h2)) k
 ·rcases List.le_iff_lt_or_eq.1 h1 with h2 | h2
  ·exact h2
  ·exact absurd (ByteArray.ext (Array.ext' h2.symm)) k
def laidR (l : List ByteArray) (s : ByteArray) : List ByteArray := l.takeWhile (fun x => decide (bLt x s)) ++ s :: l.dropWhile (fun x => decide (bLt x s))
theorem laidR_mem {l : List ByteArray} {s x : ByteArray} : x ∈ laidR l s ↔ x = s ∨ x ∈ l := by
 unfold laidR
 conv => rhs; rw [← List.takeWhile_append_dropWhile (p := fun x => decide (bLt x s)) (l := l)]
 simp only [List.mem_append, List.mem_cons]
 constructor
 ·rintro (h | h | h)
  ·exact .inr (.inl h)
  ·exact .inl h
  ·exact .inr (.inr h)
 ·rintro (h | h | h)
  ·exact .inr (.inl h)
  ·exact .inl h
  ·exact .inr (.inr h)
theorem takeWhile_all {α : Type} {p : α → Bool} : ∀ {l : List α} {x : α}, x ∈ l.takeWhile p → p x = true ∧ x ∈ l
 | a :: l, x, h => by
  unfold List.takeWhile at h
  split at h
  ·rcases List.mem_cons.1 h with rfl | h
   ·exact ⟨‹_›, by simp⟩
   ·exact ⟨(takeWhile_all h).1, by simp [(takeWhile_all h).2]⟩
  ·cases h
theorem laidR_sorted : ∀ {l : List ByteArray} {s : ByteArray}, l.Pairwise bLt → s ∉ l → (laidR l s).Pairwise bLt
 | [], s, _, _ => by simp [laidR]
 | a :: l, s, h, hs => by
  rw [List.pairwise_cons] at h
  have ih := laidR_sorted (s := s) h.2 (fun hm => hs (by simp [hm]))
  unfold laidR at ih ⊢
  by_cases ha : bLt a s
  ·rw [List.takeWhile_cons_of_pos (by simpa using ha), List.dropWhile_cons_of_pos (by simpa using ha), List.cons_append, List.pairwise_cons]
   refine ⟨fun x hx => ?_, ih⟩
   have : x ∈ laidR l s := hx
   rcases laidR_mem.1 this with rfl | hx
   ·exact ha
   ·exact h.1 x hx
  ·rw [List.takeWhile_cons_of_neg (by simpa using ha), List.dropWhile_cons_of_neg (by simpa using ha), List.nil_append, List.pairwise_cons, List.pairwise_cons]
   have hb := bLt_total ha (fun e => hs (by simp [e]))
   refine ⟨fun x hx => ?_, h⟩
   rcases List.mem_cons.1 hx with rfl | hx
   ·exact hb
   ·exact bLt_trans _ _ _ hb (h.1 x hx)
structure ClassedBy (K : ByteArray → Prop) (E : ByteArray → ByteArray → Prop) (out : List (List ByteArray)) : Prop where
 each : ∀ l ∈ out, l.Pairwise bLt ∧ l ≠ []
 heads : out.Pairwise fun l m => ∃ a b, l.head? = some a ∧ m.head? = some b ∧ bLt a b
 same : ∀ l ∈ out, ∀ x ∈ l, ∀ y, y ∈ l ↔ K y ∧ E x y
 all : ∀ x, K x → ∃ l ∈ out, x ∈ l
theorem ClassedBy.unique {K : ByteArray → Prop} {E : ByteArray → ByteArray → Prop} {o1 o2 : List (List ByteArray)} (h1 : ClassedBy K E o1) (h2 : ClassedBy K E o2) : o1 = o2 := by
 have key : ∀ {o1 o2 : List (List ByteArray)}, ClassedBy K E o1 → ClassedBy K E o2 → ∀ l ∈ o1, l ∈ o2 := fun {o1 o2} h1 h2 l hl => by
  obtain ⟨x, hx⟩ := List.exists_mem_of_ne_nil l (h1.each l hl).2
  have hk := ((h1.same l hl x hx x).1 hx).1
  obtain ⟨m, hm, hxm⟩ := h2.all x hk
  have e : l = m := strict_unique bLt_irr bLt_trans (h1.each l hl).1 (h2.each m hm).1 fun y => by rw [h1.same l hl x hx y, h2.same m hm x hxm y]
  rw [e]
  exact hm
 refine strict_unique (R := fun l m => ∃ a b, l.head? = some a ∧ m.head? = some b ∧ bLt a b) (fun a ⟨x, y, e1, e2, h⟩ => ?_) (fun a b c ⟨x, y, e1, e2, h⟩ ⟨y', z, e3, e4, k⟩ => ?_) h1.heads h2.heads fun l => ⟨key h1 h2 l, key h2 h1 l⟩
 ·rw [e1] at e2
  cases e2
  exact bLt_irr _ h
 ·rw [e2] at e3
  cases e3
  exact ⟨x, z, e1, e4, bLt_trans _ _ _ h k⟩
section
variable (T : Nat → ByteArray) (C : Nat → Nat) (n : Nat)
def minTo (i : Nat) : Nat → ByteArray
 | 0 => T i
 | k + 1 => if C k = C i ∧ bLt (T k) (minTo i k) then T k else minTo i k
def firstsTo : Nat → List ByteArray
 | 0 => []
 | i + 1 => if minTo T C i n = T i then laidR (firstsTo i) (minTo T C i n) else firstsTo i
def classTo (c : Nat) : Nat → List ByteArray
 | 0 => []
 | k + 1 => if C k = c then laidR (classTo c k) (T k) else classTo c k
variable {T C n}
theorem minTo_is (i : Nat) (hi : i < n) : ∀ k, k ≤ n → (∃ j, j < n ∧ minTo T C i k = T j ∧ C j = C i) ∧ ∀ q, (q < k ∨ q = i) → C q = C i → ¬ bLt (T q) (minTo T C i k)
 | 0, _ => ⟨⟨i, hi, rfl, rfl⟩, fun q hq _ => by
  rcases hq with hq | rfl
  ·omega
  ·exact bLt_irr _⟩
 | k + 1, hk => by
  obtain ⟨⟨j, h1, h2, h3⟩, h4⟩ := minTo_is i hi k (by omega)
  unfold minTo
  by_cases hc : C k = C i ∧ bLt (T k) (minTo T C i k)
  ·rw [if_pos hc]
   refine ⟨⟨k, by omega, rfl, hc.1⟩, fun q hq he hlt => ?_⟩
   by_cases e : q = k
   ·subst e; exact bLt_irr _ hlt
   ·exact h4 q (by omega) he (bLt_trans _ _ _ hlt hc.2)
  ·rw [if_neg hc]
   refine ⟨⟨j, h1, h2, h3⟩, fun q hq he hlt => ?_⟩
   by_cases e : q = k
   ·subst e; exact hc ⟨he, hlt⟩
   ·exact h4 q (by omega) he hlt
theorem firstsTo_is (hT : ∀ i j, i < n → j < n → T i = T j → i = j) : ∀ i, i ≤ n → (firstsTo T C n i).Pairwise bLt ∧ ∀ f, f ∈ firstsTo T C n i ↔ ∃ j, j < i ∧ f = T j ∧ minTo T C j n = T j
 | 0, _ => ⟨List.Pairwise.nil, fun f => ⟨fun h => (by cases h), fun ⟨j, h, _⟩ => (by omega)⟩⟩
 | i + 1, hi => by
  obtain ⟨h1, h2⟩ := firstsTo_is hT i (by omega)
  unfold firstsTo
  by_cases hc : minTo T C i n = T i
  ·rw [if_pos hc, hc]
   refine ⟨laidR_sorted h1 fun hm => ?_, fun f => ?_⟩
   ·obtain ⟨j, a, b, _⟩ := (h2 _).1 hm
    have := hT i j (by omega) (by omega) b
    omega
   ·rw [laidR_mem, h2]
    constructor
    ·rintro (rfl | ⟨j, a, b, c⟩)
     ·exact ⟨i, by omega, rfl, hc⟩
     ·exact ⟨j, by omega, b, c⟩
    ·rintro ⟨j, a, b, c⟩
     by_cases e : j = i
     ·subst e; exact .inl b
     ·exact .inr ⟨j, by omega, b, c⟩
  ·rw [if_neg hc]
   refine ⟨h1, fun f => ?_⟩
   rw [h2]
   constructor
   ·rintro ⟨j, a, b, c⟩
    exact ⟨j, by omega, b, c⟩
   ·rintro ⟨j, a, b, c⟩
    by_cases e : j = i
    ·subst e; exact absurd c hc
    ·exact ⟨j, by omega, b, c⟩
theorem classTo_is (hT : ∀ i j, i < n → j < n → T i = T j → i = j) (c : Nat) : ∀ k, k ≤ n → (classTo T C c k).Pairwise bLt ∧ ∀ f, f ∈ classTo T C c k ↔ ∃ j, j < k ∧ f = T j ∧ C j = c
 | 0, _ => ⟨List.Pairwise.nil, fun f => ⟨fun h => (by cases h), fun ⟨j, h, _⟩ => (by omega)⟩⟩
 | i + 1, hi => by
  obtain ⟨h1, h2⟩ := classTo_is hT c i (by omega)
  unfold classTo
  by_cases hc : C i = c
  ·rw [if_pos hc]
   refine ⟨laidR_sorted h1 fun hm => ?_, fun f => ?_⟩
   ·obtain ⟨j, a, b, _⟩ := (h2 _).1 hm
    have := hT i j (by omega) (by omega) b
    omega
   ·rw [laidR_mem, h2]
    constructor
    ·rintro (rfl | ⟨j, a, b, c⟩)
     ·exact ⟨i, by omega, rfl, hc⟩
     ·exact ⟨j, by omega, b, c⟩
    ·rintro ⟨j, a, b, c⟩
     by_cases e : j = i
     ·subst e; exact .inl b
     ·exact .inr ⟨j, by omega, b, c⟩
  ·rw [if_neg hc]
   refine ⟨h1, fun f => ?_⟩
   rw [h2]
   constructor
   ·rintro ⟨j, a, b, c⟩
    exact ⟨j, by omega, b, c⟩
   ·rintro ⟨j, a, b, c⟩
    by_cases e : j = i
    ·subst e; exact absurd c hc
    ·exact ⟨j, by omega, b, c⟩
theorem classTo_head (hT : ∀ i j, i < n → j < n → T i = T j → i = j) {j : Nat} (hj : j < n) (hm : minTo T C j n = T j) : (classTo T C (C j) n).head? = some (T j) := by
 obtain ⟨h1, h2⟩ := classTo_is hT (C j) n (Nat.le_refl _)
 have hin := (h2 (T j)).2 ⟨j, hj, rfl, rfl⟩
 cases hl : classTo T C (C j) n with
 | nil => rw [hl] at hin; cases hin
 | cons a l =>
  rw [hl] at hin h1
  rw [List.head?_cons]
  rcases List.mem_cons.1 hin with e | e
  ·rw [e]
  ·exfalso
   have hlt := (List.pairwise_cons.1 h1).1 _ e
   obtain ⟨q, q1, q2, q3⟩ := (h2 a).1 (by rw [hl]; simp)
   rw [q2, ← hm] at hlt
   exact (minTo_is (T := T) (C := C) j hj n (Nat.le_refl _)).2 q (.inl q1) q3 hlt
theorem classes_by (hT : ∀ i j, i < n → j < n → T i = T j → i = j) (ix : ByteArray → Nat) (hix : ∀ j, j < n → ix (T j) = j) :
  ClassedBy (fun y => ∃ i, i < n ∧ T i = y) (fun x y => ∃ i j, i < n ∧ j < n ∧ T i = x ∧ T j = y ∧ C i = C j) ((firstsTo T C n n).map fun f => classTo T C (C (ix f)) n) := by
 obtain ⟨f1, f2⟩ := firstsTo_is (C := C) hT n (Nat.le_refl _)
 have key : ∀ f ∈ firstsTo T C n n, ∃ j, j < n ∧ f = T j ∧ ix f = j ∧ minTo T C j n = T j := fun f hf => by
  obtain ⟨j, a, b, c⟩ := (f2 f).1 hf
  exact ⟨j, a, b, by rw [b]; exact hix j a, c⟩
 refine ⟨fun l hl => ?_, ?_, fun l hl x hx y => ?_, fun x ⟨i, hi, hx⟩ => ?_⟩
 ·obtain ⟨f, hf, rfl⟩ := List.mem_map.1 hl
  obtain ⟨j, a, b, c, d⟩ := key f hf
  refine ⟨(classTo_is hT _ n (Nat.le_refl _)).1, fun e => ?_⟩
  have := classTo_head hT a d
  rw [c] at e
  rw [e] at this
  cases this
 ·rw [List.pairwise_map]
  refine f1.imp_of_mem fun {a b} ha hb hab => ?_
  obtain ⟨j, j1, j2, j3, j4⟩ := key a ha
  obtain ⟨k, k1, k2, k3, k4⟩ := key b hb
  rw [j3, k3]
  exact ⟨T j, T k, classTo_head hT j1 j4, classTo_head hT k1 k4, by rw [← j2, ← k2]; exact hab⟩
 ·obtain ⟨f, hf, rfl⟩ := List.mem_map.1 hl
  have hc := (classTo_is (C := C) hT (C (ix f)) n (Nat.le_refl _)).2
  obtain ⟨i, i1, i2, i3⟩ := (hc x).1 hx
  rw [hc y]
  constructor
  ·rintro ⟨j, j1, j2, j3⟩
   exact ⟨⟨j, j1, j2.symm⟩, i, j, i1, j1, i2.symm, j2.symm, by rw [i3, j3]⟩
  ·rintro ⟨_, a, b, a1, b1, a2, b2, e⟩
   have := hT a i a1 i1 (by rw [a2, i2])
   subst this
   exact ⟨b, b1, b2.symm, by rw [← e, i3]⟩
 ·obtain ⟨⟨j, j1, j2, j3⟩, h4⟩ := minTo_is (T := T) (C := C) i hi n (Nat.le_refl _)
  have hmin : minTo T C j n = T j := by
   obtain ⟨⟨q, q1, q2, q3⟩, h5⟩ := minTo_is (T := T) (C := C) j j1 n (Nat.le_refl _)
   have a1 := h4 q (.inl q1) (by rw [q3, j3])
   have a2 := h5 j (.inr rfl) rfl
   rw [j2] at a1
   rw [q2] at a2 ⊢
   by_cases e : T q = T j
   ·exact e
   ·exact absurd (bLt_total a1 e) a2
  refine ⟨classTo T C (C (ix (T j))) n, List.mem_map.2 ⟨T j, (f2 _).2 ⟨j, j1, rfl, hmin⟩, rfl⟩, ?_⟩
  rw [hix j j1, (classTo_is hT (C j) n (Nat.le_refl _)).2]
  exact ⟨i, hi, hx.symm, j3.symm⟩
end
end Go.Proofs.YtmfkpllnmmfpiaaGreatDoor

namespace Go.Proofs.YtmfkpllnmmfpiaaGreatDoor
open Go.RowKit Go.Sort
theorem TextsStrict {S : WS} (hd : ∀ i j, i < S.shapes.length → j < S.shapes.length → plainT S i = plainT S j → i = j) : (sortedT S).Pairwise fun a b => bLt a.1 b.1 := by
 obtain ⟨_, hs⟩ := sortedT_perm S
 have hl := sortedT_length S
 have hp := sortedT_permL S
 have hn := (sortedT_nums S).1
 rw [List.pairwise_iff_getElem]
 intro i j hi hj hij
 have h := hs i j (Nat.zero_le _) hij (by omega)
 have e1 : (sortedT S).toArray[i]! = (sortedT S)[i] := by simp [getElem!_pos, hi]
 have e2 : (sortedT S).toArray[j]! = (sortedT S)[j] := by simp [getElem!_pos, hj]
 rw [e1, e2] at h
 have h2 : ¬ bLt (sortedT S)[j].1 (sortedT S)[i].1 := fun hb => by
  have := (ltT_iff (sortedT S)[j] (sortedT S)[i]).2 hb
  unfold ltT at this
  rw [h] at this
  cases this
 refine bLt_total h2 fun e => ?_
 have key : ∀ t ∈ sortedT S, t.2 < S.shapes.length ∧ t.1 = plainT S t.2 := fun t ht => by
  have := hp.mem_iff.1 ht
  unfold textsTo at this
  obtain ⟨q, hq, rfl⟩ := List.mem_map.1 this
  exact ⟨List.mem_range.1 hq, rfl⟩
 have k1 := key _ (List.getElem_mem hi)
 have k2 := key _ (List.getElem_mem hj)
 rw [k1.2, k2.2] at e
 have e3 := hd _ _ k2.1 k1.1 e
 have a1 : ((sortedT S).map (·.2))[i]? = some (sortedT S)[i].2 := by rw [List.getElem?_map, List.getElem?_eq_getElem hi]; rfl
 have a2 : ((sortedT S).map (·.2))[j]? = some (sortedT S)[i].2 := by rw [List.getElem?_map, List.getElem?_eq_getElem hj, ← e3]; rfl
 have := nodup_at hn a1 a2
 omega
def ofCls (S : WS) (ts : List TN) (c : Nat) : List ByteArray := (ts.filter (fun t => classAt S t.2 == c)).map (·.1)
theorem ofCls_mem {S : WS} {ts : List TN} {c : Nat} {y : ByteArray} : y ∈ ofCls S ts c ↔ ∃ t ∈ ts, classAt S t.2 = c ∧ t.1 = y := by
 unfold ofCls
 simp only [List.mem_map, List.mem_filter, beq_iff_eq]
 constructor
 ·rintro ⟨t, ⟨h1, h2⟩, h3⟩
  exact ⟨t, h1, h2, h3⟩
 ·rintro ⟨t, h1, h2, h3⟩
  exact ⟨t, ⟨h1, h2⟩, h3⟩
theorem heads_firsts (S : WS) : ∀ ts : List TN, ts.Pairwise (fun a b => bLt a.1 b.1) → (firstsOf (ts.map fun t => classAt S t.2)).Pairwise fun c d => ∃ a b, (ofCls S ts c).head? = some a ∧ (ofCls S ts d).head? = some b ∧ bLt a b := by
 refine list_snoc_induction (fun _ => by simp [firstsOf]) fun ts t ih h => ?_
 rw [List.pairwise_append] at h
 have ih := ih h.1
 have hsp : ∀ c, ofCls S (ts ++ [t]) c = ofCls S ts c ++ (if classAt S t.2 = c then [t.1] else []) := fun c => by
  unfold ofCls
  rw [List.filter_append, List.map_append]
  congr 1
  by_cases e : classAt S t.2 = c
  ·simp [e]
  ·simp [e]
 have hhd : ∀ c a, (ofCls S ts c).head? = some a → (ofCls S (ts ++ [t]) c).head? = some a := fun c a ha => by
  rw [hsp, List.head?_append, ha]
  rfl
 have h2 : (firstsOf (ts.map fun t => classAt S t.2)).Pairwise fun c d => ∃ a b, (ofCls S (ts ++ [t]) c).head? = some a ∧ (ofCls S (ts ++ [t]) d).head? = some b ∧ bLt a b := ih.imp fun {c d} ⟨a, b, h1, h2, h3⟩ => ⟨a, b, hhd c a h1, hhd d b h2, h3⟩
 rw [List.map_append, List.map_cons, List.map_nil, firstsOf_snoc]
 unfold firstStep
 split
 ·exact h2
 ·rename_i hnew
  rw [List.pairwise_append]
  refine ⟨h2, by simp, fun c hc d hd => ?_⟩
  simp only [List.mem_singleton] at hd
  subst hd
  have hnone : ofCls S ts (classAt S t.2) = [] := by
   rw [List.eq_nil_iff_forall_not_mem]
   intro y hy
   obtain ⟨u, hu, he, _⟩ := ofCls_mem.1 hy
   exact hnew ((mem_firsts _ _).2 (List.mem_map.2 ⟨u, hu, he⟩))
  obtain ⟨u, hu, he⟩ := List.mem_map.1 ((mem_firsts _ _).1 hc)
  cases hl : ofCls S ts c with
  | nil =>
   have : u.1 ∈ ofCls S ts c := ofCls_mem.2 ⟨u, hu, he, rfl⟩
   rw [hl] at this
   cases this
  | cons a l =>
   obtain ⟨q, hq, _, hq2⟩ := ofCls_mem.1 (show a ∈ ofCls S ts c by rw [hl]; simp)
   refine ⟨a, t.1, hhd c a (by rw [hl]; rfl), by rw [hsp, hnone, if_pos rfl]; rfl, ?_⟩
   rw [← hq2]
   exact h.2.2 q hq t (by simp)
theorem classesOf_by {S : WS} (hd : ∀ i j, i < S.shapes.length → j < S.shapes.length → plainT S i = plainT S j → i = j) :
  ClassedBy (fun y => ∃ i, i < S.shapes.length ∧ plainT S i = y) (fun x y => ∃ i j, i < S.shapes.length ∧ j < S.shapes.length ∧ plainT S i = x ∧ plainT S j = y ∧ classAt S i = classAt S j) (classesOf S) := by
 have hp := sortedT_permL S
 have hst := TextsStrict hd
 have key : ∀ t, t ∈ sortedT S ↔ t.2 < S.shapes.length ∧ t.1 = plainT S t.2 := fun t => by
  rw [hp.mem_iff]
  unfold textsTo
  simp only [List.mem_map, List.mem_range]
  constructor
  ·rintro ⟨q, hq, rfl⟩
   exact ⟨hq, rfl⟩
  ·rintro ⟨h1, h2⟩
   exact ⟨t.2, h1, by rw [← h2]⟩
 have e : classesOf S = (firstsOf ((sortedT S).map fun t => classAt S t.2)).map (ofCls S (sortedT S)) := by
  unfold classesOf listsTo clsTo
  rw [List.take_of_length_le (Nat.le_refl _)]
  refine List.map_congr_left fun c _ => ?_
  unfold ofClass ofCls
  rw [List.take_of_length_le (Nat.le_refl _)]
 rw [e]
 have hmem : ∀ c y, y ∈ ofCls S (sortedT S) c ↔ ∃ i, i < S.shapes.length ∧ plainT S i = y ∧ classAt S i = c := fun c y => by
  rw [ofCls_mem]
  constructor
  ·rintro ⟨t, h1, h2, h3⟩
   obtain ⟨a, b⟩ := (key t).1 h1
   exact ⟨t.2, a, by rw [← b, h3], h2⟩
  ·rintro ⟨i, h1, h2, h3⟩
   exact ⟨(plainT S i, i), (key _).2 ⟨h1, rfl⟩, h3, h2⟩
 refine ⟨fun l hl => ?_, ?_, fun l hl x hx y => ?_, fun x ⟨i, hi, hx⟩ => ?_⟩
 ·obtain ⟨c, hc, rfl⟩ := List.mem_map.1 hl
  refine ⟨?_, fun e0 => ?_⟩
  ·unfold ofCls
   rw [List.pairwise_map]
   exact hst.filter _
  ·obtain ⟨t, ht, he⟩ := List.mem_map.1 ((mem_firsts _ _).1 hc)
   have : t.1 ∈ ofCls S (sortedT S) c := ofCls_mem.2 ⟨t, ht, he, rfl⟩
   rw [e0] at this
   cases this
 ·rw [List.pairwise_map]
  exact heads_firsts S _ hst
 ·obtain ⟨c, hc, rfl⟩ := List.mem_map.1 hl
  obtain ⟨i, i1, i2, i3⟩ := (hmem c x).1 hx
  rw [hmem c y]
  constructor
  ·rintro ⟨j, j1, j2, j3⟩
   exact ⟨⟨j, j1, j2⟩, i, j, i1, j1, i2, j2, by rw [i3, j3]⟩
  ·rintro ⟨_, a, b, a1, b1, a2, b2, e⟩
   have := hd a i a1 i1 (by rw [a2, i2])
   subst this
   exact ⟨b, b1, b2, by rw [← e, i3]⟩
 ·refine ⟨ofCls S (sortedT S) (classAt S i), List.mem_map.2 ⟨classAt S i, (mem_firsts _ _).2 (List.mem_map.2 ⟨(plainT S i, i), (key _).2 ⟨hi, rfl⟩, rfl⟩), rfl⟩, ?_⟩
  exact (hmem _ x).2 ⟨i, hi, hx, rfl⟩
def textAt (ts : List Trm) (i : Nat) : ByteArray := match ts[i]? with | some t => t.text | none => noName
def classesR (L : List ST) : List (List ByteArray) := (firstsTo (textAt (termsR L)) (clsAt (drawnR L)) (termsR L).length (termsR L).length).map fun f => classTo (textAt (termsR L)) (clsAt (drawnR L)) (clsAt (drawnR L) ((idxT f (termsR L)).getD 0)) (termsR L).length
theorem ClassedBy.congr {K K' : ByteArray → Prop} {E E' : ByteArray → ByteArray → Prop} {out : List (List ByteArray)} (h : ClassedBy K E out) (hK : ∀ y, K y ↔ K' y) (hE : ∀ x y, E x y ↔ E' x y) : ClassedBy K' E' out :=
 ⟨h.each, h.heads, fun l hl x hx y => by rw [h.same l hl x hx y, hK, hE], fun x hx => h.all x ((hK x).2 hx)⟩
theorem Both.classes {S : WS} {L : List ST} (h : Both S L) : classesOf S = classesR L := by
 obtain ⟨hT, hk⟩ := termsR_ok h.ok
 have hB := h.holds.fine.web.base
 have h1 := classesOf_by (S := S) (fun i j hi hj e => by
  obtain ⟨t, kt, dt⟩ := h.holds.term i hi
  obtain ⟨u, ku, du⟩ := h.holds.term j hj
  rw [den_text hB dt, den_text hB du] at e
  have := text_inj (hT.ok t ((hk t).2 kt)) (hT.ok u ((hk u).2 ku)) e
  subst this
  exact dt.inj hB du)
 have htx : ∀ (i : Nat) (t : Trm), (termsR L)[i]? = some t → textAt (termsR L) i = t.text := fun i t e => by unfold textAt; rw [e]
 have hget : ∀ i, i < (termsR L).length → ∃ t, (termsR L)[i]? = some t := fun i hi => ⟨_, List.getElem?_eq_getElem hi⟩
 have h2 := classes_by (T := textAt (termsR L)) (C := clsAt (drawnR L)) (n := (termsR L).length) (fun i j hi hj e => by
  obtain ⟨t, ht⟩ := hget i hi
  obtain ⟨u, hu⟩ := hget j hj
  rw [htx i t ht, htx j u hu] at e
  have := text_inj (hT.ok t (List.mem_of_getElem? ht)) (hT.ok u (List.mem_of_getElem? hu)) e
  subst this
  exact nodup_at hT.nodup ht hu) (fun f => (idxT f (termsR L)).getD 0) (fun j hj => by
  obtain ⟨t, ht⟩ := hget j hj
  show (idxT (textAt (termsR L) j) (termsR L)).getD 0 = j
  rw [htx j t ht, (hT.idx (hT.ok t (List.mem_of_getElem? ht))).2 ht]
  rfl)
 refine h1.unique (h2.congr (fun y => ?_) (fun x y => ?_))
 ·constructor
  ·rintro ⟨i, hi, rfl⟩
   obtain ⟨t, ht⟩ := hget i hi
   obtain ⟨j, dj⟩ := h.holds.num t ((hk t).1 (List.mem_of_getElem? ht))
   exact ⟨j, dj.lt, by rw [den_text hB dj, htx i t ht]⟩
  ·rintro ⟨i, hi, rfl⟩
   obtain ⟨t, kt, dt⟩ := h.holds.term i hi
   obtain ⟨j, hj⟩ := List.getElem?_of_mem ((hk t).2 kt)
   exact ⟨j, (List.getElem?_eq_some_iff.1 hj).1, by rw [den_text hB dt, htx j t hj]⟩
 ·constructor
  ·rintro ⟨i, j, hi, hj, rfl, rfl, e⟩
   obtain ⟨t, ht⟩ := hget i hi
   obtain ⟨u, hu⟩ := hget j hj
   obtain ⟨a, da⟩ := h.holds.num t ((hk t).1 (List.mem_of_getElem? ht))
   obtain ⟨b, db⟩ := h.holds.num u ((hk u).1 (List.mem_of_getElem? hu))
   exact ⟨a, b, da.lt, db.lt, by rw [den_text hB da, htx i t ht], by rw [den_text hB db, htx j u hu], (h.holds.eq_iff da db).2 ((drawnR_iff h.ok ht hu).1 e)⟩
  ·rintro ⟨i, j, hi, hj, rfl, rfl, e⟩
   obtain ⟨t, kt, dt⟩ := h.holds.term i hi
   obtain ⟨u, ku, du⟩ := h.holds.term j hj
   obtain ⟨a, ha⟩ := List.getElem?_of_mem ((hk t).2 kt)
   obtain ⟨b, hb⟩ := List.getElem?_of_mem ((hk u).2 ku)
   exact ⟨a, b, (List.getElem?_eq_some_iff.1 ha).1, (List.getElem?_eq_some_iff.1 hb).1, by rw [den_text hB dt, htx a t ha], by rw [den_text hB du, htx b u hb], (drawnR_iff h.ok ha hb).2 ((h.holds.eq_iff dt du).1 e)⟩
end Go.Proofs.YtmfkpllnmmfpiaaGreatDoor
