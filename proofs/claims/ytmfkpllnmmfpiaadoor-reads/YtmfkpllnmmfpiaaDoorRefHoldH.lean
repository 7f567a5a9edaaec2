/-
  Plain: every sentence that is read: its names are words, its texts are short; the program's plain Book answers what the document's plain Book does.
-/
import Derived.Test.YtmfkpllnmmfpiaaDoorRefReadH
import Derived.Test.YtmfkpllnmmfpiaaDoorRefDrawH
import Derived.Test.YtmfkpllnmmfpiaaDoorSentLawH
import Derived.Test.YtmfkpllnmmfpiaaDoorBookTellH
namespace Go.Proofs.YtmfkpllnmmfpiaaDoor
open Go.RowKit

theorem runTo_all (p : Int → Bool) (s : ByteArray) : ∀ n i j, i ≤ j → j < runTo p s n i → j < s.size ∧ p (byteAt s j) = true
  | 0, i, j, h1, h2 => by simp only [runTo] at h2; omega
  | n + 1, i, j, h1, h2 => by
    unfold runTo at h2
    split at h2
    · rename_i hc
      by_cases e : j = i
      · subst e; exact hc
      · exact runTo_all p s n (i + 1) j (by omega) h2
    · omega
theorem name_ok {s : ByteArray} {a b : Nat} (hab : a < b) (hb : b ≤ s.size) (h : ∀ j, a ≤ j → j < b → wordB (byteAt s j) = true) : NameOK (s.extract a b) := by
  have e : (s.extract a b).data.toList = (s.data.toList.drop a).take (b - a) := by simp [List.extract_eq_take_drop]
  have hl : s.data.toList.length = s.size := by simp
  refine ⟨fun h0 => ?_, fun c hc => ?_⟩
  · rw [e] at h0
    have h1 := congrArg List.length h0
    simp only [List.length_take, List.length_drop, List.length_nil, hl] at h1
    omega
  · rw [e] at hc
    obtain ⟨i, hi⟩ := List.getElem?_of_mem hc
    have hlt := (List.getElem?_eq_some_iff.1 hi).1
    simp only [List.length_take, List.length_drop, hl] at hlt
    rw [List.getElem?_take_of_lt (by omega), List.getElem?_drop] at hi
    have h2 := h (a + i) (by omega) (by omega)
    unfold byteAt at h2
    rw [List.getD_eq_getElem?_getD, hi] at h2
    exact h2
/-- A word that is a name is in order. -/
def Tok (s : ByteArray) (st : Wd) : Prop := st.1 = 0 → NameOK (s.extract st.2.1 st.2.2)
theorem tok_at (s : ByteArray) (t : Nat) : Tok s (wordAt s t) := fun h => by
  obtain ⟨h1, h2, h3⟩ := word_name h
  rw [wordAt_from, h3]
  have hw : wordB (byteAt s (endOf blankB s t)) = true := by unfold wordB; rw [h2]; rfl
  have h4 := endOf_step h1 hw
  have h5 := endOf_le wordB s (endOf blankB s t + 1) (by omega)
  refine name_ok (by omega) (by omega) fun j hj1 hj2 => ?_
  exact (runTo_all wordB s _ _ j hj1 hj2).2
theorem partsOf_ok {s : ByteArray} {n : Nat} (ht : ∀ (st : Wd) (t : Tm n) (st2 : Wd), Tok s st → termOf s n st = (some t, st2) → TrmOK (erase n t)) :
    ∀ (m : Nat) (st : Wd) (ps : List (Tm n)) (st2 : Wd), partsOf s (termOf s n) m st = (some ps, st2) → ∀ p ∈ ps, TrmOK (erase n p)
  | 0, _, _, _, h => by simp [partsOf] at h
  | m + 1, st, ps, st2, h => by
    unfold partsOf at h
    cases hpp : termOf s n (wordAt s st.2.2) with
    | mk o stx =>
      rw [hpp] at h
      cases o with
      | none => simp at h
      | some x =>
        have h2 := ht _ x stx (tok_at s _) hpp
        simp only at h
        split at h
        · cases h
          intro p hp
          simp only [List.mem_singleton] at hp
          subst hp
          exact h2
        · split at h
          · cases hq : partsOf s (termOf s n) m stx with
            | mk o3 st3 =>
              rw [hq] at h
              cases o3 with
              | none => simp at h
              | some xs =>
                simp only [Prod.mk.injEq, Option.some.injEq] at h
                obtain ⟨rfl, rfl⟩ := h
                have h8 := partsOf_ok ht m stx xs _ hq
                intro p hp
                simp only [List.mem_cons] at hp
                rcases hp with rfl | hp
                · exact h2
                · exact h8 p hp
          · simp at h
theorem termOf_ok {s : ByteArray} : ∀ (n : Nat) (st : Wd) (t : Tm n) (st2 : Wd), Tok s st → termOf s n st = (some t, st2) → TrmOK (erase n t)
  | 0, _, t, _, _, _ => t.elim
  | n + 1, st, t, st2, hf, h => by
    by_cases hk : st.1 = 0
    · by_cases h1' : (wordAt s st.2.2).1 = 1
      · cases hq : partsOf s (termOf s n) (s.size + 1) (wordAt s st.2.2) with
        | mk o st3 =>
          cases o with
          | none => rw [termOf_fails hk h1' hq] at h; simp at h
          | some ps =>
            rw [termOf_parts hk h1' hq] at h
            simp only [Prod.mk.injEq, Option.some.injEq] at h
            obtain ⟨rfl, rfl⟩ := h
            have h2 := partsOf_ok (termOf_ok n) _ _ ps _ hq
            refine TrmOK.mk (hf hk) fun p hp => ?_
            obtain ⟨q, hq, rfl⟩ := List.mem_map.1 hp
            exact h2 q hq
      · rw [termOf_bare hk h1'] at h
        simp only [Prod.mk.injEq, Option.some.injEq] at h
        obtain ⟨rfl, rfl⟩ := h
        exact TrmOK.mk (hf hk) fun p hp => by cases hp
    · rw [termOf_no hk] at h; simp at h

theorem partsOf_len {s : ByteArray} {n : Nat} (ht : ∀ (st : Wd) (t : Tm n) (st2 : Wd), Fit s st → termOf s n st = (some t, st2) → lenTm n t + 2 * st.2.1 ≤ 2 * st2.2.1) :
    ∀ (m : Nat) (st : Wd) (ps : List (Tm n)) (st2 : Wd), Fit s st → partsOf s (termOf s n) m st = (some ps, st2) → sumOf (fun p => 2 + lenTm n p) ps + 2 * st.2.2 ≤ 2 * st2.2.1
  | 0, _, _, _, _, h => by simp [partsOf] at h
  | m + 1, st, ps, st2, hf, h => by
    have h1 := Fit.next s st.2.2 hf.size
    have hw := wordAt_le s st.2.2 hf.size
    unfold partsOf at h
    cases hpp : termOf s n (wordAt s st.2.2) with
    | mk o stx =>
      rw [hpp] at h
      cases o with
      | none => simp at h
      | some x =>
        have h2 := ht _ x stx h1 hpp
        have h3 := (termOf_fit n (wordAt s st.2.2) h1).1
        rw [hpp] at h3
        have h4 := h3.le
        have h5 := wordAt_le s stx.2.2 h3.size
        have h6 := h3.lt
        simp only at h h3 h4 h5 h6
        split at h
        · rename_i hk
          have h7 := h6 (by omega)
          cases h
          simp only [sumOf]
          omega
        · split at h
          · rename_i hk
            have h7 := h6 (by omega)
            cases hq : partsOf s (termOf s n) m stx with
            | mk o3 st3 =>
              rw [hq] at h
              cases o3 with
              | none => simp at h
              | some xs =>
                simp only [Prod.mk.injEq, Option.some.injEq] at h
                obtain ⟨rfl, rfl⟩ := h
                have h8 := partsOf_len ht m stx xs _ h3 hq
                simp only [sumOf]
                omega
          · simp at h
theorem termOf_len {s : ByteArray} : ∀ (n : Nat) (st : Wd) (t : Tm n) (st2 : Wd), Fit s st → termOf s n st = (some t, st2) → lenTm n t + 2 * st.2.1 ≤ 2 * st2.2.1
  | 0, _, t, _, _, _ => t.elim
  | n + 1, st, t, st2, hf, h => by
    by_cases hk : st.1 = 0
    · have h1 := Fit.next s st.2.2 hf.size
      have hw := wordAt_le s st.2.2 hf.size
      have hlt := hf.lt (by omega)
      have hsz : (s.extract st.2.1 st.2.2).size = st.2.2 - st.2.1 := by
        have := hf.size
        simp only [ByteArray.size_extract]
        omega
      by_cases h1' : (wordAt s st.2.2).1 = 1
      · cases hq : partsOf s (termOf s n) (s.size + 1) (wordAt s st.2.2) with
        | mk o st3 =>
          cases o with
          | none => rw [termOf_fails hk h1' hq] at h; simp at h
          | some ps =>
            rw [termOf_parts hk h1' hq] at h
            simp only [Prod.mk.injEq, Option.some.injEq] at h
            obtain ⟨rfl, rfl⟩ := h
            have h2 := partsOf_len (termOf_len n) _ _ ps _ h1 hq
            have h3 := h1.lt (by omega)
            show (s.extract st.2.1 st.2.2).size + (sumOf (fun p => 2 + lenTm n p) ps + 1) + 2 * st.2.1 ≤ _
            omega
      · rw [termOf_bare hk h1'] at h
        simp only [Prod.mk.injEq, Option.some.injEq] at h
        obtain ⟨rfl, rfl⟩ := h
        show (s.extract st.2.1 st.2.2).size + (0 + 1) + 2 * st.2.1 ≤ _
        omega
    · rw [termOf_no hk] at h; simp at h

/-- What is read is in order, and short. -/
theorem readOf_ok {s : ByteArray} {x : Snt (fuelOf s)} (h : (readOf s).1 = some x) : STOK (eraseS x) ∧ lenTm _ x.left ≤ 400 ∧ lenTm _ x.right ≤ 400 := by
  unfold readOf at h
  split at h
  · simp at h
  · rename_i hl
    split at h
    · simp at h
    · rename_i y st hs
      have hyx : y = x := by
        split at h
        · simp at h
        · split at h
          · simp at h
          · simpa using h
      subst hyx
      clear h
      have f0 := Fit.next s 0 (Nat.zero_le _)
      unfold sentOf at hs
      cases h1 : termOf s (fuelOf s) (wordAt s 0) with
      | mk o st1 =>
        rw [h1] at hs
        cases o with
        | none => simp at hs
        | some l =>
          have e1 := termOf_len _ _ l _ f0 h1
          have o1 := termOf_ok _ _ l _ (tok_at s 0) h1
          have f1 := (termOf_fit (fuelOf s) (wordAt s 0) f0).1
          rw [h1] at f1
          simp only at hs f1
          cases h2 : signOf s st1 with
          | mk o2 st2 =>
            rw [h2] at hs
            cases o2 with
            | none => simp at hs
            | some g =>
              have e2 : Fit s st2 ∧ Tok s st2 := by
                unfold signOf at h2
                split at h2
                · cases h2; exact ⟨Fit.next s _ f1.size, tok_at s _⟩
                · split at h2
                  · cases h2; exact ⟨Fit.next s _ f1.size, tok_at s _⟩
                  · split at h2 <;> simp at h2
              simp only at hs
              cases h3 : termOf s (fuelOf s) st2 with
              | mk o3 st3 =>
                rw [h3] at hs
                cases o3 with
                | none => simp at hs
                | some r =>
                  have e3 := termOf_len _ _ r _ e2.1 h3
                  have o3 := termOf_ok _ _ r _ e2.2 h3
                  have f3 := (termOf_fit (fuelOf s) st2 e2.1).1
                  rw [h3] at f3
                  simp only at hs f3
                  have g1 := f1.le
                  have g2 := f1.size
                  have g3 := f3.le
                  have g4 := f3.size
                  split at hs
                  · simp only [Prod.mk.injEq, Option.some.injEq] at hs
                    obtain ⟨rfl, rfl⟩ := hs
                    exact ⟨⟨o1, o3⟩, by show lenTm _ l ≤ 400; omega, by show lenTm _ r ≤ 400; omega⟩
                  · simp at hs

/-- A number's plain text is its term's. -/
theorem den_plain {S : WS} (hB : Base S) {t : Trm} {i : Nat} (h : DenE S t i) : ∀ g, i < g → plainF S g i = t.txt := by
  induction h with
  | @mk nm ps ks i h1 h2 h3 _ ih =>
    intro g hg
    obtain ⟨f, rfl⟩ : ∃ f, g = f + 1 := ⟨g - 1, by omega⟩
    have hS := hB.good i _ h1
    have hs : shapeAt S i = shapeOf nm ks := by unfold shapeAt; rw [List.getD_eq_getElem?_getD, h1]; rfl
    have hp : ∀ (j : Nat) (p : Trm) (k : Nat), ps[j]? = some p → ks[j]? = some k → plainF S f (partAt (shapeOf nm ks) j) = p.txt := fun j p k e1 e2 => by
      have hj := (List.getElem?_eq_some_iff.1 e2).1
      have hk := hS.part j (show j < (shapeOf nm ks).2.1 from hj)
      rw [partAt_shapeOf h3 e2] at hk ⊢
      exact ih j p k e1 e2 f (by omega)
    unfold plainF
    rw [hs]
    have e9 : (shapeOf nm ks).2.1 = ks.length := rfl
    have e10 : (shapeOf nm ks).1 = nm := rfl
    rw [e9, e10]
    match ps, ks, h2, h3, hp with
    | [], [], _, _, _ => simp [Trm.txt]
    | [p], [a], _, _, hp =>
      simp only [List.length_cons, List.length_nil, partsTo, hp 0 p a rfl rfl, Trm.txt, Trm.txtR]
      simp
    | [p, q], [a, b], _, _, hp =>
      simp only [List.length_cons, List.length_nil, partsTo, hp 0 p a rfl rfl, hp 1 q b rfl rfl, Trm.txt, Trm.txtR]
      simp
    | [p, q, r], [a, b, c], _, _, hp =>
      simp only [List.length_cons, List.length_nil, partsTo, hp 0 p a rfl rfl, hp 1 q b rfl rfl, hp 2 r c rfl rfl, Trm.txt, Trm.txtR]
      simp
    | _ :: _, [], h2, _, _ => simp at h2
    | [], _ :: _, h2, _, _ => simp at h2
    | [_], _ :: _ :: _, h2, _, _ => simp at h2
    | _ :: _ :: _, [_], h2, _, _ => simp at h2
    | [_, _], _ :: _ :: _ :: _, h2, _, _ => simp at h2
    | _ :: _ :: _ :: _, [_, _], h2, _, _ => simp at h2
    | [_, _, _], _ :: _ :: _ :: _ :: _, h2, _, _ => simp at h2
    | _ :: _ :: _ :: _ :: _, [_, _, _], h2, _, _ => simp at h2
    | _ :: _ :: _ :: _ :: _, _ :: _ :: _ :: _ :: _, _, h3, _ => simp at h3
theorem den_text {S : WS} (hB : Base S) {t : Trm} {i : Nat} (h : DenE S t i) : plainT S i = t.text := by
  unfold plainT Trm.text
  rw [den_plain hB h (i + 1) (by omega)]
/-- A sentence's plain text. -/
def ST.text (s : ST) : ByteArray := if s.eq then s.l.text ++ (⟨#[32, 61, 32]⟩ : ByteArray) ++ s.r.text else s.l.text ++ (⟨#[32, 33, 61, 32]⟩ : ByteArray) ++ s.r.text
theorem Holds.texts {S : WS} {L : List ST} (h : Holds S L) : saidOf S = L.map ST.text := by
  have key : ∀ (xs : List (Nat × Nat × Nat)) (l : List ST), AllIs (fun (x : Nat × Nat × Nat) (s : ST) => x.1 = (if s.eq then 0 else 1) ∧ DenE S s.l x.2.1 ∧ DenE S s.r x.2.2) xs l → xs.map (sayT S) = l.map ST.text := by
    intro xs
    induction xs with
    | nil =>
      intro l hl
      cases l with
      | nil => rfl
      | cons => exact hl.elim
    | cons x xs ih =>
      intro l hl
      cases l with
      | nil => exact hl.elim
      | cons s l =>
        obtain ⟨⟨h1, h2, h3⟩, h4⟩ := hl
        rw [List.map_cons, List.map_cons, ih l h4]
        congr 1
        unfold sayT ST.text
        rw [den_text h.fine.web.base h2, den_text h.fine.web.base h3, h1]
        cases hs : s.eq <;> (apply ByteArray.ext; apply Array.ext'; simp [signB])
  exact key _ _ h.said
theorem Holds.tags {S : WS} {L : List ST} (h : Holds S L) : TagOK S := fun x hx => by
  obtain ⟨s, _, h1, _⟩ := h.left hx
  rw [h1]
  split <;> omega

/-- The document's plain Book: Say. -/
def sayR (L : List ST) (s : ByteArray) : (Int × Int × Int) × List ST :=
  match (refRead s).1 with
  | none => ((0, (refRead s).2.1, (refRead s).2.2), L)
  | some x => if 40 ≤ L.length ∨ 100 < (termsR (L ++ [x])).length then ((0, 4, 0), L) else (((L.length : Nat), 0, 0), L ++ [x])
def followsR (L : List ST) (s : ByteArray) : Bool × Int × Int :=
  match (refRead s).1 with
  | none => (false, (refRead s).2.1, (refRead s).2.2)
  | some x => (clashR (L ++ [contraT x]), 0, 0)
/-- What holds of a Book of the program beside the document's. -/
structure Both (S : WS) (L : List ST) : Prop where
  holds : Holds S L
  ok : ∀ s ∈ L, STOK s
  small : SmallL L
  text : TextOK S
  terms : S.shapes.length ≤ 100
  saids : S.said.length ≤ 40
theorem Both.none : Both noWS [] := ⟨Holds.none, fun s hs => (by cases hs), fun s hs => (by cases hs), TextOK.none, by simp [noWS], by simp [noWS]⟩
theorem Both.length {S : WS} {L : List ST} (h : Both S L) : S.said.length = L.length := h.holds.said.length
theorem Both.follows {S : WS} {L : List ST} (h : Both S L) (s : ByteArray) : (followsOf S s).1 = (followsR L s).1 ∧ (followsOf S s).2.1 = (followsR L s).2.1 ∧ ((followsOf S s).2.2 : Int) = (followsR L s).2.2 := by
  obtain ⟨r1, r2⟩ := refRead_eq s
  unfold followsOf followsR
  cases hr : (readOf s).1 with
  | none =>
    rw [r2 hr]
    exact ⟨rfl, rfl, rfl⟩
  | some x =>
    rw [r1 x hr]
    obtain ⟨hn, hz, _⟩ := readOf_small hr
    obtain ⟨o1, _, _⟩ := readOf_ok hr
    refine ⟨?_, rfl, rfl⟩
    have ht := h.terms
    have e1 := h.holds.follows_iff hn (by omega)
    have e2 := clashR_iff (L := L ++ [contraT (eraseS x)]) (fun t ht => by
      simp only [List.mem_append, List.mem_singleton] at ht
      rcases ht with ht | rfl
      · exact h.ok t ht
      · exact o1)
    show followsM S x = clashR (L ++ [contraT (eraseS x)])
    rw [Bool.eq_iff_iff, e1, e2]
theorem Both.say {S : WS} {L : List ST} (h : Both S L) (s : ByteArray) : ((sayOf S s).1.1 : Int) = (sayR L s).1.1 ∧ (sayOf S s).1.2.1 = (sayR L s).1.2.1 ∧ ((sayOf S s).1.2.2 : Int) = (sayR L s).1.2.2 ∧ Both (sayOf S s).2 (sayR L s).2 := by
  obtain ⟨r1, r2⟩ := refRead_eq s
  unfold sayOf sayR
  cases hr : (readOf s).1 with
  | none =>
    rw [r2 hr]
    exact ⟨rfl, rfl, rfl, h⟩
  | some x =>
    rw [r1 x hr]
    obtain ⟨hn, hz, _⟩ := readOf_small hr
    obtain ⟨o1, o2, o3⟩ := readOf_ok hr
    have ht := h.terms
    have hl := h.length
    have hok : ∀ t ∈ L ++ [eraseS x], STOK t := fun t ht => by
      simp only [List.mem_append, List.mem_singleton] at ht
      rcases ht with ht | rfl
      · exact h.ok t ht
      · exact o1
    have H1 := h.holds.say hn (by omega)
    have hc := H1.count hok
    simp only
    rw [hl, hc]
    by_cases h40 : 40 ≤ L.length
    · rw [if_pos h40, if_pos (.inl h40)]
      exact ⟨rfl, rfl, rfl, h⟩
    · rw [if_neg h40]
      by_cases h100 : 100 < (termsR (L ++ [eraseS x])).length
      · rw [if_pos h100, if_pos (.inr h100)]
        exact ⟨rfl, rfl, rfl, h⟩
      · rw [if_neg h100, if_neg (by omega)]
        refine ⟨rfl, rfl, rfl, H1, hok, fun t ht => ?_, h.text.say h.holds.fine.web hn (by omega) (by omega) (by omega), by show (sayM S x).shapes.length ≤ 100; omega, ?_⟩
        · simp only [List.mem_append, List.mem_singleton] at ht
          rcases ht with ht | rfl
          · exact h.small t ht
          · rw [sizeS_erase]; exact hz
        · have e := H1.said.length
          simp only [List.length_append, List.length_singleton] at e
          show (sayM S x).said.length ≤ 40
          omega
end Go.Proofs.YtmfkpllnmmfpiaaDoor
