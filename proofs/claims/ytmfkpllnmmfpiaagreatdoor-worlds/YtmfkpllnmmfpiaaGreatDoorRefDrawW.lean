/- RefLaw, RefDraw -/
import Derived.Test.YtmfkpllnmmfpiaaGreatDoorRefScanW
import Derived.Test.YtmfkpllnmmfpiaaGreatDoorRefReadW
namespace Go.Proofs.YtmfkpllnmmfpiaaGreatDoor
open Go.RowKit
def idxT (x : ByteArray) : List Trm → Option Nat
 | [] => none
 | t :: l => if t.text = x then some 0 else (idxT x l).map (· + 1)
theorem idxT_some {x : ByteArray} : ∀ {l : List Trm} {i : Nat}, idxT x l = some i → ∃ t, l[i]? = some t ∧ t.text = x
 | [], i, h => by cases h
 | t :: l, i, h => by
  unfold idxT at h
  split at h
  ·cases h
   exact ⟨t, rfl, ‹_›⟩
  ·obtain ⟨j, hj, rfl⟩ := Option.map_eq_some_iff.1 h
   obtain ⟨u, h1, h2⟩ := idxT_some hj
   exact ⟨u, by simpa using h1, h2⟩
theorem idxT_none {x : ByteArray} : ∀ {l : List Trm}, idxT x l = none → ∀ t ∈ l, t.text ≠ x
 | [], _, t, ht => by cases ht
 | u :: l, h, t, ht => by
  unfold idxT at h
  split at h
  ·cases h
  ·rename_i hne
   have h1 : idxT x l = none := by simpa using h
   simp only [List.mem_cons] at ht
   rcases ht with rfl | ht
   ·exact hne
   ·exact idxT_none h1 t ht
structure TermsOK (l : List Trm) : Prop where
 ok : ∀ t ∈ l, TrmOK t
 nodup : l.Nodup
 parts : ∀ (nm : ByteArray) (ps : List Trm), Trm.node nm ps ∈ l → ∀ p ∈ ps, p ∈ l
theorem nodup_at {α : Type} {l : List α} (h : l.Nodup) {i j : Nat} {x : α} (hi : l[i]? = some x) (hj : l[j]? = some x) : i = j := by
 have h1 := (List.getElem?_eq_some_iff.1 hi)
 have h2 := (List.getElem?_eq_some_iff.1 hj)
 obtain ⟨l1, e1⟩ := h1
 obtain ⟨l2, e2⟩ := h2
 have hp := List.pairwise_iff_getElem.1 h
 rcases Nat.lt_trichotomy i j with h3 | h3 | h3
 ·exact absurd (e1.trans e2.symm) (hp i j l1 l2 h3)
 ·exact h3
 ·exact absurd (e2.trans e1.symm) (hp j i l2 l1 h3)
theorem TermsOK.idx {l : List Trm} (h : TermsOK l) {t : Trm} (ht : TrmOK t) {i : Nat} : idxT t.text l = some i ↔ l[i]? = some t := by
 constructor
 ·intro hi
  obtain ⟨u, h1, h2⟩ := idxT_some hi
  rw [h1, text_inj (h.ok u (List.mem_of_getElem? h1)) ht h2]
 ·intro hi
  cases hq : idxT t.text l with
  | none => exact absurd rfl (idxT_none hq t (List.mem_of_getElem? hi))
  | some j =>
   obtain ⟨u, h1, h2⟩ := idxT_some hq
   rw [text_inj (h.ok u (List.mem_of_getElem? h1)) ht h2] at h1
   rw [nodup_at h.nodup hi h1]
theorem TermsOK.idx_none {l : List Trm} (h : TermsOK l) {t : Trm} (ht : TrmOK t) : idxT t.text l = none ↔ t ∉ l := by
 constructor
 ·exact fun hn hm => idxT_none hn t hm rfl
 ·intro hn
  cases hq : idxT t.text l with
  | none => rfl
  | some j => exact absurd (List.mem_of_getElem? ((h.idx ht).1 hq)) hn
mutual
/-- A term and all its parts are known. -/
def addR : Trm → List Trm → List Trm
 | .node nm ps, W => if (idxT (Trm.node nm ps).text (addRL ps W)).isSome then addRL ps W else addRL ps W ++ [.node nm ps]
def addRL : List Trm → List Trm → List Trm
 | [], W => W
 | p :: ps, W => addRL ps (addR p W)
end
mutual
theorem addR_ok : ∀ (t : Trm) (W : List Trm), TrmOK t → TermsOK W → TermsOK (addR t W) ∧ (∀ x, x ∈ addR t W ↔ x ∈ W ∨ Part x t) ∧ ∃ V, addR t W = W ++ V
 | .node nm ps, W, ht, hW => by
  have hps : ∀ p ∈ ps, TrmOK p := by cases ht with | mk _ h => exact h
  obtain ⟨h1, h2, V, h3⟩ := addRL_ok ps W hps hW
  unfold addR
  by_cases hc : (idxT (Trm.node nm ps).text (addRL ps W)).isSome
  ·rw [if_pos hc]
   have hm : Trm.node nm ps ∈ addRL ps W := by
    obtain ⟨i, hi⟩ := Option.isSome_iff_exists.1 hc
    exact List.mem_of_getElem? ((h1.idx ht).1 hi)
   refine ⟨h1, fun x => ⟨fun hx => ?_, fun hx => ?_⟩, V, h3⟩
   ·rcases (h2 x).1 hx with h | ⟨p, hp, h⟩
    ·exact .inl h
    ·exact .inr (.within hp h)
   ·rcases hx with h | h
    ·exact (h2 x).2 (.inl h)
    ·cases h with
     | self => exact hm
     | within hp h => exact (h2 x).2 (.inr ⟨_, hp, h⟩)
  ·rw [if_neg hc]
   have hn : Trm.node nm ps ∉ addRL ps W := (h1.idx_none ht).1 (by simpa using hc)
   refine ⟨⟨fun t hm => ?_, ?_, fun nm' qs hm p hp => ?_⟩, fun x => ⟨fun hx => ?_, fun hx => ?_⟩, V ++ [.node nm ps], by rw [h3, List.append_assoc]⟩
   ·simp only [List.mem_append, List.mem_singleton] at hm
    rcases hm with hm | rfl
    ·exact h1.ok t hm
    ·exact ht
   ·rw [List.nodup_append]
    exact ⟨h1.nodup, by simp, fun a ha b hb e => by simp only [List.mem_singleton] at hb; subst hb e; exact hn ha⟩
   ·simp only [List.mem_append, List.mem_singleton] at hm ⊢
    rcases hm with hm | hm
    ·exact .inl (h1.parts nm' qs hm p hp)
    ·cases hm
     exact .inl ((h2 p).2 (.inr ⟨p, hp, .self p⟩))
   ·simp only [List.mem_append, List.mem_singleton] at hx
    rcases hx with hx | rfl
    ·rcases (h2 x).1 hx with h | ⟨p, hp, h⟩
     ·exact .inl h
     ·exact .inr (.within hp h)
    ·exact .inr (.self _)
   ·simp only [List.mem_append, List.mem_singleton]
    rcases hx with h | h
    ·exact .inl ((h2 x).2 (.inl h))
    ·cases h with
     | self => exact .inr rfl
     | within hp h => exact .inl ((h2 x).2 (.inr ⟨_, hp, h⟩))
theorem addRL_ok : ∀ (ps : List Trm) (W : List Trm), (∀ p ∈ ps, TrmOK p) → TermsOK W → TermsOK (addRL ps W) ∧ (∀ x, x ∈ addRL ps W ↔ x ∈ W ∨ ∃ p ∈ ps, Part x p) ∧ ∃ V, addRL ps W = W ++ V
 | [], W, _, hW => by
  unfold addRL
  exact ⟨hW, fun x => ⟨.inl, fun h => h.elim id (fun ⟨p, hp, _⟩ => by cases hp)⟩, [], by simp⟩
 | p :: ps, W, hp, hW => by
  obtain ⟨h1, h2, V, h3⟩ := addR_ok p W (hp p (by simp)) hW
  obtain ⟨h4, h5, U, h6⟩ := addRL_ok ps (addR p W) (fun q hq => hp q (by simp [hq])) h1
  unfold addRL
  refine ⟨h4, fun x => ?_, V ++ U, by rw [h6, h3, List.append_assoc]⟩
  rw [h5 x, h2 x]
  simp only [List.mem_cons, exists_eq_or_imp]
  constructor
  ·rintro ((h | h) | h)
   ·exact .inl h
   ·exact .inr (.inl h)
   ·exact .inr (.inr h)
  ·rintro (h | h | h)
   ·exact .inl (.inl h)
   ·exact .inl (.inr h)
   ·exact .inr h
end
def STOK (s : ST) : Prop := TrmOK s.l ∧ TrmOK s.r
def termsR (L : List ST) : List Trm := L.foldl (fun W s => addR s.r (addR s.l W)) []
theorem TermsOK.none : TermsOK [] := ⟨fun t h => (by cases h), List.nodup_nil, fun nm ps h => (by cases h)⟩
theorem termsR_from : ∀ (L : List ST) (W : List Trm), (∀ s ∈ L, STOK s) → TermsOK W → TermsOK (L.foldl (fun W s => addR s.r (addR s.l W)) W) ∧ ∀ x, x ∈ L.foldl (fun W s => addR s.r (addR s.l W)) W ↔ x ∈ W ∨ known L x
 | [], W, _, hW => ⟨hW, fun x => ⟨.inl, fun h => h.elim id (fun ⟨s, hs, _⟩ => by cases hs)⟩⟩
 | s :: L, W, hL, hW => by
  have hs := hL s (by simp)
  obtain ⟨h1, h2, _⟩ := addR_ok s.l W hs.1 hW
  obtain ⟨h3, h4, _⟩ := addR_ok s.r _ hs.2 h1
  obtain ⟨h5, h6⟩ := termsR_from L _ (fun t ht => hL t (by simp [ht])) h3
  refine ⟨h5, fun x => ?_⟩
  rw [List.foldl_cons, h6 x, h4 x, h2 x]
  unfold known
  simp only [List.mem_cons, exists_eq_or_imp]
  constructor
  ·rintro (((h | h) | h) | h)
   ·exact .inl h
   ·exact .inr (.inl (.inl h))
   ·exact .inr (.inl (.inr h))
   ·exact .inr (.inr h)
  ·rintro (h | (h | h) | h)
   ·exact .inl (.inl (.inl h))
   ·exact .inl (.inl (.inr h))
   ·exact .inl (.inr h)
   ·exact .inr h
theorem termsR_ok {L : List ST} (hL : ∀ s ∈ L, STOK s) : TermsOK (termsR L) ∧ ∀ x, x ∈ termsR L ↔ known L x := by
 obtain ⟨h1, h2⟩ := termsR_from L [] hL TermsOK.none
 exact ⟨h1, fun x => by rw [show (x ∈ termsR L ↔ _) from h2 x]; simp⟩
theorem Holds.count {S : WS} {L : List ST} (h : Holds S L) (hL : ∀ s ∈ L, STOK s) : S.shapes.length = (termsR L).length := by
 obtain ⟨hT, hm⟩ := termsR_ok hL
 apply Nat.le_antisymm
 ·obtain ⟨l, hl, hp⟩ := choose_list (P := fun i j => ∃ t, DenE S t i ∧ (termsR L)[j]? = some t) S.shapes.length (fun i hi => by
   obtain ⟨t, kt, dt⟩ := h.term i hi
   obtain ⟨j, hj⟩ := List.getElem?_of_mem ((hm t).2 kt)
   exact ⟨j, t, dt, hj⟩)
  rw [← hl]
  refine nodup_below _ l (nodup_of fun i j x hi hj => ?_) fun x hx => ?_
  ·obtain ⟨t, d1, e1⟩ := hp i x hi
   obtain ⟨u, d2, e2⟩ := hp j x hj
   rw [e1] at e2
   obtain rfl := Option.some.inj e2
   exact d1.inj h.fine.web.base d2
  ·obtain ⟨i, hi⟩ := List.getElem?_of_mem hx
   obtain ⟨t, _, e⟩ := hp i x hi
   exact (List.getElem?_eq_some_iff.1 e).1
 ·obtain ⟨l, hl, hp⟩ := choose_list (P := fun i j => ∃ t, (termsR L)[i]? = some t ∧ DenE S t j) (termsR L).length (fun i hi => by
   have e := List.getElem?_eq_getElem hi
   obtain ⟨j, hj⟩ := h.num _ ((hm _).1 (List.mem_of_getElem? e))
   exact ⟨j, _, e, hj⟩)
  rw [← hl]
  refine nodup_below _ l (nodup_of fun i j x hi hj => ?_) fun x hx => ?_
  ·obtain ⟨t, e1, d1⟩ := hp i x hi
   obtain ⟨u, e2, d2⟩ := hp j x hj
   rw [d1.fn d2] at e1
   exact nodup_at hT.nodup e1 e2
  ·obtain ⟨i, hi⟩ := List.getElem?_of_mem hx
   obtain ⟨t, _, d⟩ := hp i x hi
   exact d.lt
where
 nodup_of : ∀ {l : List Nat}, (∀ (i j : Nat) (x : Nat), l[i]? = some x → l[j]? = some x → i = j) → l.Nodup
 | [], _ => List.nodup_nil
 | a :: l, h => by
  refine List.nodup_cons.2 ⟨fun hm => ?_, nodup_of fun i j x hi hj => by have := h (i + 1) (j + 1) x (by simpa using hi) (by simpa using hj); omega⟩
  obtain ⟨i, hi⟩ := List.getElem?_of_mem hm
  have := h 0 (i + 1) a (by simp) (by simpa using hi)
  omega
end Go.Proofs.YtmfkpllnmmfpiaaGreatDoor

namespace Go.Proofs.YtmfkpllnmmfpiaaGreatDoor
open Go.RowKit
def clsAt (c : List Nat) (i : Nat) : Nat := c.getD i 0
def joinC (c : List Nat) (a b : Nat) : List Nat := c.map fun x => if x = clsAt c a then clsAt c b else x
theorem joinC_length (c : List Nat) (a b : Nat) : (joinC c a b).length = c.length := by simp [joinC]
theorem joinC_at {c : List Nat} {a b i : Nat} (hi : i < c.length) : clsAt (joinC c a b) i = if clsAt c i = clsAt c a then clsAt c b else clsAt c i := by
 unfold clsAt joinC
 rw [List.getD_eq_getElem?_getD, List.getElem?_map, List.getD_eq_getElem?_getD, List.getElem?_eq_getElem hi]
 rfl
def clsOf (ts : List Trm) (c : List Nat) (t : Trm) : Nat := clsAt c ((idxT t.text ts).getD 0)
def partsSame (ts : List Trm) (c : List Nat) : List Trm → List Trm → Bool
 | [], [] => true
 | p :: ps, q :: qs => if clsOf ts c p = clsOf ts c q then partsSame ts c ps qs else false
 | _, _ => false
def sameR (ts : List Trm) (c : List Nat) : Trm → Trm → Bool
 | .node nm ps, .node nm' qs => if nm = nm' ∧ ps.length = qs.length then partsSame ts c ps qs else false
theorem sameR_node (ts : List Trm) (c : List Nat) (nm nm' : ByteArray) (ps qs : List Trm) : sameR ts c (.node nm ps) (.node nm' qs) = if nm = nm' ∧ ps.length = qs.length then partsSame ts c ps qs else false := rfl
theorem partsSame_iff {ts : List Trm} {c : List Nat} : ∀ {ps qs : List Trm}, ps.length = qs.length → (partsSame ts c ps qs = true ↔ ∀ (i : Nat) (p q : Trm), ps[i]? = some p → qs[i]? = some q → clsOf ts c p = clsOf ts c q)
 | [], [], _ => ⟨fun _ i p q h => by simp at h, fun _ => rfl⟩
 | [], _ :: _, h => by simp at h
 | _ :: _, [], h => by simp at h
 | p :: ps, q :: qs, h => by
  have ih := partsSame_iff (ts := ts) (c := c) (ps := ps) (qs := qs) (by simpa using h)
  unfold partsSame
  by_cases hc : clsOf ts c p = clsOf ts c q
  ·rw [if_pos hc, ih]
   constructor
   ·intro hall i a b ha hb
    cases i with
    | zero => simp only [List.getElem?_cons_zero, Option.some.injEq] at ha hb; subst ha hb; exact hc
    | succ i => exact hall i a b (by simpa using ha) (by simpa using hb)
   ·exact fun hall i a b ha hb => hall (i + 1) a b (by simpa using ha) (by simpa using hb)
  ·rw [if_neg hc]
   exact ⟨fun hf => (by cases hf), fun hall => absurd (hall 0 p q rfl rfl) hc⟩
def pairR (ts : List Trm) (i k : Nat) (c : List Nat × Bool) : List Nat × Bool :=
 if clsAt c.1 i = clsAt c.1 k then c
 else match ts[i]?, ts[k]? with
  | some t, some u => if sameR ts c.1 t u then (joinC c.1 i k, true) else c
  | _, _ => c
def rowR (ts : List Trm) (i : Nat) : Nat → List Nat × Bool → List Nat × Bool
 | 0, c => c
 | k + 1, c => pairR ts i k (rowR ts i k c)
def passR (ts : List Trm) : Nat → List Nat × Bool → List Nat × Bool
 | 0, c => c
 | i + 1, c => rowR ts i i (passR ts i c)
def loopR (ts : List Trm) : Nat → List Nat → List Nat
 | 0, c => c
 | f + 1, c => if (passR ts ts.length (c, false)).2 then loopR ts f (passR ts ts.length (c, false)).1 else (passR ts ts.length (c, false)).1
def eqsR (ts : List Trm) (c : List Nat) (s : ST) : List Nat := if s.eq then joinC c ((idxT s.l.text ts).getD 0) ((idxT s.r.text ts).getD 0) else c
def drawnR (L : List ST) : List Nat := loopR (termsR L) ((termsR L).length + 1) (L.foldl (eqsR (termsR L)) (List.range (termsR L).length))
def kinds (n : Nat) (c : List Nat) : Nat := ((List.range n).filter fun x => decide (x ∈ c)).length
structure ClsOK (L : List ST) (ts : List Trm) (c : List Nat) : Prop where
 len : c.length = ts.length
 lt : ∀ x ∈ c, x < ts.length
 sound : ∀ R, ClosedT L R → ∀ (i j : Nat) (t u : Trm), ts[i]? = some t → ts[j]? = some u → clsAt c i = clsAt c j → R t u
theorem clsAt_mem {c : List Nat} {i : Nat} (h : i < c.length) : clsAt c i ∈ c := by
 unfold clsAt
 rw [List.getD_eq_getElem?_getD, List.getElem?_eq_getElem h]
 exact List.getElem_mem h
theorem ClsOK.join {L : List ST} {ts : List Trm} {c : List Nat} (h : ClsOK L ts c) {a b : Nat} {ta tb : Trm} (ha : ts[a]? = some ta) (hb : ts[b]? = some tb) (hR : ∀ R, ClosedT L R → R ta tb) : ClsOK L ts (joinC c a b) := by
 have la : a < c.length := by rw [h.len]; exact (List.getElem?_eq_some_iff.1 ha).1
 have lb : b < c.length := by rw [h.len]; exact (List.getElem?_eq_some_iff.1 hb).1
 refine ⟨by rw [joinC_length]; exact h.len, fun x hx => ?_, fun R hRc i j t u hi hj e => ?_⟩
 ·unfold joinC at hx
  obtain ⟨y, hy, rfl⟩ := List.mem_map.1 hx
  split
  ·exact h.lt _ (clsAt_mem lb)
  ·exact h.lt y hy
 ·have li : i < c.length := by rw [h.len]; exact (List.getElem?_eq_some_iff.1 hi).1
  have lj : j < c.length := by rw [h.len]; exact (List.getElem?_eq_some_iff.1 hj).1
  rw [joinC_at li, joinC_at lj] at e
  have hab := hR R hRc
  have s := fun (p q : Nat) (x y : Trm) h1 h2 h3 => h.sound R hRc p q x y h1 h2 h3
  by_cases h1 : clsAt c i = clsAt c a
  ·have r1 := s i a t ta hi ha h1
   rw [if_pos h1] at e
   by_cases h2 : clsAt c j = clsAt c a
   ·exact hRc.trans _ _ _ r1 (hRc.symm _ _ (s j a u ta hj ha h2))
   ·rw [if_neg h2] at e
    exact hRc.trans _ _ _ (hRc.trans _ _ _ r1 hab) (s b j tb u hb hj e)
  ·rw [if_neg h1] at e
   by_cases h2 : clsAt c j = clsAt c a
   ·rw [if_pos h2] at e
    exact hRc.trans _ _ _ (s i b t tb hi hb e) (hRc.trans _ _ _ (hRc.symm _ _ hab) (hRc.symm _ _ (s j a u ta hj ha h2)))
   ·rw [if_neg h2] at e
    exact s i j t u hi hj e
theorem joinC_keeps {c : List Nat} {a b i j : Nat} (hi : i < c.length) (hj : j < c.length) (h : clsAt c i = clsAt c j) : clsAt (joinC c a b) i = clsAt (joinC c a b) j := by
 rw [joinC_at hi, joinC_at hj, h]
theorem joinC_one {c : List Nat} {a b : Nat} (ha : a < c.length) (hb : b < c.length) : clsAt (joinC c a b) a = clsAt (joinC c a b) b := by
 rw [joinC_at ha, joinC_at hb, if_pos rfl]
 split
 ·rfl
 ·rfl
theorem filter_less {α : Type} {p q : α → Bool} : ∀ {l : List α}, (∀ x ∈ l, q x = true → p x = true) → (l.filter q).length ≤ (l.filter p).length
 | [], _ => Nat.le_refl _
 | a :: l, h => by
  have ih := filter_less (p := p) (q := q) (l := l) (fun x hx => h x (by simp [hx]))
  by_cases hq : q a = true
  ·have hp := h a (by simp) hq
   simp only [List.filter_cons, hq, hp, if_true, List.length_cons]
   omega
  ·simp only [List.filter_cons, hq, Bool.false_eq_true, if_false]
   split
   ·simp only [List.length_cons]; omega
   ·exact ih
theorem filter_less1 {α : Type} {p q : α → Bool} {a : α} : ∀ {l : List α}, (∀ x ∈ l, q x = true → p x = true) → a ∈ l → p a = true → q a = false → (l.filter q).length < (l.filter p).length
 | b :: l, h, hm, hp, hq => by
  have h' : ∀ x ∈ l, q x = true → p x = true := fun x hx => h x (by simp [hx])
  simp only [List.mem_cons] at hm
  rcases hm with rfl | hm
  ·have ih := filter_less (p := p) (q := q) (l := l) h'
   simp only [List.filter_cons, hp, hq, if_true, Bool.false_eq_true, if_false, List.length_cons]
   omega
  ·have ih := filter_less1 h' hm hp hq
   by_cases hqb : q b = true
   ·have hpb := h b (by simp) hqb
    simp only [List.filter_cons, hqb, hpb, if_true, List.length_cons]
    omega
   ·simp only [List.filter_cons, hqb, Bool.false_eq_true, if_false]
    split
    ·simp only [List.length_cons]; omega
    ·exact ih
theorem kinds_join {L : List ST} {ts : List Trm} {c : List Nat} (h : ClsOK L ts c) {a b : Nat} (ha : a < c.length) (hb : b < c.length) (hne : clsAt c a ≠ clsAt c b) : kinds ts.length (joinC c a b) < kinds ts.length c := by
 have hm : ∀ x, x ∈ joinC c a b → x ∈ c ∧ x ≠ clsAt c a := fun x hx => by
  unfold joinC at hx
  obtain ⟨y, hy, rfl⟩ := List.mem_map.1 hx
  split
  ·exact ⟨clsAt_mem hb, fun e => hne e.symm⟩
  ·exact ⟨hy, ‹_›⟩
 refine filter_less1 (a := clsAt c a) (fun x _ hx => ?_) (List.mem_range.2 (h.lt _ (clsAt_mem ha))) (by simpa using clsAt_mem ha) (by simpa using fun hx => (hm _ hx).2 rfl)
 simp only [decide_eq_true_eq] at hx ⊢
 exact (hm x hx).1
theorem same_drawn {L : List ST} {ts : List Trm} {c : List Nat} (hT : TermsOK ts) (hk : ∀ t ∈ ts, known L t) (h : ClsOK L ts c) {t u : Trm} (ht : t ∈ ts) (hu : u ∈ ts) (hs : sameR ts c t u = true) : ∀ R, ClosedT L R → R t u := fun R hR => by
 obtain ⟨nm, ps⟩ := t
 obtain ⟨nm', qs⟩ := u
 rw [sameR_node] at hs
 split at hs
 ·rename_i hc
  obtain ⟨rfl, hl⟩ := hc
  refine hR.cong nm ps qs (hk _ ht) (hk _ hu) hl fun i p q hp hq => ?_
  have hmp := hT.parts _ _ ht p (List.mem_of_getElem? hp)
  have hmq := hT.parts _ _ hu q (List.mem_of_getElem? hq)
  have e := (partsSame_iff hl).1 hs i p q hp hq
  obtain ⟨a, ha⟩ := List.getElem?_of_mem hmp
  obtain ⟨b, hb⟩ := List.getElem?_of_mem hmq
  have e1 := (hT.idx (hT.ok p hmp)).2 ha
  have e2 := (hT.idx (hT.ok q hmq)).2 hb
  unfold clsOf at e
  rw [e1, e2] at e
  exact h.sound R hR a b p q ha hb e
 ·cases hs
structure Passed (L : List ST) (ts : List Trm) (c d : List Nat × Bool) : Prop where
 ok : ClsOK L ts c.1 → ClsOK L ts d.1
 keep : ∀ i j, i < ts.length → j < ts.length → ClsOK L ts c.1 → clsAt c.1 i = clsAt c.1 j → clsAt d.1 i = clsAt d.1 j
 turned : c.2 = true → d.2 = true
 same : d.2 = false → d = c
 less : ClsOK L ts c.1 → kinds ts.length d.1 ≤ kinds ts.length c.1
 less1 : ClsOK L ts c.1 → c.2 = false → d.2 = true → kinds ts.length d.1 < kinds ts.length c.1
theorem Passed.refl (L : List ST) (ts : List Trm) (c : List Nat × Bool) : Passed L ts c c := ⟨id, fun _ _ _ _ _ h => h, id, fun _ => rfl, fun _ => Nat.le_refl _, fun _ h1 h2 => by rw [h1] at h2; cases h2⟩
theorem Passed.trans {L : List ST} {ts : List Trm} {c d e : List Nat × Bool} (h : Passed L ts c d) (k : Passed L ts d e) : Passed L ts c e := by
 refine ⟨fun o => k.ok (h.ok o), fun i j hi hj o q => k.keep i j hi hj (h.ok o) (h.keep i j hi hj o q), fun q => k.turned (h.turned q), fun q => ?_, fun o => Nat.le_trans (k.less (h.ok o)) (h.less o), fun o q1 q2 => ?_⟩
 ·have e1 := k.same q
  rw [e1] at q ⊢
  exact h.same q
 ·cases hd : d.2 with
  | true => exact Nat.lt_of_le_of_lt (k.less (h.ok o)) (h.less1 o q1 hd)
  | false =>
   have e1 := h.same hd
   rw [e1] at k
   exact k.less1 o q1 q2
theorem pairR_passed {L : List ST} {ts : List Trm} (hT : TermsOK ts) (hk : ∀ t ∈ ts, known L t) (i k : Nat) (c : List Nat × Bool) : Passed L ts c (pairR ts i k c) := by
 unfold pairR
 split
 ·exact Passed.refl L ts c
 ·rename_i hne
  split
  ·rename_i t u hi hj
   split
   ·rename_i hs
    refine ⟨fun o => o.join hi hj (same_drawn hT hk o (List.mem_of_getElem? hi) (List.mem_of_getElem? hj) hs), fun a b ha hb o e => joinC_keeps (by rw [o.len]; exact ha) (by rw [o.len]; exact hb) e, fun _ => rfl, fun h => (by cases h), fun o => Nat.le_of_lt ?_, fun o _ _ => ?_⟩
    ·exact kinds_join o (by rw [o.len]; exact (List.getElem?_eq_some_iff.1 hi).1) (by rw [o.len]; exact (List.getElem?_eq_some_iff.1 hj).1) hne
    ·exact kinds_join o (by rw [o.len]; exact (List.getElem?_eq_some_iff.1 hi).1) (by rw [o.len]; exact (List.getElem?_eq_some_iff.1 hj).1) hne
   ·exact Passed.refl L ts c
  ·exact Passed.refl L ts c
theorem rowR_passed {L : List ST} {ts : List Trm} (hT : TermsOK ts) (hk : ∀ t ∈ ts, known L t) (i : Nat) : ∀ k c, Passed L ts c (rowR ts i k c)
 | 0, c => Passed.refl L ts c
 | k + 1, c => (rowR_passed hT hk i k c).trans (pairR_passed hT hk i k _)
theorem passR_passed {L : List ST} {ts : List Trm} (hT : TermsOK ts) (hk : ∀ t ∈ ts, known L t) : ∀ i c, Passed L ts c (passR ts i c)
 | 0, c => Passed.refl L ts c
 | i + 1, c => (passR_passed hT hk i c).trans (rowR_passed hT hk i i _)
def Still (ts : List Trm) (c : List Nat) : Prop := ∀ (i k : Nat) (t u : Trm), k < i → ts[i]? = some t → ts[k]? = some u → clsAt c i = clsAt c k ∨ sameR ts c t u = false
theorem rowR_still {L : List ST} {ts : List Trm} (hT : TermsOK ts) (hk : ∀ t ∈ ts, known L t) (i : Nat) : ∀ (m : Nat) (c : List Nat), (rowR ts i m (c, false)).2 = false → ∀ (k : Nat) (t u : Trm), k < m → ts[i]? = some t → ts[k]? = some u → clsAt c i = clsAt c k ∨ sameR ts c t u = false
 | 0, _, _, k, _, _, hkm, _, _ => absurd hkm (Nat.not_lt_zero _)
 | m + 1, c, h, k, t, u, hkm, hi, hj => by
  have hP := pairR_passed (L := L) hT hk i m (rowR ts i m (c, false))
  have h1 : pairR ts i m (rowR ts i m (c, false)) = rowR ts i m (c, false) := hP.same h
  have h2 : (rowR ts i m (c, false)).2 = false := by rw [← h1]; exact h
  by_cases e : k < m
  ·exact rowR_still (L := L) hT hk i m c h2 k t u e hi hj
  ·obtain rfl : k = m := by omega
   have h3 := (rowR_passed (L := L) hT hk i k (c, false)).same h2
   have h4 : (pairR ts i k (c, false)).2 = false := by rw [h3] at h1; rw [h1]
   unfold pairR at h4
   by_cases hc : clsAt c i = clsAt c k
   ·exact .inl hc
   ·right
    rw [if_neg hc, hi, hj] at h4
    simp only at h4
    cases hs : sameR ts c t u with
    | false => rfl
    | true => rw [hs] at h4; simp at h4
theorem passR_still {L : List ST} {ts : List Trm} (hT : TermsOK ts) (hk : ∀ t ∈ ts, known L t) : ∀ (m : Nat) (c : List Nat), (passR ts m (c, false)).2 = false → ∀ (i k : Nat) (t u : Trm), i < m → k < i → ts[i]? = some t → ts[k]? = some u → clsAt c i = clsAt c k ∨ sameR ts c t u = false
 | 0, _, _, i, _, _, _, him, _, _, _ => absurd him (Nat.not_lt_zero _)
 | m + 1, c, h, i, k, t, u, him, hki, hi, hj => by
  have hP := rowR_passed (L := L) hT hk m m (passR ts m (c, false))
  have h1 : rowR ts m m (passR ts m (c, false)) = passR ts m (c, false) := hP.same h
  have h2 : (passR ts m (c, false)).2 = false := by rw [← h1]; exact h
  by_cases e : i < m
  ·exact passR_still (L := L) hT hk m c h2 i k t u e hki hi hj
  ·obtain rfl : i = m := by omega
   have h3 := (passR_passed (L := L) hT hk i (c, false)).same h2
   exact rowR_still (L := L) hT hk i i c (by rw [h3] at h1; rw [h1]) k t u hki hi hj
theorem loopR_end {L : List ST} {ts : List Trm} (hT : TermsOK ts) (hk : ∀ t ∈ ts, known L t) : ∀ (f : Nat) (c : List Nat), ClsOK L ts c → kinds ts.length c < f → ClsOK L ts (loopR ts f c) ∧ Still ts (loopR ts f c) ∧ ∀ i j, i < ts.length → j < ts.length → clsAt c i = clsAt c j → clsAt (loopR ts f c) i = clsAt (loopR ts f c) j
 | 0, _, _, h => absurd h (Nat.not_lt_zero _)
 | f + 1, c, h, hf => by
  have hP := passR_passed (L := L) hT hk ts.length (c, false)
  have ho := hP.ok h
  unfold loopR
  by_cases ht : (passR ts ts.length (c, false)).2 = true
  ·rw [if_pos ht]
   have hl := hP.less1 h rfl ht
   obtain ⟨a, b, d⟩ := loopR_end hT hk f (passR ts ts.length (c, false)).1 ho (by simp only at hl; omega)
   exact ⟨a, b, fun i j hi hj e => d i j hi hj (hP.keep i j hi hj h e)⟩
  ·rw [if_neg ht]
   have ht' : (passR ts ts.length (c, false)).2 = false := by simpa using ht
   have e := hP.same ht'
   rw [e]
   refine ⟨h, fun i k t u hki hi hj => ?_, fun i j _ _ q => q⟩
   exact passR_still (L := L) hT hk ts.length c ht' i k t u (List.getElem?_eq_some_iff.1 hi).1 hki hi hj
theorem kinds_le (n : Nat) (c : List Nat) : kinds n c ≤ n := by
 unfold kinds
 have := List.length_filter_le (fun x => decide (x ∈ c)) (List.range n)
 simpa using this
theorem eqsR_end {L : List ST} {ts : List Trm} (hT : TermsOK ts) (hk : ∀ t, t ∈ ts ↔ known L t) : ∀ (M : List ST) (c : List Nat), (∀ s ∈ M, s ∈ L) → (∀ s ∈ M, STOK s) → ClsOK L ts c → ClsOK L ts (M.foldl (eqsR ts) c) ∧ (∀ i j, i < ts.length → j < ts.length → clsAt c i = clsAt c j → clsAt (M.foldl (eqsR ts) c) i = clsAt (M.foldl (eqsR ts) c) j) ∧ ∀ s ∈ M, s.eq = true → clsOf ts (M.foldl (eqsR ts) c) s.l = clsOf ts (M.foldl (eqsR ts) c) s.r
 | [], c, _, _, h => ⟨h, fun _ _ _ _ e => e, fun s hs => by cases hs⟩
 | s :: M, c, hM, hO, h => by
  have hs := hM s (by simp)
  have hso := hO s (by simp)
  obtain ⟨a, ha⟩ := List.getElem?_of_mem ((hk s.l).2 ⟨s, hs, .inl (.self _)⟩)
  obtain ⟨b, hb⟩ := List.getElem?_of_mem ((hk s.r).2 ⟨s, hs, .inr (.self _)⟩)
  have la := (List.getElem?_eq_some_iff.1 ha).1
  have lb := (List.getElem?_eq_some_iff.1 hb).1
  have ea := (hT.idx hso.1).2 ha
  have eb := (hT.idx hso.2).2 hb
  have h1 : ClsOK L ts (eqsR ts c s) := by
   unfold eqsR
   split
   ·rw [ea, eb]
    exact h.join ha hb fun R hR => hR.said s hs ‹_›
   ·exact h
  have h2 : ∀ i j, i < ts.length → j < ts.length → clsAt c i = clsAt c j → clsAt (eqsR ts c s) i = clsAt (eqsR ts c s) j := fun i j hi hj e => by
   unfold eqsR
   split
   ·exact joinC_keeps (by rw [h.len]; exact hi) (by rw [h.len]; exact hj) e
   ·exact e
  obtain ⟨k1, k2, k3⟩ := eqsR_end hT hk M (eqsR ts c s) (fun t ht => hM t (by simp [ht])) (fun t ht => hO t (by simp [ht])) h1
  refine ⟨k1, fun i j hi hj e => k2 i j hi hj (h2 i j hi hj e), fun t ht he => ?_⟩
  simp only [List.mem_cons] at ht
  rcases ht with rfl | ht
  ·rw [List.foldl_cons]
   unfold clsOf
   rw [ea, eb]
   refine k2 a b la lb ?_
   unfold eqsR
   rw [if_pos he, ea, eb]
   exact joinC_one (by rw [h.len]; exact la) (by rw [h.len]; exact lb)
  ·exact k3 t ht he
theorem rangeC_ok (L : List ST) (ts : List Trm) : ClsOK L ts (List.range ts.length) := by
 refine ⟨by simp, fun x hx => List.mem_range.1 hx, fun R hR i j t u hi hj e => ?_⟩
 have li := (List.getElem?_eq_some_iff.1 hi).1
 have lj := (List.getElem?_eq_some_iff.1 hj).1
 unfold clsAt at e
 rw [List.getD_eq_getElem?_getD, List.getElem?_range li, List.getD_eq_getElem?_getD, List.getElem?_range lj] at e
 simp only [Option.getD_some] at e
 subst e
 rw [hi] at hj
 obtain rfl := Option.some.inj hj
 exact hR.refl _
theorem drawnR_iff {L : List ST} (hL : ∀ s ∈ L, STOK s) {i j : Nat} {t u : Trm} (hi : (termsR L)[i]? = some t) (hj : (termsR L)[j]? = some u) : clsAt (drawnR L) i = clsAt (drawnR L) j ↔ EqT L t u := by
 obtain ⟨hT, hk⟩ := termsR_ok hL
 have hk' : ∀ t ∈ termsR L, known L t := fun t ht => (hk t).1 ht
 obtain ⟨e1, e2, e3⟩ := eqsR_end hT hk L (List.range (termsR L).length) (fun s hs => hs) hL (rangeC_ok L (termsR L))
 obtain ⟨l1, l2, l3⟩ := loopR_end hT hk' ((termsR L).length + 1) _ e1 (by have := kinds_le (termsR L).length (L.foldl (eqsR (termsR L)) (List.range (termsR L).length)); omega)
 have hd : loopR (termsR L) ((termsR L).length + 1) (L.foldl (eqsR (termsR L)) (List.range (termsR L).length)) = drawnR L := rfl
 rw [hd] at l1 l2 l3
 constructor
 ·exact fun e R hR => l1.sound R hR i j t u hi hj e
 ·intro h
  have hc : ClosedT L (fun t u => t = u ∨ ∃ i j, (termsR L)[i]? = some t ∧ (termsR L)[j]? = some u ∧ clsAt (drawnR L) i = clsAt (drawnR L) j) := by
   refine ⟨fun t => .inl rfl, fun t u h => ?_, fun t u v h k => ?_, fun s hs he => ?_, fun nm ps qs k1 k2 hl hp => ?_⟩
   ·rcases h with rfl | ⟨i, j, a, b, e⟩
    ·exact .inl rfl
    ·exact .inr ⟨j, i, b, a, e.symm⟩
   ·rcases h with rfl | ⟨i, j, a, b, e⟩
    ·exact k
    ·rcases k with rfl | ⟨j', k', a', b', e'⟩
     ·exact .inr ⟨i, j, a, b, e⟩
     ·obtain rfl := nodup_at hT.nodup b a'
      exact .inr ⟨i, k', a, b', e.trans e'⟩
   ·obtain ⟨a, ha⟩ := List.getElem?_of_mem ((hk s.l).2 ⟨s, hs, .inl (.self _)⟩)
    obtain ⟨b, hb⟩ := List.getElem?_of_mem ((hk s.r).2 ⟨s, hs, .inr (.self _)⟩)
    have h3 := e3 s hs he
    unfold clsOf at h3
    rw [(hT.idx (hL s hs).1).2 ha, (hT.idx (hL s hs).2).2 hb] at h3
    exact .inr ⟨a, b, ha, hb, l3 a b (List.getElem?_eq_some_iff.1 ha).1 (List.getElem?_eq_some_iff.1 hb).1 h3⟩
   ·obtain ⟨a, ha⟩ := List.getElem?_of_mem ((hk _).2 k1)
    obtain ⟨b, hb⟩ := List.getElem?_of_mem ((hk _).2 k2)
    have hcls : ∀ (i : Nat) (p q : Trm), ps[i]? = some p → qs[i]? = some q → clsOf (termsR L) (drawnR L) p = clsOf (termsR L) (drawnR L) q := fun i p q hp1 hq1 => by
     have mp := hT.parts _ _ (List.mem_of_getElem? ha) p (List.mem_of_getElem? hp1)
     have mq := hT.parts _ _ (List.mem_of_getElem? hb) q (List.mem_of_getElem? hq1)
     rcases hp i p q hp1 hq1 with rfl | ⟨x, y, h1, h2, h3⟩
     ·rfl
     ·unfold clsOf
      rw [(hT.idx (hT.ok p mp)).2 h1, (hT.idx (hT.ok q mq)).2 h2]
      exact h3
    have hs1 : sameR (termsR L) (drawnR L) (.node nm ps) (.node nm qs) = true := by
     rw [sameR_node, if_pos ⟨rfl, hl⟩]
     exact (partsSame_iff hl).2 hcls
    have hs2 : sameR (termsR L) (drawnR L) (.node nm qs) (.node nm ps) = true := by
     rw [sameR_node, if_pos ⟨rfl, hl.symm⟩]
     exact (partsSame_iff hl.symm).2 fun i p q hp1 hq1 => (hcls i q p hq1 hp1).symm
    refine .inr ⟨a, b, ha, hb, ?_⟩
    rcases Nat.lt_trichotomy a b with h3 | h3 | h3
    ·rcases l2 b a _ _ h3 hb ha with h4 | h4
     ·exact h4.symm
     ·rw [hs2] at h4; cases h4
    ·rw [h3]
    ·rcases l2 a b _ _ h3 ha hb with h4 | h4
     ·exact h4
     ·rw [hs1] at h4; cases h4
  rcases h _ hc with rfl | ⟨a, b, h1, h2, h3⟩
  ·rw [nodup_at hT.nodup hi hj]
  ·rw [nodup_at hT.nodup hi h1, nodup_at hT.nodup hj h2]
   exact h3
end Go.Proofs.YtmfkpllnmmfpiaaGreatDoor
