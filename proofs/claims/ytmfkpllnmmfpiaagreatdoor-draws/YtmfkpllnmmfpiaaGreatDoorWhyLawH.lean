/-
  Plain: what follows, without numbers: terms, closed relations between them; that a Web draws just that.
-/
import Derived.Test.YtmfkpllnmmfpiaaGreatDoorPowLawH
import Derived.Test.YtmfkpllnmmfpiaaGreatDoorBookSayH
namespace Go.Proofs.YtmfkpllnmmfpiaaGreatDoor
open Go.RowKit

/-- A term, without its place in a text. -/
inductive Trm where
  | node (name : ByteArray) (parts : List Trm) : Trm
def erase : (n : Nat) → Tm n → Trm
  | 0, t => nomatch t
  | n + 1, t => .node t.name (t.parts.map (erase n))
/-- A term lies in another one, or is it. -/
inductive Part : Trm → Trm → Prop where
  | self (t : Trm) : Part t t
  | within {nm : ByteArray} {ps : List Trm} {p t : Trm} : p ∈ ps → Part t p → Part t (.node nm ps)
theorem Part.trans {a b c : Trm} (h : Part a b) (k : Part b c) : Part a c := by
  induction k with
  | self _ => exact h
  | within hm _ ih => exact .within hm (ih h)

/-- A sentence: is it one with = ? Its sides. -/
structure ST where
  eq : Bool
  l : Trm
  r : Trm
def known (L : List ST) (t : Trm) : Prop := ∃ s ∈ L, Part t s.l ∨ Part t s.r
/-- A relation that is closed under what is said and under equal parts. -/
structure ClosedT (L : List ST) (R : Trm → Trm → Prop) : Prop where
  refl : ∀ t, R t t
  symm : ∀ t u, R t u → R u t
  trans : ∀ t u v, R t u → R u v → R t v
  said : ∀ s ∈ L, s.eq = true → R s.l s.r
  cong : ∀ (nm : ByteArray) (ps qs : List Trm), known L (.node nm ps) → known L (.node nm qs) → ps.length = qs.length → (∀ (i : Nat) (p q : Trm), ps[i]? = some p → qs[i]? = some q → R p q) → R (.node nm ps) (.node nm qs)
def EqT (L : List ST) (t u : Trm) : Prop := ∀ R, ClosedT L R → R t u
def ClashT (L : List ST) : Prop := ∃ s ∈ L, s.eq = false ∧ EqT L s.l s.r
theorem known.mono {L M : List ST} (h : ∀ s ∈ L, s ∈ M) {t : Trm} (k : known L t) : known M t := let ⟨s, hs, hp⟩ := k; ⟨s, h s hs, hp⟩
theorem ClosedT.mono {L M : List ST} (h : ∀ s ∈ L, s ∈ M) {R : Trm → Trm → Prop} (k : ClosedT M R) : ClosedT L R :=
  ⟨k.refl, k.symm, k.trans, fun s hs => k.said s (h s hs), fun nm ps qs k1 k2 => k.cong nm ps qs (k1.mono h) (k2.mono h)⟩
theorem EqT.mono {L M : List ST} (h : ∀ s ∈ L, s ∈ M) {t u : Trm} (k : EqT L t u) : EqT M t u := fun R hR => k R (hR.mono h)
theorem ClashT.mono {L M : List ST} (h : ∀ s ∈ L, s ∈ M) (k : ClashT L) : ClashT M := let ⟨s, hs, h0, he⟩ := k; ⟨s, h s hs, h0, he.mono h⟩

/-- The number i stands for the term. -/
inductive DenE (S : WS) : Trm → Nat → Prop where
  | mk {nm : ByteArray} {ps : List Trm} {ks : List Nat} {i : Nat} : S.shapes[i]? = some (shapeOf nm ks) → ps.length = ks.length → ks.length ≤ 3 → (∀ (j : Nat) (p : Trm) (k : Nat), ps[j]? = some p → ks[j]? = some k → DenE S p k) → DenE S (.node nm ps) i
theorem DenE.mono {S T : WS} (h : ∀ (i : Nat) (s : Sh), S.shapes[i]? = some s → T.shapes[i]? = some s) {t : Trm} {i : Nat} (k : DenE S t i) : DenE T t i := by
  induction k with
  | mk h1 h2 h3 _ ih => exact .mk (h _ _ h1) h2 h3 ih
theorem DenE.lt {S : WS} {t : Trm} {i : Nat} (h : DenE S t i) : i < S.shapes.length := by
  cases h with
  | mk h1 _ _ _ => exact (List.getElem?_eq_some_iff.1 h1).1
theorem AllIs.at {α β : Type} {R : α → β → Prop} : ∀ {xs : List α} {ys : List β}, AllIs R xs ys → ∀ (j : Nat) (a : α) (b : β), xs[j]? = some a → ys[j]? = some b → R a b
  | x :: _, y :: _, h, 0, a, b, ha, hb => by
    simp only [List.getElem?_cons_zero, Option.some.injEq] at ha hb
    subst ha hb
    exact h.1
  | _ :: _, _ :: _, h, j + 1, a, b, ha, hb => AllIs.at h.2 j a b (by simpa using ha) (by simpa using hb)
  | [], [], _, j, _, _, ha, _ => by simp at ha
  | [], _ :: _, h, _, _, _, _, _ => h.elim
  | _ :: _, [], h, _, _, _, _, _ => h.elim
theorem AllIs.fromR {α β : Type} {R : α → β → Prop} : ∀ {xs : List α} {ys : List β}, AllIs R xs ys → ∀ y ∈ ys, ∃ x ∈ xs, R x y
  | x :: _, y :: _, h, b, hb => by
    simp only [List.mem_cons] at hb
    rcases hb with rfl | hb
    · exact ⟨x, by simp, h.1⟩
    · obtain ⟨a, ha, hr⟩ := AllIs.fromR h.2 b hb
      exact ⟨a, by simp [ha], hr⟩
  | [], [], _, _, hb => by cases hb
  | [], _ :: _, h, _, _ => h.elim
  | _ :: _, [], h, _, _ => h.elim
theorem AllIs.fromL {α β : Type} {R : α → β → Prop} : ∀ {xs : List α} {ys : List β}, AllIs R xs ys → ∀ x ∈ xs, ∃ y ∈ ys, R x y
  | x :: _, y :: _, h, b, hb => by
    simp only [List.mem_cons] at hb
    rcases hb with rfl | hb
    · exact ⟨y, by simp, h.1⟩
    · obtain ⟨a, ha, hr⟩ := AllIs.fromL h.2 b hb
      exact ⟨a, by simp [ha], hr⟩
  | [], [], _, _, hb => by cases hb
  | [], _ :: _, h, _, _ => h.elim
  | _ :: _, [], h, _, _ => h.elim
theorem Den.erase {S : WS} : ∀ {n : Nat} {t : Tm n} {i : Nat}, Narrow n t → Den S n t i → DenE S (Go.Proofs.YtmfkpllnmmfpiaaGreatDoor.erase n t) i
  | 0, _, _, _, h => h.elim
  | n + 1, t, i, hn, ⟨ks, h1, h2⟩ => by
    have hl := h2.length
    refine .mk h1 (by simpa using hl) (by rw [← hl]; exact hn.2.1) fun j p k hp hk => ?_
    rw [List.getElem?_map] at hp
    obtain ⟨x, hx, rfl⟩ := Option.map_eq_some_iff.1 hp
    exact Den.erase (allOf_mem hn.2.2 (List.mem_of_getElem? hx)) (h2.at j x k hx hk)
theorem DenE.part {S : WS} {t u : Trm} (hp : Part u t) : ∀ {i : Nat}, DenE S t i → ∃ j, DenE S u j := by
  induction hp with
  | self _ => exact fun {i} h => ⟨i, h⟩
  | within hm _ ih =>
    intro i h
    cases h with
    | mk h1 h2 _ h4 =>
      obtain ⟨j, hj⟩ := List.getElem?_of_mem hm
      have hlt := (List.getElem?_eq_some_iff.1 hj).1
      rw [h2] at hlt
      exact ih (h4 j _ _ hj (List.getElem?_eq_getElem hlt))
theorem list_ext {α : Type} {l m : List α} (hl : l.length = m.length) (h : ∀ (j : Nat) (a b : α), l[j]? = some a → m[j]? = some b → a = b) : l = m := by
  refine List.ext_getElem? fun j => ?_
  by_cases hj : j < l.length
  · have hj' : j < m.length := by omega
    rw [List.getElem?_eq_getElem hj, List.getElem?_eq_getElem hj', h j _ _ (List.getElem?_eq_getElem hj) (List.getElem?_eq_getElem hj')]
  · rw [List.getElem?_eq_none (by omega), List.getElem?_eq_none (by omega)]
theorem DenE.inj {S : WS} (hB : Base S) {t : Trm} {i : Nat} (h : DenE S t i) : ∀ {j : Nat}, DenE S t j → i = j := by
  induction h with
  | @mk nm ps ks i h1 h2 h3 _ ih =>
    intro j k
    cases k with
    | @mk _ _ ls _ g1 g2 g3 g4 =>
      have e : ks = ls := list_ext (by omega) (fun n a b ha hb => by
        have hn := (List.getElem?_eq_some_iff.1 ha).1
        rw [← h2] at hn
        have hp := List.getElem?_eq_getElem hn
        exact ih n _ a hp ha (g4 n _ b hp hb))
      subst e
      exact hB.inj h1 g1
theorem shapeOf_inj {nm nm' : ByteArray} {ks ls : List Nat} (hk : ks.length ≤ 3) (h : shapeOf nm ks = shapeOf nm' ls) : nm = nm' ∧ ks = ls := by
  unfold shapeOf at h
  simp only [Prod.mk.injEq] at h
  obtain ⟨h0, h1, h2, h3, h4⟩ := h
  refine ⟨h0, list_ext h1 fun j a b ha hb => ?_⟩
  have hj := (List.getElem?_eq_some_iff.1 ha).1
  rw [List.getD_eq_getElem?_getD, List.getD_eq_getElem?_getD] at h2 h3 h4
  match j, hj with
  | 0, _ => rw [ha, hb] at h2; exact h2
  | 1, _ => rw [ha, hb] at h3; exact h3
  | 2, _ => rw [ha, hb] at h4; exact h4
  | j + 3, hj => omega
theorem DenE.fn {S : WS} {t : Trm} {i : Nat} (h : DenE S t i) : ∀ {u : Trm}, DenE S u i → t = u := by
  induction h with
  | mk h1 h2 h3 _ ih =>
    intro u k
    cases k with
    | mk g1 g2 g3 g4 =>
      rw [h1] at g1
      obtain ⟨rfl, rfl⟩ := shapeOf_inj h3 (Option.some.inj g1)
      congr 1
      exact list_ext (by omega) (fun n a b ha hb => by
        have hn := (List.getElem?_eq_some_iff.1 ha).1
        rw [h2] at hn
        have hp := List.getElem?_eq_getElem hn
        exact ih n a _ ha hp (g4 n b _ hb hp))

/-- A Web in which just these sentences are said. -/
structure Holds (S : WS) (L : List ST) : Prop where
  fine : Fine S
  num : ∀ t, known L t → ∃ i, DenE S t i
  term : ∀ i, i < S.shapes.length → ∃ t, known L t ∧ DenE S t i
  said : AllIs (fun (x : Nat × Nat × Nat) (s : ST) => x.1 = (if s.eq then 0 else 1) ∧ DenE S s.l x.2.1 ∧ DenE S s.r x.2.2) S.said L

theorem Holds.left {S : WS} {L : List ST} (h : Holds S L) {x : Nat × Nat × Nat} (hx : x ∈ S.said) : ∃ s ∈ L, x.1 = (if s.eq then 0 else 1) ∧ DenE S s.l x.2.1 ∧ DenE S s.r x.2.2 := h.said.fromL x hx
theorem known.part {L : List ST} {nm : ByteArray} {ps : List Trm} (h : known L (.node nm ps)) {p : Trm} (hp : p ∈ ps) : known L p := by
  obtain ⟨s, hs, h1⟩ := h
  have h2 : Part p (.node nm ps) := .within hp (.self p)
  exact ⟨s, hs, h1.imp (fun h => h2.trans h) (fun h => h2.trans h)⟩
theorem partAt_shapeOf {nm : ByteArray} {ks : List Nat} (h3 : ks.length ≤ 3) {j k : Nat} (hj : ks[j]? = some k) : partAt (shapeOf nm ks) j = k := by
  have hlt := (List.getElem?_eq_some_iff.1 hj).1
  match j, hj, hlt with
  | 0, hj, _ => show ks.getD 0 0 = k; rw [List.getD_eq_getElem?_getD, hj]; rfl
  | 1, hj, _ => show ks.getD 1 0 = k; rw [List.getD_eq_getElem?_getD, hj]; rfl
  | 2, hj, _ => show ks.getD 2 0 = k; rw [List.getD_eq_getElem?_getD, hj]; rfl
  | j + 3, _, hlt => omega

theorem Holds.to_web {S : WS} {L : List ST} (h : Holds S L) {R : Trm → Trm → Prop} (hR : ClosedT L R) : Closed S (fun i j => i = j ∨ ∃ t u, DenE S t i ∧ DenE S u j ∧ R t u) := by
  have hB := h.fine.web.base
  refine ⟨fun i => .inl rfl, fun i j hij => ?_, fun i j k hij hjk => ?_, fun x hx h0 => ?_, fun i j s t hi hj h0 h1 hk => ?_⟩
  · rcases hij with rfl | ⟨t, u, d1, d2, r⟩
    · exact .inl rfl
    · exact .inr ⟨u, t, d2, d1, hR.symm _ _ r⟩
  · rcases hij with rfl | ⟨t, u, d1, d2, r⟩
    · exact hjk
    · rcases hjk with rfl | ⟨u', v, d3, d4, r'⟩
      · exact .inr ⟨t, u, d1, d2, r⟩
      · obtain rfl := d2.fn d3
        exact .inr ⟨t, v, d1, d4, hR.trans _ _ _ r r'⟩
  · obtain ⟨s, hs, e, d1, d2⟩ := h.left hx
    have he : s.eq = true := by
      cases hq : s.eq with
      | true => rfl
      | false => rw [hq] at e; simp at e; omega
    exact .inr ⟨s.l, s.r, d1, d2, hR.said s hs he⟩
  · obtain ⟨a, ka, da⟩ := h.term i (List.getElem?_eq_some_iff.1 hi).1
    obtain ⟨b, kb, db⟩ := h.term j (List.getElem?_eq_some_iff.1 hj).1
    refine .inr ⟨a, b, da, db, ?_⟩
    cases da with
    | mk g1 g2 g3 g4 =>
      cases db with
      | mk f1 f2 f3 f4 =>
        rename_i nm ps ks nm' qs ls
        rw [g1] at hi
        rw [f1] at hj
        obtain rfl := (Option.some.inj hi).symm
        obtain rfl := (Option.some.inj hj).symm
        have h0' : nm = nm' := h0
        have h1' : ks.length = ls.length := h1
        subst h0'
        refine hR.cong nm ps qs ka kb (by omega) fun n p q hp hq => ?_
        have n1 := (List.getElem?_eq_some_iff.1 hp).1
        have n2 := (List.getElem?_eq_some_iff.1 hq).1
        have e1 := List.getElem?_eq_getElem (show n < ks.length by omega)
        have e2 := List.getElem?_eq_getElem (show n < ls.length by omega)
        have d1 := g4 n p _ hp e1
        have d2 := f4 n q _ hq e2
        have hr := hk n (show n < ks.length by omega)
        rw [partAt_shapeOf g3 e1, partAt_shapeOf f3 e2] at hr
        rcases hr with hr | ⟨t, u, d3, d4, r⟩
        · rw [hr] at d1
          obtain rfl := d1.fn d2
          exact hR.refl _
        · obtain rfl := d1.fn d3
          obtain rfl := d2.fn d4
          exact r
theorem Holds.to_terms {S : WS} {L : List ST} (h : Holds S L) : ClosedT L (fun t u => t = u ∨ ∃ i j, DenE S t i ∧ DenE S u j ∧ classAt S i = classAt S j) := by
  have hB := h.fine.web.base
  refine ⟨fun t => .inl rfl, fun t u htu => ?_, fun t u v htu huv => ?_, fun s hs he => ?_, fun nm ps qs k1 k2 hl hp => ?_⟩
  · rcases htu with rfl | ⟨i, j, d1, d2, e⟩
    · exact .inl rfl
    · exact .inr ⟨j, i, d2, d1, e.symm⟩
  · rcases htu with rfl | ⟨i, j, d1, d2, e⟩
    · exact huv
    · rcases huv with rfl | ⟨j', k, d3, d4, e'⟩
      · exact .inr ⟨i, j, d1, d2, e⟩
      · obtain rfl := d2.inj hB d3
        exact .inr ⟨i, k, d1, d4, e.trans e'⟩
  · obtain ⟨x, hx, h0, d1, d2⟩ := h.said.fromR s hs
    rw [if_pos he] at h0
    exact .inr ⟨_, _, d1, d2, h.fine.web.eqs x hx h0⟩
  · obtain ⟨i, di⟩ := h.num _ k1
    obtain ⟨j, dj⟩ := h.num _ k2
    refine .inr ⟨i, j, di, dj, ?_⟩
    have hi := di.lt
    have hj := dj.lt
    have hlen := hB.inv.len
    rw [h.fine.web.eq_iff (by omega) (by omega)]
    intro R hR
    cases di with
    | mk g1 g2 g3 g4 =>
      cases dj with
      | mk f1 f2 f3 f4 =>
        rename_i ks ls
        refine hR.cong i j _ _ g1 f1 rfl (show ks.length = ls.length by omega) fun n hn => ?_
        have hn' : n < ks.length := hn
        have e1 := List.getElem?_eq_getElem hn'
        have e2 := List.getElem?_eq_getElem (show n < ls.length by omega)
        have p1 := List.getElem?_eq_getElem (show n < ps.length by omega)
        have p2 := List.getElem?_eq_getElem (show n < qs.length by omega)
        rw [partAt_shapeOf g3 e1, partAt_shapeOf f3 e2]
        have d1 := g4 n _ _ p1 e1
        have d2 := f4 n _ _ p2 e2
        rcases hp n _ _ p1 p2 with he | ⟨a, b, d3, d4, e⟩
        · rw [he] at d1
          rw [d1.inj hB d2]
          exact hR.refl _
        · obtain rfl := d1.inj hB d3
          obtain rfl := d2.inj hB d4
          exact (h.fine.web.eq_iff (by have := d1.lt; omega) (by have := d2.lt; omega)).1 e R hR
/-- A Web draws just what follows. -/
theorem Holds.eq_iff {S : WS} {L : List ST} (h : Holds S L) {t u : Trm} {i j : Nat} (d1 : DenE S t i) (d2 : DenE S u j) : classAt S i = classAt S j ↔ EqT L t u := by
  have hB := h.fine.web.base
  have hlen := hB.inv.len
  constructor
  · intro he R hR
    have h1 := (h.fine.web.eq_iff (by have := d1.lt; omega) (by have := d2.lt; omega)).1 he _ (h.to_web hR)
    rcases h1 with rfl | ⟨a, b, d3, d4, r⟩
    · obtain rfl := d1.fn d2
      exact hR.refl _
    · obtain rfl := d1.fn d3
      obtain rfl := d2.fn d4
      exact r
  · intro he
    rcases he _ h.to_terms with rfl | ⟨a, b, d3, d4, e⟩
    · rw [d1.inj hB d2]
    · obtain rfl := d1.inj hB d3
      obtain rfl := d2.inj hB d4
      exact e
theorem Holds.clash_iff {S : WS} {L : List ST} (h : Holds S L) : clashM S = true ↔ ClashT L := by
  unfold clashM
  rw [List.any_eq_true]
  constructor
  · rintro ⟨x, hx, hb⟩
    obtain ⟨s, hs, e, d1, d2⟩ := h.left hx
    unfold badOf at hb
    simp only [Bool.and_eq_true, beq_iff_eq] at hb
    refine ⟨s, hs, ?_, (h.eq_iff d1 d2).1 hb.2⟩
    cases hq : s.eq with
    | false => rfl
    | true => rw [hq] at e; simp at e; omega
  · rintro ⟨s, hs, h0, he⟩
    obtain ⟨x, hx, e, d1, d2⟩ := h.said.fromR s hs
    refine ⟨x, hx, ?_⟩
    rw [h0] at e
    unfold badOf
    simp only [Bool.and_eq_true, beq_iff_eq]
    exact ⟨by simpa using e, (h.eq_iff d1 d2).2 he⟩
end Go.Proofs.YtmfkpllnmmfpiaaGreatDoor

/-
  Plain: where one sentence more is said, one sentence more is held; how many terms are known.
-/
namespace Go.Proofs.YtmfkpllnmmfpiaaGreatDoor
open Go.RowKit

/-- A sentence, without places. -/
def eraseS {n : Nat} (x : Snt n) : ST := ⟨x.eq, erase n x.left, erase n x.right⟩
def contraT (s : ST) : ST := { s with eq := !s.eq }
theorem eraseS_contra {n : Nat} (x : Snt n) : eraseS (contra x) = contraT (eraseS x) := rfl

theorem addAll_terms {n : Nat} (ih : ∀ (S : WS) (t : Tm n), Web S → Narrow n t → ∀ i, S.shapes.length ≤ i → i < (addM n S t).2.shapes.length → ∃ u, Part u (erase n t) ∧ DenE (addM n S t).2 u i) :
    ∀ (l : List (Tm n)) (S : WS), Web S → allOf (Narrow n) l → ∀ i, S.shapes.length ≤ i → i < (addAll (addM n) S l).2.shapes.length → ∃ p ∈ l, ∃ u, Part u (erase n p) ∧ DenE (addAll (addM n) S l).2 u i
  | [], S, _, _, i, h1, h2 => by simp only [addAll] at h2; omega
  | x :: l, S, hw, hn, i, h1, h2 => by
    obtain ⟨⟨a1, a2⟩, _⟩ := addM_end n S x hw hn.1
    obtain ⟨⟨b1, b2⟩, _⟩ := addAll_end (den := fun S x i => Den S n x i) (addM_end n) (fun _ _ _ _ hst hd => Den.mono hst hd) l _ a1 hn.2
    by_cases h3 : i < (addM n S x).2.shapes.length
    · obtain ⟨u, hp, hd⟩ := ih S x hw hn.1 i h1 h3
      exact ⟨x, by simp, u, hp, hd.mono b2.shapes⟩
    · obtain ⟨p, hp, u, hu, hd⟩ := addAll_terms ih l _ a1 hn.2 i (by omega) h2
      exact ⟨p, by simp [hp], u, hu, hd⟩
theorem addM_terms : ∀ (n : Nat) (S : WS) (t : Tm n), Web S → Narrow n t → ∀ i, S.shapes.length ≤ i → i < (addM n S t).2.shapes.length → ∃ u, Part u (erase n t) ∧ DenE (addM n S t).2 u i
  | 0, _, _, _, h, _, _, _ => h.elim
  | n + 1, S, t, hw, hn, i, h1, h2 => by
    have hden := (addM_end (n + 1) S t hw hn).2
    have hE := hden.erase hn
    obtain ⟨⟨a1, a2⟩, _⟩ := addAll_end (den := fun S x i => Den S n x i) (addM_end n) (fun _ _ _ _ hst hd => Den.mono hst hd) t.parts S hw hn.2.2
    have hT := addAll_terms (addM_terms n) t.parts S hw hn.2.2 i h1
    have hcase : ((addM (n + 1) S t).2 = (addAll (addM n) S t.parts).2) ∨ ((addM (n + 1) S t) = enterM (addAll (addM n) S t.parts).2 (shapeOf t.name (addAll (addM n) S t.parts).1)) := by
      unfold Go.Proofs.YtmfkpllnmmfpiaaGreatDoor.addM
      simp only
      split
      · exact .inl rfl
      · exact .inr rfl
    rcases hcase with hc | hc
    · rw [hc] at h2 ⊢
      obtain ⟨p, hp, u, hu, hd⟩ := hT h2
      exact ⟨u, .within (List.mem_map.2 ⟨p, hp, rfl⟩) hu, hd⟩
    · have e1 := (a1.base.inv.enter (shapeOf t.name (addAll (addM n) S t.parts).1))
      have hA := a1.base.entered (shapeOf t.name (addAll (addM n) S t.parts).1)
      rw [hc] at h2 hE ⊢
      by_cases h3 : i < (addAll (addM n) S t.parts).2.shapes.length
      · obtain ⟨p, hp, u, hu, hd⟩ := hT h3
        exact ⟨u, .within (List.mem_map.2 ⟨p, hp, rfl⟩) hu, hd.mono hA.shapes⟩
      · have h4 := e1.2.2.1
        obtain rfl : i = (addAll (addM n) S t.parts).2.shapes.length := by omega
        rw [e1.2.1] at hE
        exact ⟨_, .self _, hE⟩

theorem AllIs.snoc1 {α β : Type} {R : α → β → Prop} {xs : List α} {ys : List β} {a : α} {b : β} (h : AllIs R xs ys) (hab : R a b) : AllIs R (xs ++ [a]) (ys ++ [b]) := by
  induction xs generalizing ys with
  | nil =>
    cases ys with
    | nil => exact ⟨hab, trivial⟩
    | cons y ys => exact h.elim
  | cons x xs ih =>
    cases ys with
    | nil => exact h.elim
    | cons y ys => exact ⟨h.1, ih h.2⟩

theorem Holds.none : Holds noWS [] :=
  ⟨noWS_fine, fun t ⟨s, hs, _⟩ => by (cases hs), fun i hi => by simp [noWS] at hi, trivial⟩
theorem Holds.say {S : WS} {L : List ST} (h : Holds S L) {n : Nat} {x : Snt n} (hx : NarrowS x) (hr : S.shapes.length + sizeS x ≤ 400) : Holds (sayM S x) (L ++ [eraseS x]) := by
  have E := sayM_end h.fine.web hx hr
  obtain ⟨i, j, d1, d2, hs⟩ := E.said
  have e1 := d1.erase hx.1
  have e2 := d2.erase hx.2
  obtain ⟨⟨a1, a2⟩, _⟩ := addM_end n S x.left h.fine.web hx.1
  obtain ⟨⟨b1, b2⟩, _⟩ := addM_end n (addM n S x.left).2 x.right a1 hx.2
  have hsh := sayM_shapes h.fine.web hx hr
  refine ⟨⟨E.web, E.pot h.fine.pot⟩, fun t ht => ?_, fun k hk => ?_, ?_⟩
  · obtain ⟨s, hm, hp⟩ := ht
    simp only [List.mem_append, List.mem_singleton] at hm
    rcases hm with hm | rfl
    · obtain ⟨k, hd⟩ := h.num t ⟨s, hm, hp⟩
      exact ⟨k, hd.mono E.shapes⟩
    · rcases hp with hp | hp
      · exact DenE.part hp e1
      · exact DenE.part hp e2
  · have kn : ∀ u, known L u → known (L ++ [eraseS x]) u := fun u hu => hu.mono (by intro s hs; simp [hs])
    have sm : ∀ {u : Trm} {k : Nat}, DenE (addM n (addM n S x.left).2 x.right).2 u k → DenE (sayM S x) u k := fun hd => hd.mono (by rw [hsh]; exact fun _ _ e => e)
    by_cases h1 : k < S.shapes.length
    · obtain ⟨u, hu, hd⟩ := h.term k h1
      exact ⟨u, kn u hu, hd.mono E.shapes⟩
    · rw [hsh] at hk
      by_cases h2 : k < (addM n S x.left).2.shapes.length
      · obtain ⟨u, hu, hd⟩ := addM_terms n S x.left h.fine.web hx.1 k (by omega) h2
        exact ⟨u, ⟨eraseS x, by simp, .inl hu⟩, sm (hd.mono b2.shapes)⟩
      · obtain ⟨u, hu, hd⟩ := addM_terms n _ x.right a1 hx.2 k (by omega) hk
        exact ⟨u, ⟨eraseS x, by simp, .inr hu⟩, sm hd⟩
  · rw [hs]
    refine AllIs.snoc1 (h.said.mono fun y s hy => ⟨hy.1, hy.2.1.mono E.shapes, hy.2.2.mono E.shapes⟩) ⟨rfl, e1, e2⟩

/-- As many different numbers below n as there are, there are at most n. -/
theorem nodup_below : ∀ (n : Nat) (l : List Nat), l.Nodup → (∀ x ∈ l, x < n) → l.length ≤ n
  | 0, [], _, _ => Nat.le_refl _
  | 0, x :: _, _, h => absurd (h x (by simp)) (Nat.not_lt_zero _)
  | n + 1, l, hn, h => by
    have h1 := nodup_below n (l.filter (· != n)) (hn.filter _) (fun x hx => by
      rw [List.mem_filter] at hx
      have := h x hx.1
      have : x ≠ n := by simpa using hx.2
      omega)
    have h2 := filter_split2 (· != n) l
    have h3 : (l.filter (fun x => !(x != n))).length ≤ 1 := by
      have hq : ∀ x ∈ l.filter (fun x => !(x != n)), x = n := fun x hx => by
        rw [List.mem_filter] at hx
        simpa using hx.2
      have hd : (l.filter (fun x => !(x != n))).Nodup := hn.filter _
      generalize l.filter (fun x => !(x != n)) = m at *
      match m, hq, hd with
      | [], _, _ => simp
      | [_], _, _ => simp
      | a :: b :: m, hq, hd =>
        have ea := hq a (by simp)
        have eb := hq b (by simp)
        simp [ea, eb] at hd
    omega
where
  filter_split2 {α : Type} (p : α → Bool) : ∀ l : List α, l.length = (l.filter p).length + (l.filter (fun x => !p x)).length
  | [] => rfl
  | a :: l => by
    have := filter_split2 p l
    cases h : p a <;> simp [h] <;> omega
theorem choose_list {α : Type} {P : Nat → α → Prop} : ∀ n : Nat, (∀ i, i < n → ∃ a, P i a) → ∃ l : List α, l.length = n ∧ ∀ (i : Nat) (a : α), l[i]? = some a → P i a
  | 0, _ => ⟨[], rfl, fun i a h => by simp at h⟩
  | n + 1, h => by
    obtain ⟨l, hl, hp⟩ := choose_list n (fun i hi => h i (by omega))
    obtain ⟨a, ha⟩ := h n (by omega)
    refine ⟨l ++ [a], by simp [hl], fun i b hb => ?_⟩
    by_cases hi : i < l.length
    · rw [List.getElem?_append_left hi] at hb
      exact hp i b hb
    · rw [List.getElem?_append_right (by omega)] at hb
      have h0 : i - l.length = 0 := by
        have := (List.getElem?_eq_some_iff.1 hb).1
        simp at this
        omega
      rw [h0] at hb
      simp only [List.getElem?_cons_zero, Option.some.injEq] at hb
      subst hb
      obtain rfl : i = n := by omega
      exact ha
/-- Where less is known there are fewer terms. -/
theorem Holds.fewer {S T : WS} {L M : List ST} (hS : Holds S L) (hT : Holds T M) (hk : ∀ t, known M t → known L t) : T.shapes.length ≤ S.shapes.length := by
  obtain ⟨l, hl, hp⟩ := choose_list (P := fun i j => ∃ t, DenE T t i ∧ DenE S t j) T.shapes.length (fun i hi => by
    obtain ⟨t, kt, dt⟩ := hT.term i hi
    obtain ⟨j, dj⟩ := hS.num t (hk t kt)
    exact ⟨j, t, dt, dj⟩)
  rw [← hl]
  refine nodup_below _ l ?_ fun x hx => ?_
  · have : ∀ (i j : Nat) (x : Nat), l[i]? = some x → l[j]? = some x → i = j := fun i j x hi hj => by
      obtain ⟨t, d1, d2⟩ := hp i x hi
      obtain ⟨u, d3, d4⟩ := hp j x hj
      obtain rfl := d2.fn d4
      exact d1.inj hT.fine.web.base d3
    exact nodup_get l this
  · obtain ⟨i, hi⟩ := List.getElem?_of_mem hx
    obtain ⟨t, _, d2⟩ := hp i x hi
    exact d2.lt
where
  nodup_get : ∀ l : List Nat, (∀ (i j : Nat) (x : Nat), l[i]? = some x → l[j]? = some x → i = j) → l.Nodup
  | [], _ => List.nodup_nil
  | a :: l, h => by
    refine List.nodup_cons.2 ⟨fun hm => ?_, nodup_get l fun i j x hi hj => by have := h (i + 1) (j + 1) x (by simpa using hi) (by simpa using hj); omega⟩
    obtain ⟨i, hi⟩ := List.getElem?_of_mem hm
    have := h 0 (i + 1) a (by simp) (by simpa using hi)
    omega
end Go.Proofs.YtmfkpllnmmfpiaaGreatDoor

/-
  Plain: from which sentences something follows: what Why's list is, that it is enough and none too many.
-/
namespace Go.Proofs.YtmfkpllnmmfpiaaGreatDoor
open Go.RowKit

/-- With c, some of the sentences clash. -/
def ClashOn (c : ST) (L : List ST) (p : Nat → Prop) : Prop := ∃ M : List ST, (∀ s ∈ M, s = c ∨ ∃ j, p j ∧ L[j]? = some s) ∧ ClashT M
theorem ClashOn.mono {c : ST} {L : List ST} {p q : Nat → Prop} (h : ∀ j, j < L.length → p j → q j) : ClashOn c L p → ClashOn c L q
  | ⟨M, h1, h2⟩ => ⟨M, fun s hs => (h1 s hs).imp id fun ⟨j, hj, e⟩ => ⟨j, h j (List.getElem?_eq_some_iff.1 e).1 hj, e⟩, h2⟩
theorem clashOn_iff {c : ST} {L M : List ST} {p : Nat → Prop} (h1 : ∀ s ∈ M, s = c ∨ ∃ j, p j ∧ L[j]? = some s) (h2 : c ∈ M) (h3 : ∀ (j : Nat) (s : ST), p j → L[j]? = some s → s ∈ M) : ClashT M ↔ ClashOn c L p :=
  ⟨fun h => ⟨M, h1, h⟩, fun ⟨N, n1, n2⟩ => n2.mono fun s hs => by
    rcases n1 s hs with rfl | ⟨j, hj, e⟩
    · exact h2
    · exact h3 j s hj e⟩
/-- What Why tells. -/
structure WhyIs (c : ST) (L : List ST) (l : List Nat) : Prop where
  rise : l.Pairwise (· < ·)
  lt : ∀ k ∈ l, k < L.length
  iff : ∀ k, k < L.length → (k ∈ l ↔ ¬ ClashOn c L (fun j => j < k ∨ (k < j ∧ j ∈ l)))
theorem rise_eq : ∀ {l m : List Nat}, l.Pairwise (· < ·) → m.Pairwise (· < ·) → (∀ x, x ∈ l ↔ x ∈ m) → l = m
  | [], [], _, _, _ => rfl
  | [], b :: m, _, _, h => by have := (h b).2 (by simp); cases this
  | a :: l, [], _, _, h => by have := (h a).1 (by simp); cases this
  | a :: l, b :: m, hl, hm, h => by
    have hl' := List.pairwise_cons.1 hl
    have hm' := List.pairwise_cons.1 hm
    have e : a = b := by
      have h1 := (h a).1 (by simp)
      have h2 := (h b).2 (by simp)
      simp only [List.mem_cons] at h1 h2
      rcases h1 with h1 | h1
      · exact h1
      · rcases h2 with h2 | h2
        · exact h2.symm
        · have := hm'.1 a h1
          have := hl'.1 b h2
          omega
    subst e
    rw [rise_eq hl'.2 hm'.2 fun x => ?_]
    have hx := h x
    simp only [List.mem_cons] at hx
    constructor
    · intro hq
      rcases hx.1 (.inr hq) with rfl | h1
      · exact absurd (hl'.1 x hq) (Nat.lt_irrefl _)
      · exact h1
    · intro hq
      rcases hx.2 (.inr hq) with rfl | h1
      · exact absurd (hm'.1 x hq) (Nat.lt_irrefl _)
      · exact h1
theorem WhyIs.unique {c : ST} {L : List ST} {l m : List Nat} (h : WhyIs c L l) (k : WhyIs c L m) : l = m := by
  have key : ∀ d i, i < L.length → L.length ≤ i + d → (i ∈ l ↔ i ∈ m) := by
    intro d
    induction d with
    | zero => intro i h1 h2; omega
    | succ d ih =>
      intro i h1 h2
      rw [h.iff i h1, k.iff i h1]
      have e : ClashOn c L (fun j => j < i ∨ (i < j ∧ j ∈ l)) ↔ ClashOn c L (fun j => j < i ∨ (i < j ∧ j ∈ m)) := by
        constructor
        · exact ClashOn.mono fun j hj hp => hp.imp id fun hp => ⟨hp.1, (ih j hj (by omega)).1 hp.2⟩
        · exact ClashOn.mono fun j hj hp => hp.imp id fun hp => ⟨hp.1, (ih j hj (by omega)).2 hp.2⟩
      rw [e]
  refine rise_eq h.rise k.rise fun x => ⟨fun hx => ?_, fun hx => ?_⟩
  · have := h.lt x hx
    exact (key L.length x this (by omega)).1 hx
  · have := k.lt x hx
    exact (key L.length x this (by omega)).2 hx
/-- It is enough. -/
theorem WhyIs.enough {c : ST} {L : List ST} {l : List Nat} (h : WhyIs c L l) (hc : ClashOn c L (fun _ => True)) : ClashOn c L (fun j => j ∈ l) := by
  have key : ∀ d k, k + d = L.length → ClashOn c L (fun j => j < k ∨ (k ≤ j ∧ j ∈ l)) := by
    intro d
    induction d with
    | zero => intro k hk; exact hc.mono fun j hj _ => .inl (by omega)
    | succ d ih =>
      intro k hk
      have h1 := ih (k + 1) (by omega)
      by_cases hm : k ∈ l
      · exact h1.mono fun j _ hp => by
          rcases hp with hp | hp
          · by_cases e : j = k
            · subst e; exact .inr ⟨Nat.le_refl _, hm⟩
            · exact .inl (by omega)
          · exact .inr ⟨by omega, hp.2⟩
      · have h2 : ClashOn c L (fun j => j < k ∨ (k < j ∧ j ∈ l)) := by
          by_cases h3 : ClashOn c L (fun j => j < k ∨ (k < j ∧ j ∈ l))
          · exact h3
          · exact absurd ((h.iff k (by omega)).2 h3) hm
        exact h2.mono fun j _ hp => hp.imp id fun hp => ⟨by omega, hp.2⟩
  exact (key L.length 0 (by omega)).mono fun j _ hp => hp.elim (fun h => absurd h (Nat.not_lt_zero _)) (fun h => h.2)
/-- None is too many. -/
theorem WhyIs.needed {c : ST} {L : List ST} {l : List Nat} (h : WhyIs c L l) {k : Nat} (hk : k ∈ l) : ¬ ClashOn c L (fun j => j ∈ l ∧ j ≠ k) := fun hn => by
  refine (h.iff k (h.lt k hk)).1 hk (hn.mono fun j _ hp => ?_)
  by_cases e : j < k
  · exact .inl e
  · exact .inr ⟨by omega, hp.1⟩

def eraseX (x : SntX) : ST := eraseS x.2
/-- From the last one to the first, each is kept without which it does not clash: the numbers, and the sentences. -/
def whyR (O : Nat → WS) (xs : List SntX) : Nat → List Nat × List SntX
  | 0 => ([], [])
  | d + 1 => if clashM (sayAll (O (xs.length - (d + 1))) (whyR O xs d).2) then whyR O xs d else ((whyR O xs d).1 ++ [xs.length - (d + 1)], (whyR O xs d).2 ++ (xs[xs.length - (d + 1)]?).toList)
def whyL (O : Nat → WS) (xs : List SntX) : List Nat := (whyR O xs xs.length).1.reverse
structure WhyTo (O : Nat → WS) (xs : List SntX) (c : ST) (d : Nat) : Prop where
  rise : (whyR O xs d).1.reverse.Pairwise (· < ·)
  lt : ∀ k ∈ (whyR O xs d).1, k < xs.length ∧ xs.length ≤ k + d
  mem : ∀ x, x ∈ (whyR O xs d).2 ↔ ∃ k ∈ (whyR O xs d).1, xs[k]? = some x
  len : (whyR O xs d).1.length ≤ d
  len2 : (whyR O xs d).2.length = (whyR O xs d).1.length
  iff : ∀ k, k < xs.length → xs.length ≤ k + d → (k ∈ (whyR O xs d).1 ↔ ¬ ClashOn c (xs.map eraseX) (fun j => j < k ∨ (k < j ∧ j ∈ (whyR O xs d).1)))
/-- What the Webs that it is asked of must be. -/
def AskOK (O : Nat → WS) (xs : List SntX) (c : ST) : Prop :=
  ∀ (k : Nat) (ys : List SntX), k < xs.length → (∀ y ∈ ys, y ∈ xs) → (clashM (sayAll (O k) ys) = true ↔ ClashT (c :: ((xs.map eraseX).take k ++ ys.map eraseX)))
theorem whyTo {O : Nat → WS} {xs : List SntX} {c : ST} (hO : AskOK O xs c) : ∀ d, d ≤ xs.length → WhyTo O xs c d
  | 0, _ => ⟨by simp [whyR], fun k hk => by simp [whyR] at hk, fun x => by simp [whyR], Nat.le_refl _, rfl, fun k h1 h2 => by omega⟩
  | d + 1, hd => by
    have h := whyTo hO d (by omega)
    obtain ⟨k, hk⟩ : ∃ k, xs.length - (d + 1) = k := ⟨_, rfl⟩
    have hkl : k < xs.length := by omega
    have hx : xs[k]? = some xs[k] := List.getElem?_eq_getElem hkl
    have hin : ∀ y ∈ (whyR O xs d).2, y ∈ xs := fun y hy => by
      obtain ⟨j, _, e⟩ := (h.mem y).1 hy
      exact List.mem_of_getElem? e
    have htest := hO k (whyR O xs d).2 hkl hin
    have hon : ClashT (c :: ((xs.map eraseX).take k ++ (whyR O xs d).2.map eraseX)) ↔ ClashOn c (xs.map eraseX) (fun j => j < k ∨ (k < j ∧ j ∈ (whyR O xs d).1)) := by
      refine clashOn_iff (fun s hs => ?_) (by simp) (fun j s hj e => ?_)
      · simp only [List.mem_cons, List.mem_append] at hs
        rcases hs with rfl | hs | hs
        · exact .inl rfl
        · obtain ⟨j, hj⟩ := List.getElem?_of_mem hs
          rw [List.getElem?_take] at hj
          split at hj
          · exact .inr ⟨j, .inl ‹_›, hj⟩
          · cases hj
        · obtain ⟨y, hy, rfl⟩ := List.mem_map.1 hs
          obtain ⟨j, hj, e⟩ := (h.mem y).1 hy
          have := (h.lt j hj).2
          exact .inr ⟨j, .inr ⟨by omega, hj⟩, by rw [List.getElem?_map, e]; rfl⟩
      · simp only [List.mem_cons, List.mem_append]
        rcases hj with hj | hj
        · exact .inr (.inl (List.mem_of_getElem? (i := j) (by rw [List.getElem?_take, if_pos hj]; exact e)))
        · rw [List.getElem?_map] at e
          obtain ⟨y, hy, rfl⟩ := Option.map_eq_some_iff.1 e
          exact .inr (.inr (List.mem_map.2 ⟨y, (h.mem y).2 ⟨j, hj.2, hy⟩, rfl⟩))
    by_cases hc : clashM (sayAll (O k) (whyR O xs d).2) = true
    · have e : whyR O xs (d + 1) = whyR O xs d := by simp only [whyR, hk]; rw [if_pos hc]
      refine ⟨by rw [e]; exact h.rise, fun j hj => ?_, by rw [e]; exact h.mem, by rw [e]; have := h.len; omega, by rw [e]; exact h.len2, fun j h1 h2 => ?_⟩
      · rw [e] at hj
        have := h.lt j hj
        omega
      · rw [e]
        by_cases hj : j = k
        · subst hj
          have h3 := hon.1 (htest.1 hc)
          exact ⟨fun hm => by have := (h.lt j hm).2; omega, fun hn => absurd h3 hn⟩
        · exact h.iff j h1 (by omega)
    · have e : whyR O xs (d + 1) = ((whyR O xs d).1 ++ [k], (whyR O xs d).2 ++ [xs[k]]) := by simp only [whyR, hk]; rw [if_neg hc, hx]; rfl
      have hne : ∀ j ∈ (whyR O xs d).1, k < j := fun j hj => by have := (h.lt j hj).2; omega
      have hset : ∀ i, k ≤ i → ∀ j, (j < i ∨ (i < j ∧ j ∈ (whyR O xs d).1 ++ [k])) ↔ (j < i ∨ (i < j ∧ j ∈ (whyR O xs d).1)) := fun i hi j => by
        simp only [List.mem_append, List.mem_singleton]
        constructor
        · rintro (h | ⟨h1, h2 | h2⟩)
          · exact .inl h
          · exact .inr ⟨h1, h2⟩
          · omega
        · rintro (h | ⟨h1, h2⟩)
          · exact .inl h
          · exact .inr ⟨h1, .inl h2⟩
      refine ⟨?_, fun j hj => ?_, fun x => ?_, ?_, ?_, fun j h1 h2 => ?_⟩
      · rw [e]
        simp only [List.reverse_append, List.reverse_cons, List.reverse_nil, List.nil_append, List.singleton_append, List.pairwise_cons, List.mem_reverse]
        exact ⟨hne, h.rise⟩
      · rw [e] at hj
        simp only [List.mem_append, List.mem_singleton] at hj
        rcases hj with hj | rfl
        · have := h.lt j hj
          omega
        · omega
      · rw [e]
        simp only [List.mem_append, List.mem_singleton]
        constructor
        · rintro (h1 | rfl)
          · obtain ⟨j, hj, e⟩ := (h.mem x).1 h1
            exact ⟨j, .inl hj, e⟩
          · exact ⟨k, .inr rfl, hx⟩
        · rintro ⟨j, h1 | rfl, e2⟩
          · exact .inl ((h.mem x).2 ⟨j, h1, e2⟩)
          · rw [hx] at e2
            exact .inr (Option.some.inj e2).symm
      · rw [e]
        have := h.len
        simp only [List.length_append, List.length_singleton]
        omega
      · rw [e]
        have := h.len2
        simp only [List.length_append, List.length_singleton]
        omega
      · rw [e]
        simp only
        have hon' : ∀ i, k ≤ i → (ClashOn c (xs.map eraseX) (fun j => j < i ∨ (i < j ∧ j ∈ (whyR O xs d).1 ++ [k])) ↔ ClashOn c (xs.map eraseX) (fun j => j < i ∨ (i < j ∧ j ∈ (whyR O xs d).1))) := fun i hi =>
          ⟨ClashOn.mono fun j _ => (hset i hi j).1, ClashOn.mono fun j _ => (hset i hi j).2⟩
        rw [hon' j (by omega)]
        by_cases hj : j = k
        · subst hj
          have h3 : ¬ ClashOn c (xs.map eraseX) (fun i => i < j ∨ (j < i ∧ i ∈ (whyR O xs d).1)) := fun hh => hc (htest.2 (hon.2 hh))
          exact ⟨fun _ => h3, fun _ => by simp⟩
        · rw [← h.iff j h1 (by omega)]
          simp only [List.mem_append, List.mem_singleton, hj, or_false]
theorem whyL_is {O : Nat → WS} {xs : List SntX} {c : ST} (hO : AskOK O xs c) : WhyIs c (xs.map eraseX) (whyL O xs) := by
  have h := whyTo hO xs.length (Nat.le_refl _)
  unfold whyL
  refine ⟨h.rise, fun k hk => ?_, fun k hk => ?_⟩
  · rw [List.mem_reverse] at hk
    rw [List.length_map]
    exact (h.lt k hk).1
  · rw [List.length_map] at hk
    rw [List.mem_reverse, h.iff k hk (by omega)]
    simp only [List.mem_reverse]

/-- There is room for sentences all of whose terms a Web knows that is small. -/
structure Under (B : WS) (K : List ST) : Prop where
  holds : Holds B K
  few : B.shapes.length ≤ 250
def SubX (K : List ST) (x : SntX) : Prop := NarrowX x ∧ sizeX x ≤ 150 ∧ ∀ t, known [eraseX x] t → known K t
theorem known_append {L M : List ST} {t : Trm} : known (L ++ M) t ↔ known L t ∨ known M t := by
  unfold known
  simp only [List.mem_append]
  constructor
  · rintro ⟨s, h1 | h1, h2⟩
    · exact .inl ⟨s, h1, h2⟩
    · exact .inr ⟨s, h1, h2⟩
  · rintro (⟨s, h1, h2⟩ | ⟨s, h1, h2⟩)
    · exact ⟨s, .inl h1, h2⟩
    · exact ⟨s, .inr h1, h2⟩
theorem Under.say {B : WS} {K : List ST} (h : Under B K) {S : WS} {L : List ST} (hS : Holds S L) (hk : ∀ t, known L t → known K t) {x : SntX} (hx : SubX K x) : S.shapes.length + sizeX x ≤ 400 ∧ Holds (sayM S x.2) (L ++ [eraseX x]) ∧ ∀ t, known (L ++ [eraseX x]) t → known K t := by
  have h1 := h.holds.fewer hS hk
  have h2 := h.few
  have h3 := hx.2.1
  have h4 : S.shapes.length + sizeX x ≤ 400 := by omega
  exact ⟨h4, hS.say hx.1 h4, fun t ht => (known_append.1 ht).elim (hk t) (hx.2.2 t)⟩
theorem Under.sayAll {B : WS} {K : List ST} (h : Under B K) : ∀ (ys : List SntX) {S : WS} {L : List ST}, Holds S L → (∀ t, known L t → known K t) → (∀ y ∈ ys, SubX K y) → RoomX S ys ∧ Holds (sayAll S ys) (L ++ ys.map eraseX) ∧ allOf NarrowX ys ∧ ∀ t, known (L ++ ys.map eraseX) t → known K t
  | [], S, L, hS, hk, _ => ⟨by have h1 := h.holds.fewer hS hk; have h2 := h.few; show S.shapes.length ≤ 400; omega, by simpa [Go.Proofs.YtmfkpllnmmfpiaaGreatDoor.sayAll] using hS, trivial, by simpa using hk⟩
  | y :: ys, S, L, hS, hk, hy => by
    obtain ⟨a, b, c⟩ := h.say hS hk (hy y (by simp))
    obtain ⟨d, e, f, g⟩ := Under.sayAll h ys b c (fun z hz => hy z (by simp [hz]))
    have e1 : L ++ (y :: ys).map eraseX = L ++ [eraseX y] ++ ys.map eraseX := by simp
    rw [e1]
    exact ⟨⟨a, d⟩, e, ⟨(hy y (by simp)).1, f⟩, g⟩
/-- The Webs in which c and the first ones are said. -/
def otherM (c : SntX) (xs : List SntX) (k : Nat) : WS := sayAll (sayM noWS c.2) (xs.take k)
theorem ask_ok {B : WS} {K : List ST} (h : Under B K) {c : SntX} {xs : List SntX} (hc : SubX K c) (hx : ∀ x ∈ xs, SubX K x) : AskOK (otherM c xs) xs (eraseX c) := fun k ys hk hy => by
  obtain ⟨_, h1, h2⟩ := h.say Holds.none (fun t ⟨s, hs, _⟩ => by cases hs) hc
  obtain ⟨_, h3, _, h4⟩ := h.sayAll (xs.take k) h1 h2 (fun x hm => hx x (List.mem_of_mem_take hm))
  obtain ⟨_, h5, _, _⟩ := h.sayAll ys h3 h4 (fun y hm => hx y (hy y hm))
  unfold otherM
  rw [h5.clash_iff]
  have e : [] ++ [eraseX c] ++ (xs.take k).map eraseX ++ ys.map eraseX = eraseX c :: ((xs.map eraseX).take k ++ ys.map eraseX) := by simp [List.map_take]
  rw [e]
end Go.Proofs.YtmfkpllnmmfpiaaGreatDoor
