/-
  Plain: things alone: what follows from sentences between them.
-/
import Derived.Test.YtmfkpllnmmfpiaaDoorPowBookH
namespace Go.Proofs.YtmfkpllnmmfpiaaDoor
open Go.RowKit

/-- The name of one of ten things. -/
def nT (x : Nat) : ByteArray := ⟨#[116, UInt8.ofNat (48 + x)]⟩
/-- The number p stands for the thing x. -/
def ThAt (S : WS) (x p : Nat) : Prop := x < 10 ∧ S.shapes[p]? = some (nT x, 0, 0, 0, 0)
theorem nT_inj_all : (List.range 10).all (fun x => (List.range 10).all (fun y => !(decide (nT x = nT y)) || x == y)) = true := by kernel_rfl
theorem nT_inj {x y : Nat} (hx : x < 10) (hy : y < 10) (h : nT x = nT y) : x = y := by
  have h1 := List.all_eq_true.1 (List.all_eq_true.1 nT_inj_all x (by simp; omega)) y (by simp; omega)
  rw [decide_eq_true h] at h1
  simpa using h1
theorem ThAt.fn {S : WS} {x y p : Nat} (h : ThAt S x p) (k : ThAt S y p) : x = y := by
  have e := h.2.symm.trans k.2
  simp only [Option.some.injEq, Prod.mk.injEq, and_true] at e
  exact nT_inj h.1 k.1 e
theorem ThAt.inj {S : WS} (hB : Base S) {x p q : Nat} (h : ThAt S x p) (k : ThAt S x q) : p = q := hB.inj h.2 k.2
theorem ThAt.lt {S : WS} {x p : Nat} (h : ThAt S x p) : p < S.shapes.length := (List.getElem?_eq_some_iff.1 h.2).1
theorem ThAt.mono {S T : WS} (hs : ∀ (i : Nat) (s : Sh), S.shapes[i]? = some s → T.shapes[i]? = some s) {x p : Nat} (h : ThAt S x p) : ThAt T x p := ⟨h.1, hs _ _ h.2⟩
def onlyT (_ : ByteArray) (k : Nat) : Prop := k = 0

/-- C tells just what the equations L come to. -/
structure Least (C : Nat → Nat) (L : List (Nat × Nat)) : Prop where
  holds : ∀ e ∈ L, C e.1 = C e.2
  least : ∀ R : Nat → Nat → Prop, (∀ x, R x x) → (∀ x y, R x y → R y x) → (∀ x y z, R x y → R y z → R x z) → (∀ e ∈ L, R e.1 e.2) → ∀ x y, C x = C y → R x y
theorem Least.nil : Least (fun x => x) [] := ⟨fun e he => (by cases he), fun R hr _ _ _ x y h => (show x = y from h) ▸ hr x⟩
theorem Least.step {C : Nat → Nat} {L : List (Nat × Nat)} (h : Least C L) (a b : Nat) : Least (fun k => if C k = C a then C b else C k) (L ++ [(a, b)]) := by
  constructor
  · intro e he
    simp only [List.mem_append, List.mem_singleton] at he
    rcases he with he | rfl
    · simp only [h.holds e he]
    · simp only [if_true]
      split <;> rfl
  · intro R hr hs ht hL x y hxy
    have h1 := fun x y => h.least R hr hs ht (fun e he => hL e (List.mem_append_left _ he)) x y
    have h2 : R a b := hL (a, b) (by simp)
    split at hxy
    · rename_i e1
      split at hxy
      · rename_i e2
        exact h1 x y (e1.trans e2.symm)
      · exact ht _ _ _ (h1 x a e1) (ht _ _ _ h2 (h1 b y hxy))
    · split at hxy
      · rename_i e2
        exact ht _ _ _ (h1 x b hxy) (ht _ _ _ (hs _ _ h2) (h1 a y e2.symm))
      · exact h1 x y hxy

/-- A Web of things alone. -/
structure ThWeb (S : WS) (L : List (Nat × Nat × Nat)) (sz : Nat) : Prop where
  fine : Fine S
  only : Only onlyT S
  len : S.shapes.length ≤ sz
  said : AllIs (fun (x e : Nat × Nat × Nat) => x.1 = e.1 ∧ ThAt S e.2.1 x.2.1 ∧ ThAt S e.2.2 x.2.2) S.said L
/-- Of what is said, what is equal. -/
def eqsOf (L : List (Nat × Nat × Nat)) : List (Nat × Nat) := (L.filter (fun e => e.1 == 0)).map (·.2)
theorem mem_eqsOf {L : List (Nat × Nat × Nat)} {e : Nat × Nat} : e ∈ eqsOf L ↔ (0, e) ∈ L := by
  unfold eqsOf
  simp only [List.mem_map, List.mem_filter, beq_iff_eq]
  constructor
  · rintro ⟨a, ⟨h1, h2⟩, rfl⟩
    rw [← h2]
    exact h1
  · intro h
    exact ⟨(0, e), ⟨h, rfl⟩, rfl⟩
theorem AllIs.right {α β : Type} {R : α → β → Prop} : ∀ {xs : List α} {ys : List β}, AllIs R xs ys → ∀ y ∈ ys, ∃ x ∈ xs, R x y
  | x :: _, _ :: _, h, a, ha => by
    simp only [List.mem_cons] at ha
    rcases ha with rfl | ha
    · exact ⟨x, by simp, h.1⟩
    · obtain ⟨z, h1, h2⟩ := AllIs.right h.2 a ha
      exact ⟨z, by simp [h1], h2⟩
  | [], _ :: _, h, _, _ => h.elim
  | [], [], _, _, h => by cases h
theorem AllIs.leftMem {α β : Type} {R : α → β → Prop} : ∀ {xs : List α} {ys : List β}, AllIs R xs ys → ∀ x ∈ xs, ∃ y ∈ ys, R x y
  | x :: _, y :: _, h, a, ha => by
    simp only [List.mem_cons] at ha
    rcases ha with rfl | ha
    · exact ⟨y, by simp, h.1⟩
    · obtain ⟨z, h1, h2⟩ := AllIs.leftMem h.2 a ha
      exact ⟨z, by simp [h1], h2⟩
  | _ :: _, [], h, _, _ => h.elim
  | [], _, _, _, h => by cases h
/-- Classes of things are what the equations come to. -/
theorem ThWeb.eq_iff {S : WS} {L : List (Nat × Nat × Nat)} {sz : Nat} (h : ThWeb S L sz) {C : Nat → Nat} (hC : Least C (eqsOf L)) {x y p q : Nat} (hp : ThAt S x p) (hq : ThAt S y q) : classAt S p = classAt S q ↔ C x = C y := by
  have hB := h.fine.web.base
  have hlen := hB.inv.len
  have hl : ∀ {e p : Nat}, ThAt S e p → p < S.classes.length := fun hp => by have := hp.lt; omega
  constructor
  · rw [h.fine.web.eq_iff (hl hp) (hl hq)]
    intro hall
    have hc : Closed S (fun i j => i = j ∨ ∃ x y, ThAt S x i ∧ ThAt S y j ∧ C x = C y) := by
      refine ⟨fun i => .inl rfl, fun i j h => ?_, fun i j k h1 h2 => ?_, fun z hz h0 => ?_, fun i j s t hi hj h0 h1 hp => ?_⟩
      · rcases h with h | ⟨x, y, h1, h2, h3⟩
        · exact .inl h.symm
        · exact .inr ⟨y, x, h2, h1, h3.symm⟩
      · rcases h1 with rfl | ⟨x, y, h1, h3, h4⟩
        · exact h2
        · rcases h2 with rfl | ⟨x', y', h5, h6, h7⟩
          · exact .inr ⟨x, y, h1, h3, h4⟩
          · obtain rfl := h3.fn h5
            exact .inr ⟨x, y', h1, h6, h4.trans h7⟩
      · obtain ⟨e, he, e1, e2, e3⟩ := h.said.leftMem z hz
        refine .inr ⟨e.2.1, e.2.2, e2, e3, hC.holds e.2 (mem_eqsOf.2 ?_)⟩
        rw [← h0, e1]
        exact he
      · have c0 : s.2.1 = 0 := h.only i s hi
        have gs := hB.good i s hi
        have gt := hB.good j t hj
        have : s = t := Sh.ext' h0 h1 fun k hk => by rw [gs.rest k (by omega) hk, gt.rest k (by omega) hk]
        subst this
        exact .inl (hB.inj hi hj)
    rcases hall _ hc with rfl | ⟨x', y', h1, h2, h3⟩
    · rw [hp.fn hq]
    · rw [hp.fn h1, hq.fn h2]
      exact h3
  · intro hxy
    have := hC.least (fun x y => x = y ∨ ∃ p q, ThAt S x p ∧ ThAt S y q ∧ classAt S p = classAt S q) (fun x => .inl rfl) (fun x y h => ?_) (fun x y z h1 h2 => ?_) (fun e he => ?_) x y hxy
    · rcases this with rfl | ⟨p', q', h1, h2, h3⟩
      · rw [hp.inj hB hq]
      · rw [hp.inj hB h1, hq.inj hB h2]
        exact h3
    · rcases h with h | ⟨p, q, h1, h2, h3⟩
      · exact .inl h.symm
      · exact .inr ⟨q, p, h2, h1, h3.symm⟩
    · rcases h1 with rfl | ⟨p, q, h1, h3, h4⟩
      · exact h2
      · rcases h2 with rfl | ⟨p', q', h5, h6, h7⟩
        · exact .inr ⟨p, q, h1, h3, h4⟩
        · obtain rfl := h3.inj hB h5
          exact .inr ⟨p, q', h1, h6, h4.trans h7⟩
    · obtain ⟨z, hz, e1, e2, e3⟩ := h.said.right _ (mem_eqsOf.1 he)
      exact .inr ⟨z.2.1, z.2.2, e2, e3, h.fine.web.eqs z hz e1⟩
end Go.Proofs.YtmfkpllnmmfpiaaDoor

/-
  Plain: what a Book answers about things alone.
-/
namespace Go.Proofs.YtmfkpllnmmfpiaaDoor
open Go.RowKit

def signT (b : Bool) : ByteArray := if b then ⟨#[32, 61, 32]⟩ else ⟨#[32, 33, 61, 32]⟩
/-- A sentence between two things. -/
def sentT (x : Nat) (b : Bool) (y : Nat) : ByteArray := nT x ++ signT b ++ nT y
def isTh : (n : Nat) → Tm n → Nat → Bool
  | 0, _, _ => false
  | _ + 1, t, x => decide (t.name = nT x) && t.parts.isEmpty
theorem isTh_den {S : WS} : ∀ {n x i : Nat} {t : Tm n}, x < 10 → isTh n t x = true → Den S n t i → ThAt S x i
  | 0, _, _, _, _, h, _ => by simp [isTh] at h
  | n + 1, x, i, t, hx, h, ⟨ks, h1, h2⟩ => by
    simp only [isTh, Bool.and_eq_true, decide_eq_true_eq, List.isEmpty_iff] at h
    rw [h.2] at h2
    match ks, h2 with
    | [], _ =>
      rw [h.1] at h1
      exact ⟨hx, h1⟩
theorem isTh_all : ∀ {n x : Nat} {t : Tm n}, isTh n t x = true → AllTm onlyT n t ∧ sizeT n t = 1
  | 0, _, _, h => by simp [isTh] at h
  | n + 1, x, t, h => by
    simp only [isTh, Bool.and_eq_true, decide_eq_true_eq, List.isEmpty_iff] at h
    refine ⟨⟨by show t.parts.length = 0; rw [h.2]; rfl, by rw [h.2]; trivial⟩, ?_⟩
    show 1 + sumOf (sizeT n) t.parts = _
    rw [h.2]
    rfl
def readsTh (x : Nat) (b : Bool) (y : Nat) : Bool := match (readOf (sentT x b y)).1 with
  | some s => isTh _ s.left x && (s.eq == b) && isTh _ s.right y
  | none => false
theorem reads_th : (List.range 10).all (fun x => (List.range 10).all (fun y => readsTh x true y && readsTh x false y)) = true := by kernel_rfl
theorem reads_th_at {x y : Nat} (hx : x < 10) (hy : y < 10) (b : Bool) : ∃ s, (readOf (sentT x b y)).1 = some s ∧ isTh _ s.left x = true ∧ s.eq = b ∧ isTh _ s.right y = true := by
  have h1 := List.all_eq_true.1 (List.all_eq_true.1 reads_th x (by simp; omega)) y (by simp; omega)
  have h2 : readsTh x b y = true := by
    rw [Bool.and_eq_true] at h1
    cases b
    · exact h1.2
    · exact h1.1
  unfold readsTh at h2
  split at h2
  · rename_i s hs
    simp only [Bool.and_eq_true, beq_iff_eq] at h2
    exact ⟨s, hs, h2.1.1, h2.1.2, h2.2⟩
  · cases h2

def tagOf (b : Bool) : Nat := if b then 0 else 1
theorem ThWeb.none : ThWeb noWS [] 0 := ⟨noWS_fine, fun i s h => by simp [noWS] at h, Nat.le_refl _, trivial⟩
theorem ThWeb.say {S : WS} {L : List (Nat × Nat × Nat)} {sz a c n : Nat} (h : ThWeb S L sz) {x : Snt n} (hnar : NarrowS x) (ha : a < 10) (hc : c < 10) (hl : isTh _ x.left a = true) (hr : isTh _ x.right c = true) (hsz : sz ≤ 300) : ThWeb (sayM S x) (L ++ [(tagOf x.eq, a, c)]) (sz + 2) := by
  obtain ⟨a1, s1⟩ := isTh_all hl
  obtain ⟨a2, s2⟩ := isTh_all hr
  have hs : sizeS x = 2 := by unfold sizeS; omega
  have hlen := h.len
  have E := sayM_end h.fine.web hnar (by omega)
  obtain ⟨i, j, d1, d2, hsd⟩ := E.said
  have hEl := E.len
  refine ⟨⟨E.web, E.pot h.fine.pot⟩, h.only.say h.fine.web hnar (by omega) a1 a2, by omega, ?_⟩
  rw [hsd]
  exact (h.said.mono fun a b hab => ⟨hab.1, hab.2.1.mono E.shapes, hab.2.2.mono E.shapes⟩).snoc ⟨rfl, isTh_den ha hl d1, isTh_den hc hr d2⟩

theorem AllIs.anyEq {α β : Type} {R : α → β → Prop} {f : α → Bool} {g : β → Bool} (hfg : ∀ a b, R a b → f a = g b) : ∀ {xs : List α} {ys : List β}, AllIs R xs ys → xs.any f = ys.any g
  | [], [], _ => rfl
  | x :: xs, y :: ys, h => by simp only [List.any_cons]; rw [hfg _ _ h.1, AllIs.anyEq hfg h.2]
  | [], _ :: _, h => h.elim
  | _ :: _, [], h => h.elim
/-- Those that are said to be apart. -/
def apOf (L : List (Nat × Nat × Nat)) : List (Nat × Nat) := (L.filter (fun e => e.1 == 1)).map (·.2)
theorem apOf_any (L : List (Nat × Nat × Nat)) (f : Nat × Nat → Bool) : L.any (fun e => e.1 == 1 && f e.2) = (apOf L).any f := by
  unfold apOf
  induction L with
  | nil => rfl
  | cons e L ih =>
    rw [List.any_cons, ih, List.filter_cons]
    split
    · rename_i h
      rw [List.map_cons, List.any_cons, h, Bool.true_and]
    · rename_i h
      rw [Bool.not_eq_true] at h
      rw [h, Bool.false_and, Bool.false_or]
theorem ThWeb.clash {S : WS} {L : List (Nat × Nat × Nat)} {sz : Nat} (h : ThWeb S L sz) {C : Nat → Nat} (hC : Least C (eqsOf L)) : clashM S = (apOf L).any (fun e => C e.1 == C e.2) := by
  rw [← apOf_any]
  unfold clashM
  refine h.said.anyEq fun x e hxe => ?_
  unfold badOf
  rw [hxe.1]
  have hi := h.eq_iff hC hxe.2.1 hxe.2.2
  have : (classAt S x.2.1 == classAt S x.2.2) = (C e.2.1 == C e.2.2) := by
    by_cases hk : C e.2.1 = C e.2.2
    · rw [beq_iff_eq.2 hk, beq_iff_eq.2 (hi.2 hk)]
    · have h2 : ¬ classAt S x.2.1 = classAt S x.2.2 := fun e' => hk (hi.1 e')
      rw [beq_eq_false_iff_ne.2 hk, beq_eq_false_iff_ne.2 h2]
  rw [this]
theorem eqsOf_snoc (L : List (Nat × Nat × Nat)) (b : Bool) (e : Nat × Nat) : eqsOf (L ++ [(tagOf b, e)]) = if b then eqsOf L ++ [e] else eqsOf L := by
  unfold eqsOf
  rw [List.filter_append, List.map_append]
  cases b <;> simp [tagOf]
theorem apOf_snoc (L : List (Nat × Nat × Nat)) (b : Bool) (e : Nat × Nat) : apOf (L ++ [(tagOf b, e)]) = if b then apOf L else apOf L ++ [e] := by
  unfold apOf
  rw [List.filter_append, List.map_append]
  cases b <;> simp [tagOf]

theorem ThWeb.sayOf {S : WS} {L : List (Nat × Nat × Nat)} {sz x y : Nat} (h : ThWeb S L sz) (hx : x < 10) (hy : y < 10) (b : Bool) (hsz : sz + 2 ≤ 100) (hl : L.length < 40) : (sayOf S (sentT x b y)).1 = (L.length, 0, 0) ∧ ThWeb (sayOf S (sentT x b y)).2 (L ++ [(tagOf b, x, y)]) (sz + 2) := by
  obtain ⟨s, hs, h1, h2, h3⟩ := reads_th_at hx hy b
  obtain ⟨hnar, _, _⟩ := readOf_small hs
  have hw := h.say hnar hx hy h1 h3 (by omega)
  rw [h2] at hw
  have hlen := hw.len
  have hsl := h.said.length
  unfold Go.Proofs.YtmfkpllnmmfpiaaDoor.sayOf
  rw [hs]
  simp only
  rw [if_neg (by omega), if_neg (by omega)]
  exact ⟨by rw [hsl], hw⟩
theorem any_or' {α : Type} (l : List α) (f g : α → Bool) : (l.any f || l.any g) = l.any (fun a => f a || g a) := by
  induction l with
  | nil => rfl
  | cons a l ih =>
    simp only [List.any_cons]
    rw [← ih]
    cases f a <;> cases g a <;> cases l.any f <;> cases l.any g <;> rfl
theorem split_bool (p q x y : Nat) : ((if p = x then y else p) == (if q = x then y else q)) = (p == q || ((p == x && q == y) || (p == y && q == x))) := by
  rw [Bool.eq_iff_iff]
  simp only [Bool.or_eq_true, Bool.and_eq_true, beq_iff_eq]
  split <;> split <;> omega
/-- The two that are asked for, put together. -/
def splitOf (C : Nat → Nat) (x y : Nat) (e : Nat × Nat) : Bool := (C e.1 == x && C e.2 == y) || (C e.1 == y && C e.2 == x)
theorem ThWeb.follows {S : WS} {L : List (Nat × Nat × Nat)} {sz x y : Nat} (h : ThWeb S L sz) {C : Nat → Nat} (hC : Least C (eqsOf L)) (hx : x < 10) (hy : y < 10) (hsz : sz + 2 ≤ 100) :
    followsOf S (sentT x true y) = ((apOf L).any (fun e => C e.1 == C e.2) || C x == C y, 0, 0) ∧
    followsOf S (sentT x false y) = ((apOf L).any (fun e => C e.1 == C e.2) || (apOf L).any (splitOf C (C x) (C y)), 0, 0) := by
  constructor
  · obtain ⟨s, hs, h1, h2, h3⟩ := reads_th_at hx hy true
    obtain ⟨hnar, _, _⟩ := readOf_small hs
    have hw := h.say (x := contra s) (contra_narrow hnar) hx hy h1 h3 (by omega)
    have he : (contra s).eq = false := by show (!s.eq) = false; rw [h2]; rfl
    rw [he] at hw
    have hq : eqsOf (L ++ [(tagOf false, x, y)]) = eqsOf L := by rw [eqsOf_snoc]; rfl
    have hcl := hw.clash (C := C) (by rw [hq]; exact hC)
    rw [apOf_snoc] at hcl
    unfold followsOf followsM
    rw [hs]
    simp only
    rw [hcl]
    simp
  · obtain ⟨s, hs, h1, h2, h3⟩ := reads_th_at hx hy false
    obtain ⟨hnar, _, _⟩ := readOf_small hs
    have hw := h.say (x := contra s) (contra_narrow hnar) hx hy h1 h3 (by omega)
    have he : (contra s).eq = true := by show (!s.eq) = true; rw [h2]; rfl
    rw [he] at hw
    have hq : eqsOf (L ++ [(tagOf true, x, y)]) = eqsOf L ++ [(x, y)] := by rw [eqsOf_snoc]; rfl
    have hcl := hw.clash (C := fun k => if C k = C x then C y else C k) (by rw [hq]; exact hC.step x y)
    rw [apOf_snoc] at hcl
    unfold followsOf followsM
    rw [hs]
    simp only
    rw [hcl]
    simp only [if_true, Prod.mk.injEq, and_true]
    rw [any_or']
    congr 1
    funext e
    unfold splitOf
    exact split_bool _ _ _ _
end Go.Proofs.YtmfkpllnmmfpiaaDoor
