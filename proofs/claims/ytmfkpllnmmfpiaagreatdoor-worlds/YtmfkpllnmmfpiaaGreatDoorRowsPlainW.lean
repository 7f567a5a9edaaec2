/- RefSort, RefClassLaw, RowsPlain -/
import Derived.Test.YtmfkpllnmmfpiaaGreatDoorWebTermW
import Derived.Test.YtmfkpllnmmfpiaaGreatDoorRefHoldW
import Derived.Test.YtmfkpllnmmfpiaaGreatDoorRowWorldW
namespace Go.Proofs.YtmfkpllnmmfpiaaGreatDoor
theorem strict_unique {α : Type} {R : α → α → Prop} (irr : ∀ a, ¬ R a a) (tr : ∀ a b c, R a b → R b c → R a c) : ∀ {l m : List α}, l.Pairwise R → m.Pairwise R → (∀ x, x ∈ l ↔ x ∈ m) → l = m
 | [], [], _, _, _ => rfl
 | [], b :: m, _, _, h => by have := (h b).2 (by simp); cases this
 | a :: l, [], _, _, h => by have := (h a).1 (by simp); cases this
 | a :: l, b :: m, hl, hm, h => by
  rw [List.pairwise_cons] at hl hm
  have hab : a = b := by
   rcases List.mem_cons.1 ((h a).1 (by simp)) with e | e
   ·exact e
   ·rcases List.mem_cons.1 ((h b).2 (by simp)) with e2 | e2
    ·exact e2.symm
    ·exact absurd (tr _ _ _ (hl.1 b e2) (hm.1 a e)) (irr a)
  subst hab
  rw [strict_unique irr tr hl.2 hm.2 fun x => ?_]
  constructor
  ·intro hx
   rcases List.mem_cons.1 ((h x).1 (by simp [hx])) with e | e
   ·subst e; exact absurd (hl.1 x hx) (irr x)
   ·exact e
  ·intro hx
   rcases List.mem_cons.1 ((h x).2 (by simp [hx])) with e | e
   ·subst e; exact absurd (hm.1 x hx) (irr x)
   ·exact e
def bLt (a b : ByteArray) : Prop := a.data.toList < b.data.toList
instance (a b : ByteArray) : Decidable (bLt a b) := inferInstanceAs (Decidable (a.data.toList < b.data.toList))
theorem bLt_irr (a : ByteArray) : ¬ bLt a a := List.lt_irrefl _
theorem bLt_trans (a b c : ByteArray) (h : bLt a b) (k : bLt b c) : bLt a c := List.lt_trans h k
theorem bLt_total {a b : ByteArray} (h : ¬ bLt a b) (k : a ≠ b) : bLt b a := by
 rcases List.le_total a.data.toList b.data.toList with h1 | h1
 ·exfalso
  apply h
  rcases List.le_iff_lt_or_eq.1 h1 with h2 | h2
  ·exact h2
  ·exact absurd (ByteArray.ext (Array.ext' h2)) k
 ·rcases List.le_iff_lt_or_eq.1 h1 with h2 | h2
  ·exact h2
  ·exact absurd (ByteArray.ext (Array.ext' h2.symm)) k
def laidR (l : List ByteArray) (s : ByteArray) : List ByteArray := l.takeWhile (fun x => decide (bLt x s)) ++ s :: l.dropWhile (fun x => decide (bLt x s))
theorem laidR_mem {l : List ByteArray} {s x : ByteArray} : x ∈ laidR l s ↔ x = s ∨ x ∈ l := by
 unfold laidR
 conv => rhs; rw [← List.takeWhile_append_dropWhile (p := fun x => decide (bLt x s)) (l := l)]
 simp only [List.mem_append, List.mem_cons]
 constructor
 ·rintro (h | h | h)
  ·exact .inr (.inl h)
  ·exact .inl h
  ·exact .inr (.inr h)
 ·rintro (h | h | h)
  ·exact .inr (.inl h)
  ·exact .inl h
  ·exact .inr (.inr h)
theorem laidR_sorted : ∀ {l : List ByteArray} {s : ByteArray}, l.Pairwise bLt → s ∉ l → (laidR l s).Pairwise bLt
 | [], s, _, _ => by simp [laidR]
 | a :: l, s, h, hs => by
  rw [List.pairwise_cons] at h
  have ih := laidR_sorted (s := s) h.2 (fun hm => hs (by simp [hm]))
  unfold laidR at ih ⊢
  by_cases ha : bLt a s
  ·rw [List.takeWhile_cons_of_pos (by simpa using ha), List.dropWhile_cons_of_pos (by simpa using ha), List.cons_append, List.pairwise_cons]
   refine ⟨fun x hx => ?_, ih⟩
   have : x ∈ laidR l s := hx
   rcases laidR_mem.1 this with rfl | hx
   ·exact ha
   ·exact h.1 x hx
  ·rw [List.takeWhile_cons_of_neg (by simpa using ha), List.dropWhile_cons_of_neg (by simpa using ha), List.nil_append, List.pairwise_cons, List.pairwise_cons]
   have hb := bLt_total ha (fun e => hs (by simp [e]))
   refine ⟨fun x hx => ?_, h⟩
   rcases List.mem_cons.1 hx with rfl | hx
   ·exact hb
   ·exact bLt_trans _ _ _ hb (h.1 x hx)
structure ClassedBy (K : ByteArray → Prop) (E : ByteArray → ByteArray → Prop) (out : List (List ByteArray)) : Prop where
 each : ∀ l ∈ out, l.Pairwise bLt ∧ l ≠ []
 heads : out.Pairwise fun l m => ∃ a b, l.head? = some a ∧ m.head? = some b ∧ bLt a b
 same : ∀ l ∈ out, ∀ x ∈ l, ∀ y, y ∈ l ↔ K y ∧ E x y
 all : ∀ x, K x → ∃ l ∈ out, x ∈ l
theorem ClassedBy.unique {K : ByteArray → Prop} {E : ByteArray → ByteArray → Prop} {o1 o2 : List (List ByteArray)} (h1 : ClassedBy K E o1) (h2 : ClassedBy K E o2) : o1 = o2 := by
 have key : ∀ {o1 o2 : List (List ByteArray)}, ClassedBy K E o1 → ClassedBy K E o2 → ∀ l ∈ o1, l ∈ o2 := fun {o1 o2} h1 h2 l hl => by
  obtain ⟨x, hx⟩ := List.exists_mem_of_ne_nil l (h1.each l hl).2
  have hk := ((h1.same l hl x hx x).1 hx).1
  obtain ⟨m, hm, hxm⟩ := h2.all x hk
  have e : l = m := strict_unique bLt_irr bLt_trans (h1.each l hl).1 (h2.each m hm).1 fun y => by rw [h1.same l hl x hx y, h2.same m hm x hxm y]
  rw [e]
  exact hm
 refine strict_unique (R := fun l m => ∃ a b, l.head? = some a ∧ m.head? = some b ∧ bLt a b) (fun a ⟨x, y, e1, e2, h⟩ => ?_) (fun a b c ⟨x, y, e1, e2, h⟩ ⟨y', z, e3, e4, k⟩ => ?_) h1.heads h2.heads fun l => ⟨key h1 h2 l, key h2 h1 l⟩
 ·rw [e1] at e2
  cases e2
  exact bLt_irr _ h
 ·rw [e2] at e3
  cases e3
  exact ⟨x, z, e1, e4, bLt_trans _ _ _ h k⟩
section
variable (T : Nat → ByteArray) (C : Nat → Nat) (n : Nat)
def minTo (i : Nat) : Nat → ByteArray
 | 0 => T i
 | k + 1 => if C k = C i ∧ bLt (T k) (minTo i k) then T k else minTo i k
def firstsTo : Nat → List ByteArray
 | 0 => []
 | i + 1 => if minTo T C i n = T i then laidR (firstsTo i) (minTo T C i n) else firstsTo i
def classTo (c : Nat) : Nat → List ByteArray
 | 0 => []
 | k + 1 => if C k = c then laidR (classTo c k) (T k) else classTo c k
variable {T C n}
theorem minTo_is (i : Nat) (hi : i < n) : ∀ k, k ≤ n → (∃ j, j < n ∧ minTo T C i k = T j ∧ C j = C i) ∧ ∀ q, (q < k ∨ q = i) → C q = C i → ¬ bLt (T q) (minTo T C i k)
 | 0, _ => ⟨⟨i, hi, rfl, rfl⟩, fun q hq _ => by
  rcases hq with hq | rfl
  ·omega
  ·exact bLt_irr _⟩
 | k + 1, hk => by
  obtain ⟨⟨j, h1, h2, h3⟩, h4⟩ := minTo_is i hi k (by omega)
  unfold minTo
  by_cases hc : C k = C i ∧ bLt (T k) (minTo T C i k)
  ·rw [if_pos hc]
   refine ⟨⟨k, by omega, rfl, hc.1⟩, fun q hq he hlt => ?_⟩
   by_cases e : q = k
   ·subst e; exact bLt_irr _ hlt
   ·exact h4 q (by omega) he (bLt_trans _ _ _ hlt hc.2)
  ·rw [if_neg hc]
   refine ⟨⟨j, h1, h2, h3⟩, fun q hq he hlt => ?_⟩
   by_cases e : q = k
   ·subst e; exact hc ⟨he, hlt⟩
   ·exact h4 q (by omega) he hlt
theorem firstsTo_is (hT : ∀ i j, i < n → j < n → T i = T j → i = j) : ∀ i, i ≤ n → (firstsTo T C n i).Pairwise bLt ∧ ∀ f, f ∈ firstsTo T C n i ↔ ∃ j, j < i ∧ f = T j ∧ minTo T C j n = T j
 | 0, _ => ⟨List.Pairwise.nil, fun f => ⟨fun h => (by cases h), fun ⟨j, h, _⟩ => (by omega)⟩⟩
 | i + 1, hi => by
  obtain ⟨h1, h2⟩ := firstsTo_is hT i (by omega)
  unfold firstsTo
  by_cases hc : minTo T C i n = T i
  ·rw [if_pos hc, hc]
   refine ⟨laidR_sorted h1 fun hm => ?_, fun f => ?_⟩
   ·obtain ⟨j, a, b, _⟩ := (h2 _).1 hm
    have := hT i j (by omega) (by omega) b
    omega
   ·rw [laidR_mem, h2]
    constructor
    ·rintro (rfl | ⟨j, a, b, c⟩)
     ·exact ⟨i, by omega, rfl, hc⟩
     ·exact ⟨j, by omega, b, c⟩
    ·rintro ⟨j, a, b, c⟩
     by_cases e : j = i
     ·subst e; exact .inl b
     ·exact .inr ⟨j, by omega, b, c⟩
  ·rw [if_neg hc]
   refine ⟨h1, fun f => ?_⟩
   rw [h2]
   constructor
   ·rintro ⟨j, a, b, c⟩
    exact ⟨j, by omega, b, c⟩
   ·rintro ⟨j, a, b, c⟩
    by_cases e : j = i
    ·subst e; exact absurd c hc
    ·exact ⟨j, by omega, b, c⟩
theorem classTo_is (hT : ∀ i j, i < n → j < n → T i = T j → i = j) (c : Nat) : ∀ k, k ≤ n → (classTo T C c k).Pairwise bLt ∧ ∀ f, f ∈ classTo T C c k ↔ ∃ j, j < k ∧ f = T j ∧ C j = c
 | 0, _ => ⟨List.Pairwise.nil, fun f => ⟨fun h => (by cases h), fun ⟨j, h, _⟩ => (by omega)⟩⟩
 | i + 1, hi => by
  obtain ⟨h1, h2⟩ := classTo_is hT c i (by omega)
  unfold classTo
  by_cases hc : C i = c
  ·rw [if_pos hc]
   refine ⟨laidR_sorted h1 fun hm => ?_, fun f => ?_⟩
   ·obtain ⟨j, a, b, _⟩ := (h2 _).1 hm
    have := hT i j (by omega) (by omega) b
    omega
   ·rw [laidR_mem, h2]
    constructor
    ·rintro (rfl | ⟨j, a, b, c⟩)
     ·exact ⟨i, by omega, rfl, hc⟩
     ·exact ⟨j, by omega, b, c⟩
    ·rintro ⟨j, a, b, c⟩
     by_cases e : j = i
     ·subst e; exact .inl b
     ·exact .inr ⟨j, by omega, b, c⟩
  ·rw [if_neg hc]
   refine ⟨h1, fun f => ?_⟩
   rw [h2]
   constructor
   ·rintro ⟨j, a, b, c⟩
    exact ⟨j, by omega, b, c⟩
   ·rintro ⟨j, a, b, c⟩
    by_cases e : j = i
    ·subst e; exact absurd c hc
    ·exact ⟨j, by omega, b, c⟩
theorem classTo_head (hT : ∀ i j, i < n → j < n → T i = T j → i = j) {j : Nat} (hj : j < n) (hm : minTo T C j n = T j) : (classTo T C (C j) n).head? = some (T j) := by
 obtain ⟨h1, h2⟩ := classTo_is hT (C j) n (Nat.le_refl _)
 have hin := (h2 (T j)).2 ⟨j, hj, rfl, rfl⟩
 cases hl : classTo T C (C j) n with
 | nil => rw [hl] at hin; cases hin
 | cons a l =>
  rw [hl] at hin h1
  rw [List.head?_cons]
  rcases List.mem_cons.1 hin with e | e
  ·rw [e]
  ·exfalso
   have hlt := (List.pairwise_cons.1 h1).1 _ e
   obtain ⟨q, q1, q2, q3⟩ := (h2 a).1 (by rw [hl]; simp)
   rw [q2, ← hm] at hlt
   exact (minTo_is (T := T) (C := C) j hj n (Nat.le_refl _)).2 q (.inl q1) q3 hlt
theorem classes_by (hT : ∀ i j, i < n → j < n → T i = T j → i = j) (ix : ByteArray → Nat) (hix : ∀ j, j < n → ix (T j) = j) :
  ClassedBy (fun y => ∃ i, i < n ∧ T i = y) (fun x y => ∃ i j, i < n ∧ j < n ∧ T i = x ∧ T j = y ∧ C i = C j) ((firstsTo T C n n).map fun f => classTo T C (C (ix f)) n) := by
 obtain ⟨f1, f2⟩ := firstsTo_is (C := C) hT n (Nat.le_refl _)
 have key : ∀ f ∈ firstsTo T C n n, ∃ j, j < n ∧ f = T j ∧ ix f = j ∧ minTo T C j n = T j := fun f hf => by
  obtain ⟨j, a, b, c⟩ := (f2 f).1 hf
  exact ⟨j, a, b, by rw [b]; exact hix j a, c⟩
 refine ⟨fun l hl => ?_, ?_, fun l hl x hx y => ?_, fun x ⟨i, hi, hx⟩ => ?_⟩
 ·obtain ⟨f, hf, rfl⟩ := List.mem_map.1 hl
  obtain ⟨j, a, b, c, d⟩ := key f hf
  refine ⟨(classTo_is hT _ n (Nat.le_refl _)).1, fun e => ?_⟩
  have := classTo_head hT a d
  rw [c] at e
  rw [e] at this
  cases this
 ·rw [List.pairwise_map]
  refine f1.imp_of_mem fun {a b} ha hb hab => ?_
  obtain ⟨j, j1, j2, j3, j4⟩ := key a ha
  obtain ⟨k, k1, k2, k3, k4⟩ := key b hb
  rw [j3, k3]
  exact ⟨T j, T k, classTo_head hT j1 j4, classTo_head hT k1 k4, by rw [← j2, ← k2]; exact hab⟩
 ·obtain ⟨f, hf, rfl⟩ := List.mem_map.1 hl
  have hc := (classTo_is (C := C) hT (C (ix f)) n (Nat.le_refl _)).2
  obtain ⟨i, i1, i2, i3⟩ := (hc x).1 hx
  rw [hc y]
  constructor
  ·rintro ⟨j, j1, j2, j3⟩
   exact ⟨⟨j, j1, j2.symm⟩, i, j, i1, j1, i2.symm, j2.symm, by rw [i3, j3]⟩
  ·rintro ⟨_, a, b, a1, b1, a2, b2, e⟩
   have := hT a i a1 i1 (by rw [a2, i2])
   subst this
   exact ⟨b, b1, b2.symm, by rw [← e, i3]⟩
 ·obtain ⟨⟨j, j1, j2, j3⟩, h4⟩ := minTo_is (T := T) (C := C) i hi n (Nat.le_refl _)
  have hmin : minTo T C j n = T j := by
   obtain ⟨⟨q, q1, q2, q3⟩, h5⟩ := minTo_is (T := T) (C := C) j j1 n (Nat.le_refl _)
   have a1 := h4 q (.inl q1) (by rw [q3, j3])
   have a2 := h5 j (.inr rfl) rfl
   rw [j2] at a1
   rw [q2] at a2 ⊢
   by_cases e : T q = T j
   ·exact e
   ·exact absurd (bLt_total a1 e) a2
  refine ⟨classTo T C (C (ix (T j))) n, List.mem_map.2 ⟨T j, (f2 _).2 ⟨j, j1, rfl, hmin⟩, rfl⟩, ?_⟩
  rw [hix j j1, (classTo_is hT (C j) n (Nat.le_refl _)).2]
  exact ⟨i, hi, hx.symm, j3.symm⟩
end
end Go.Proofs.YtmfkpllnmmfpiaaGreatDoor

namespace Go.Proofs.YtmfkpllnmmfpiaaGreatDoor
open Go.RowKit Go.Sort
theorem TextsStrict {S : WS} (hd : ∀ i j, i < S.shapes.length → j < S.shapes.length → plainT S i = plainT S j → i = j) : (sortedT S).Pairwise fun a b => bLt a.1 b.1 := by
 obtain ⟨_, hs⟩ := sortedT_perm S
 have hl := sortedT_length S
 have hp := sortedT_permL S
 have hn := (sortedT_nums S).1
 rw [List.pairwise_iff_getElem]
 intro i j hi hj hij
 have h := hs i j (Nat.zero_le _) hij (by omega)
 have e1 : (sortedT S).toArray[i]! = (sortedT S)[i] := by simp [getElem!_pos, hi]
 have e2 : (sortedT S).toArray[j]! = (sortedT S)[j] := by simp [getElem!_pos, hj]
 rw [e1, e2] at h
 have h2 : ¬ bLt (sortedT S)[j].1 (sortedT S)[i].1 := fun hb => by
  have := (ltT_iff (sortedT S)[j] (sortedT S)[i]).2 hb
  unfold ltT at this
  rw [h] at this
  cases this
 refine bLt_total h2 fun e => ?_
 have key : ∀ t ∈ sortedT S, t.2 < S.shapes.length ∧ t.1 = plainT S t.2 := fun t ht => by
  have := hp.mem_iff.1 ht
  unfold textsTo at this
  obtain ⟨q, hq, rfl⟩ := List.mem_map.1 this
  exact ⟨List.mem_range.1 hq, rfl⟩
 have k1 := key _ (List.getElem_mem hi)
 have k2 := key _ (List.getElem_mem hj)
 rw [k1.2, k2.2] at e
 have e3 := hd _ _ k2.1 k1.1 e
 have a1 : ((sortedT S).map (·.2))[i]? = some (sortedT S)[i].2 := by rw [List.getElem?_map, List.getElem?_eq_getElem hi]; rfl
 have a2 : ((sortedT S).map (·.2))[j]? = some (sortedT S)[i].2 := by rw [List.getElem?_map, List.getElem?_eq_getElem hj, ← e3]; rfl
 have := nodup_at hn a1 a2
 omega
def ofCls (S : WS) (ts : List TN) (c : Nat) : List ByteArray := (ts.filter (fun t => classAt S t.2 == c)).map (·.1)
theorem ofCls_mem {S : WS} {ts : List TN} {c : Nat} {y : ByteArray} : y ∈ ofCls S ts c ↔ ∃ t ∈ ts, classAt S t.2 = c ∧ t.1 = y := by
 unfold ofCls
 simp only [List.mem_map, List.mem_filter, beq_iff_eq]
 constructor
 ·rintro ⟨t, ⟨h1, h2⟩, h3⟩
  exact ⟨t, h1, h2, h3⟩
 ·rintro ⟨t, h1, h2, h3⟩
  exact ⟨t, ⟨h1, h2⟩, h3⟩
theorem heads_firsts (S : WS) : ∀ ts : List TN, ts.Pairwise (fun a b => bLt a.1 b.1) → (firstsOf (ts.map fun t => classAt S t.2)).Pairwise fun c d => ∃ a b, (ofCls S ts c).head? = some a ∧ (ofCls S ts d).head? = some b ∧ bLt a b := by
 refine list_snoc_induction (fun _ => by simp [firstsOf]) fun ts t ih h => ?_
 rw [List.pairwise_append] at h
 have ih := ih h.1
 have hsp : ∀ c, ofCls S (ts ++ [t]) c = ofCls S ts c ++ (if classAt S t.2 = c then [t.1] else []) := fun c => by
  unfold ofCls
  rw [List.filter_append, List.map_append]
  congr 1
  by_cases e : classAt S t.2 = c
  ·simp [e]
  ·simp [e]
 have hhd : ∀ c a, (ofCls S ts c).head? = some a → (ofCls S (ts ++ [t]) c).head? = some a := fun c a ha => by
  rw [hsp, List.head?_append, ha]
  rfl
 have h2 : (firstsOf (ts.map fun t => classAt S t.2)).Pairwise fun c d => ∃ a b, (ofCls S (ts ++ [t]) c).head? = some a ∧ (ofCls S (ts ++ [t]) d).head? = some b ∧ bLt a b := ih.imp fun {c d} ⟨a, b, h1, h2, h3⟩ => ⟨a, b, hhd c a h1, hhd d b h2, h3⟩
 rw [List.map_append, List.map_cons, List.map_nil, firstsOf_snoc]
 unfold firstStep
 split
 ·exact h2
 ·rename_i hnew
  rw [List.pairwise_append]
  refine ⟨h2, by simp, fun c hc d hd => ?_⟩
  simp only [List.mem_singleton] at hd
  subst hd
  have hnone : ofCls S ts (classAt S t.2) = [] := by
   rw [List.eq_nil_iff_forall_not_mem]
   intro y hy
   obtain ⟨u, hu, he, _⟩ := ofCls_mem.1 hy
   exact hnew ((mem_firsts _ _).2 (List.mem_map.2 ⟨u, hu, he⟩))
  obtain ⟨u, hu, he⟩ := List.mem_map.1 ((mem_firsts _ _).1 hc)
  cases hl : ofCls S ts c with
  | nil =>
   have : u.1 ∈ ofCls S ts c := ofCls_mem.2 ⟨u, hu, he, rfl⟩
   rw [hl] at this
   cases this
  | cons a l =>
   obtain ⟨q, hq, _, hq2⟩ := ofCls_mem.1 (show a ∈ ofCls S ts c by rw [hl]; simp)
   refine ⟨a, t.1, hhd c a (by rw [hl]; rfl), by rw [hsp, hnone, if_pos rfl]; rfl, ?_⟩
   rw [← hq2]
   exact h.2.2 q hq t (by simp)
theorem classesOf_by {S : WS} (hd : ∀ i j, i < S.shapes.length → j < S.shapes.length → plainT S i = plainT S j → i = j) :
  ClassedBy (fun y => ∃ i, i < S.shapes.length ∧ plainT S i = y) (fun x y => ∃ i j, i < S.shapes.length ∧ j < S.shapes.length ∧ plainT S i = x ∧ plainT S j = y ∧ classAt S i = classAt S j) (classesOf S) := by
 have hp := sortedT_permL S
 have hst := TextsStrict hd
 have key : ∀ t, t ∈ sortedT S ↔ t.2 < S.shapes.length ∧ t.1 = plainT S t.2 := fun t => by
  rw [hp.mem_iff]
  unfold textsTo
  simp only [List.mem_map, List.mem_range]
  constructor
  ·rintro ⟨q, hq, rfl⟩
   exact ⟨hq, rfl⟩
  ·rintro ⟨h1, h2⟩
   exact ⟨t.2, h1, by rw [← h2]⟩
 have e : classesOf S = (firstsOf ((sortedT S).map fun t => classAt S t.2)).map (ofCls S (sortedT S)) := by
  unfold classesOf listsTo clsTo
  rw [List.take_of_length_le (Nat.le_refl _)]
  refine List.map_congr_left fun c _ => ?_
  unfold ofClass ofCls
  rw [List.take_of_length_le (Nat.le_refl _)]
 rw [e]
 have hmem : ∀ c y, y ∈ ofCls S (sortedT S) c ↔ ∃ i, i < S.shapes.length ∧ plainT S i = y ∧ classAt S i = c := fun c y => by
  rw [ofCls_mem]
  constructor
  ·rintro ⟨t, h1, h2, h3⟩
   obtain ⟨a, b⟩ := (key t).1 h1
   exact ⟨t.2, a, by rw [← b, h3], h2⟩
  ·rintro ⟨i, h1, h2, h3⟩
   exact ⟨(plainT S i, i), (key _).2 ⟨h1, rfl⟩, h3, h2⟩
 refine ⟨fun l hl => ?_, ?_, fun l hl x hx y => ?_, fun x ⟨i, hi, hx⟩ => ?_⟩
 ·obtain ⟨c, hc, rfl⟩ := List.mem_map.1 hl
  refine ⟨?_, fun e0 => ?_⟩
  ·unfold ofCls
   rw [List.pairwise_map]
   exact hst.filter _
  ·obtain ⟨t, ht, he⟩ := List.mem_map.1 ((mem_firsts _ _).1 hc)
   have : t.1 ∈ ofCls S (sortedT S) c := ofCls_mem.2 ⟨t, ht, he, rfl⟩
   rw [e0] at this
   cases this
 ·rw [List.pairwise_map]
  exact heads_firsts S _ hst
 ·obtain ⟨c, hc, rfl⟩ := List.mem_map.1 hl
  obtain ⟨i, i1, i2, i3⟩ := (hmem c x).1 hx
  rw [hmem c y]
  constructor
  ·rintro ⟨j, j1, j2, j3⟩
   exact ⟨⟨j, j1, j2⟩, i, j, i1, j1, i2, j2, by rw [i3, j3]⟩
  ·rintro ⟨_, a, b, a1, b1, a2, b2, e⟩
   have := hd a i a1 i1 (by rw [a2, i2])
   subst this
   exact ⟨b, b1, b2, by rw [← e, i3]⟩
 ·refine ⟨ofCls S (sortedT S) (classAt S i), List.mem_map.2 ⟨classAt S i, (mem_firsts _ _).2 (List.mem_map.2 ⟨(plainT S i, i), (key _).2 ⟨hi, rfl⟩, rfl⟩), rfl⟩, ?_⟩
  exact (hmem _ x).2 ⟨i, hi, hx, rfl⟩
def textAt (ts : List Trm) (i : Nat) : ByteArray := match ts[i]? with | some t => t.text | none => noName
def classesR (L : List ST) : List (List ByteArray) := (firstsTo (textAt (termsR L)) (clsAt (drawnR L)) (termsR L).length (termsR L).length).map fun f => classTo (textAt (termsR L)) (clsAt (drawnR L)) (clsAt (drawnR L) ((idxT f (termsR L)).getD 0)) (termsR L).length
theorem ClassedBy.congr {K K' : ByteArray → Prop} {E E' : ByteArray → ByteArray → Prop} {out : List (List ByteArray)} (h : ClassedBy K E out) (hK : ∀ y, K y ↔ K' y) (hE : ∀ x y, E x y ↔ E' x y) : ClassedBy K' E' out :=
 ⟨h.each, h.heads, fun l hl x hx y => by rw [h.same l hl x hx y, hK, hE], fun x hx => h.all x ((hK x).2 hx)⟩
theorem Both.classes {S : WS} {L : List ST} (h : Both S L) : classesOf S = classesR L := by
 obtain ⟨hT, hk⟩ := termsR_ok h.ok
 have hB := h.holds.fine.web.base
 have h1 := classesOf_by (S := S) (fun i j hi hj e => by
  obtain ⟨t, kt, dt⟩ := h.holds.term i hi
  obtain ⟨u, ku, du⟩ := h.holds.term j hj
  rw [den_text hB dt, den_text hB du] at e
  have := text_inj (hT.ok t ((hk t).2 kt)) (hT.ok u ((hk u).2 ku)) e
  subst this
  exact dt.inj hB du)
 have htx : ∀ (i : Nat) (t : Trm), (termsR L)[i]? = some t → textAt (termsR L) i = t.text := fun i t e => by unfold textAt; rw [e]
 have hget : ∀ i, i < (termsR L).length → ∃ t, (termsR L)[i]? = some t := fun i hi => ⟨_, List.getElem?_eq_getElem hi⟩
 have h2 := classes_by (T := textAt (termsR L)) (C := clsAt (drawnR L)) (n := (termsR L).length) (fun i j hi hj e => by
  obtain ⟨t, ht⟩ := hget i hi
  obtain ⟨u, hu⟩ := hget j hj
  rw [htx i t ht, htx j u hu] at e
  have := text_inj (hT.ok t (List.mem_of_getElem? ht)) (hT.ok u (List.mem_of_getElem? hu)) e
  subst this
  exact nodup_at hT.nodup ht hu) (fun f => (idxT f (termsR L)).getD 0) (fun j hj => by
  obtain ⟨t, ht⟩ := hget j hj
  show (idxT (textAt (termsR L) j) (termsR L)).getD 0 = j
  rw [htx j t ht, (hT.idx (hT.ok t (List.mem_of_getElem? ht))).2 ht]
  rfl)
 refine h1.unique (h2.congr (fun y => ?_) (fun x y => ?_))
 ·constructor
  ·rintro ⟨i, hi, rfl⟩
   obtain ⟨t, ht⟩ := hget i hi
   obtain ⟨j, dj⟩ := h.holds.num t ((hk t).1 (List.mem_of_getElem? ht))
   exact ⟨j, dj.lt, by rw [den_text hB dj, htx i t ht]⟩
  ·rintro ⟨i, hi, rfl⟩
   obtain ⟨t, kt, dt⟩ := h.holds.term i hi
   obtain ⟨j, hj⟩ := List.getElem?_of_mem ((hk t).2 kt)
   exact ⟨j, (List.getElem?_eq_some_iff.1 hj).1, by rw [den_text hB dt, htx j t hj]⟩
 ·constructor
  ·rintro ⟨i, j, hi, hj, rfl, rfl, e⟩
   obtain ⟨t, ht⟩ := hget i hi
   obtain ⟨u, hu⟩ := hget j hj
   obtain ⟨a, da⟩ := h.holds.num t ((hk t).1 (List.mem_of_getElem? ht))
   obtain ⟨b, db⟩ := h.holds.num u ((hk u).1 (List.mem_of_getElem? hu))
   exact ⟨a, b, da.lt, db.lt, by rw [den_text hB da, htx i t ht], by rw [den_text hB db, htx j u hu], (h.holds.eq_iff da db).2 ((drawnR_iff h.ok ht hu).1 e)⟩
  ·rintro ⟨i, j, hi, hj, rfl, rfl, e⟩
   obtain ⟨t, kt, dt⟩ := h.holds.term i hi
   obtain ⟨u, ku, du⟩ := h.holds.term j hj
   obtain ⟨a, ha⟩ := List.getElem?_of_mem ((hk t).2 kt)
   obtain ⟨b, hb⟩ := List.getElem?_of_mem ((hk u).2 ku)
   exact ⟨a, b, (List.getElem?_eq_some_iff.1 ha).1, (List.getElem?_eq_some_iff.1 hb).1, by rw [den_text hB dt, htx a t ha], by rw [den_text hB du, htx b u hb], (drawnR_iff h.ok ha hb).2 ((h.holds.eq_iff dt du).1 e)⟩
end Go.Proofs.YtmfkpllnmmfpiaaGreatDoor

namespace Go.Proofs.YtmfkpllnmmfpiaaGreatDoor
open Go.RowKit
noncomputable def isIn (t : ByteArray) (l : List ByteArray) : Bool := @decide (t ∈ l) (Classical.propDecidable _)
theorem isIn_iff {t : ByteArray} {l : List ByteArray} : isIn t l = true ↔ t ∈ l := @decide_eq_true_iff (t ∈ l) (Classical.propDecidable _)
noncomputable def ofP (ls : List (List ByteArray)) (t : ByteArray) : Nat := ls.findIdx (isIn t)
theorem ofP_is {ls : List (List ByteArray)} {t : ByteArray} (h : ∃ l ∈ ls, t ∈ l) : ∃ l, ls[ofP ls t]? = some l ∧ t ∈ l ∧ ∀ i' l', i' < ofP ls t → ls[i']? = some l' → t ∉ l' := by
 obtain ⟨l, hl, ht⟩ := h
 have hlt : ofP ls t < ls.length := List.findIdx_lt_length_of_exists ⟨l, hl, isIn_iff.2 ht⟩
 refine ⟨ls[ofP ls t], List.getElem?_eq_getElem hlt, ?_, fun i' l' hi hl' hm => ?_⟩
 ·exact isIn_iff.1 (List.findIdx_getElem (xs := ls) (p := isIn t) (w := hlt))
 ·have := List.not_of_lt_findIdx (xs := ls) (p := isIn t) hi
  obtain ⟨hb, e⟩ := List.getElem?_eq_some_iff.1 hl'
  rw [e, isIn_iff.2 hm] at this
  simp at this
theorem ofP_unique {ls : List (List ByteArray)} {t : ByteArray} {i : Nat} {l : List ByteArray} (hi : ls[i]? = some l) (ht : t ∈ l) (hu : ∀ j l', ls[j]? = some l' → t ∈ l' → j = i) : ofP ls t = i := by
 obtain ⟨m, h1, h2, _⟩ := ofP_is ⟨l, List.mem_of_getElem? hi, ht⟩
 exact hu _ m h1 h2
noncomputable def rowT (ls : List (List ByteArray)) : Trm → RowP
 | .node nm ps => ⟨nm, ps.map fun p => ofP ls p.text, ofP ls (Trm.node nm ps).text⟩
theorem nodup_idx {l : List Nat} (h : l.Nodup) {j c : Nat} (hj : l[j]? = some c) : l.idxOf c = j := by
 have hm := List.mem_of_getElem? hj
 have hlt := List.idxOf_lt_length_iff.2 hm
 have h1 : l[l.idxOf c]? = some c := by rw [List.getElem?_eq_getElem hlt, List.getElem_idxOf hlt]
 exact nodup_at h h1 hj
theorem placesTo_at {S : WS} {ts : List TN} (hnd : (ts.map (·.2)).Nodup) (hlt : ∀ t ∈ ts, t.2 < ts.length) : ∀ (i p : Nat) (t : TN), i ≤ ts.length → p < i → ts[p]? = some t → (placesTo S ts i).getD t.2 0 = placeIn (clsTo S ts i) (classAt S t.2)
 | 0, p, t, _, hp, _ => by omega
 | i + 1, p, t, hi, hp, ht => by
  obtain ⟨u, hu⟩ : ∃ u, ts[i]? = some u := ⟨_, List.getElem?_eq_getElem (by omega)⟩
  rw [placesTo_succ hu, clsTo_succ hu]
  have hul := hlt u (List.mem_of_getElem? hu)
  by_cases e : p = i
  ·subst e
   rw [ht] at hu
   cases hu
   rw [List.getD_eq_getElem?_getD, List.getElem?_set_self (by rw [placesTo_length]; exact hul)]
   rfl
  ·have hne : u.2 ≠ t.2 := fun e2 => e (nodup_at hnd (x := t.2) (by rw [List.getElem?_map, ht]; rfl) (by rw [List.getElem?_map, hu]; simp [e2]))
   rw [List.getD_eq_getElem?_getD, List.getElem?_set_ne hne, ← List.getD_eq_getElem?_getD, placesTo_at hnd hlt i p t (by omega) (by omega) ht]
   have hc : classAt S t.2 ∈ clsTo S ts i := by
    unfold clsTo
    exact List.mem_map.2 ⟨t, List.mem_of_getElem? (i := p) (by rw [List.getElem?_take_of_lt (by omega)]; exact ht), rfl⟩
   exact (idx_prefix _ _ hc).symm
theorem sortedT_mem (S : WS) (t : TN) : t ∈ sortedT S ↔ t.2 < S.shapes.length ∧ t.1 = plainT S t.2 := by
 rw [(sortedT_permL S).mem_iff]
 unfold textsTo
 simp only [List.mem_map, List.mem_range]
 constructor
 ·rintro ⟨q, hq, rfl⟩
  exact ⟨hq, rfl⟩
 ·rintro ⟨h1, h2⟩
  exact ⟨t.2, h1, by rw [← h2]⟩
def allCls (S : WS) : List Nat := clsTo S (sortedT S) (sortedT S).length
theorem allCls_has {S : WS} {i : Nat} (hi : i < S.shapes.length) : classAt S i ∈ allCls S := by
 unfold allCls clsTo
 rw [List.take_of_length_le (Nat.le_refl _)]
 exact List.mem_map.2 ⟨(plainT S i, i), (sortedT_mem S _).2 ⟨hi, rfl⟩, rfl⟩
theorem placesOf_at {S : WS} {i : Nat} (hi : i < S.shapes.length) : (placesOf S).getD i 0 = placeIn (allCls S) (classAt S i) := by
 obtain ⟨p, hp⟩ := List.getElem?_of_mem ((sortedT_mem S (plainT S i, i)).2 ⟨hi, rfl⟩)
 have := placesTo_at (sortedT_nums S).1 (sortedT_nums S).2 (sortedT S).length p _ (Nat.le_refl _) (List.getElem?_eq_some_iff.1 hp).1 hp (S := S)
 exact this
theorem ofP_place {S : WS} (hd : ∀ i j, i < S.shapes.length → j < S.shapes.length → plainT S i = plainT S j → i = j) {i : Nat} (hi : i < S.shapes.length) : ofP (classesOf S) (plainT S i) = placeIn (allCls S) (classAt S i) := by
 have hmem : ∀ c y, y ∈ ofClass S (sortedT S) (sortedT S).length c ↔ ∃ i, i < S.shapes.length ∧ plainT S i = y ∧ classAt S i = c := fun c y => by
  unfold ofClass
  rw [List.take_of_length_le (Nat.le_refl _)]
  constructor
  ·intro h
   obtain ⟨t, h1, h2⟩ := List.mem_map.1 h
   obtain ⟨h3, h4⟩ := List.mem_filter.1 h1
   obtain ⟨a, b⟩ := (sortedT_mem S t).1 h3
   exact ⟨t.2, a, by rw [← b]; exact h2, by simpa using h4⟩
  ·rintro ⟨q, h1, h2, h3⟩
   exact List.mem_map.2 ⟨(plainT S q, q), List.mem_filter.2 ⟨(sortedT_mem S _).2 ⟨h1, rfl⟩, by simpa using h3⟩, h2⟩
 have hc := allCls_has hi
 have hlt := idx_lt _ hc
 have hg : (firstsOf (allCls S))[(firstsOf (allCls S)).idxOf (classAt S i)]? = some (classAt S i) := by rw [List.getElem?_eq_getElem hlt, List.getElem_idxOf hlt]
 refine ofP_unique (l := ofClass S (sortedT S) (sortedT S).length (classAt S i)) ?_ ((hmem _ _).2 ⟨i, hi, rfl, rfl⟩) fun j l' hj hm => ?_
 ·unfold classesOf listsTo
  rw [List.getElem?_map]
  show Option.map _ ((firstsOf (allCls S))[(firstsOf (allCls S)).idxOf (classAt S i)]?) = _
  rw [hg]
  rfl
 ·unfold classesOf listsTo at hj
  rw [List.getElem?_map] at hj
  obtain ⟨c, h1, rfl⟩ := Option.map_eq_some_iff.1 hj
  obtain ⟨q, q1, q2, q3⟩ := (hmem c _).1 hm
  have := hd q i q1 hi q2
  subst this
  subst q3
  exact (nodup_idx (firsts_nodup (allCls S)) h1).symm
theorem place_inj {S : WS} {i j : Nat} (hi : i < S.shapes.length) (hj : j < S.shapes.length) (h : placeIn (allCls S) (classAt S i) = placeIn (allCls S) (classAt S j)) : classAt S i = classAt S j := by
 have h1 := idx_lt _ (allCls_has hi)
 have h2 := idx_lt _ (allCls_has hj)
 have e1 := List.getElem_idxOf h1
 have e2 := List.getElem_idxOf h2
 unfold placeIn at h
 rw [← e1, ← e2]
 congr 1
theorem partsL_shapeOf {nm : ByteArray} {ks : List Nat} (h : ks.length ≤ 3) : partsL (shapeOf nm ks) = ks := by
 match ks, h with
 | [], _ => rfl
 | [a], _ => rfl
 | [a, b], _ => rfl
 | [a, b, c], _ => rfl
theorem Both.distinct {S : WS} {L : List ST} (h : Both S L) : ∀ i j, i < S.shapes.length → j < S.shapes.length → plainT S i = plainT S j → i = j := fun i j hi hj e => by
 obtain ⟨hT, hk⟩ := termsR_ok h.ok
 have hB := h.holds.fine.web.base
 obtain ⟨t, kt, dt⟩ := h.holds.term i hi
 obtain ⟨u, ku, du⟩ := h.holds.term j hj
 rw [den_text hB dt, den_text hB du] at e
 have := text_inj (hT.ok t ((hk t).2 kt)) (hT.ok u ((hk u).2 ku)) e
 subst this
 exact dt.inj hB du
theorem Both.place {S : WS} {L : List ST} (h : Both S L) {t : Trm} {i : Nat} (d : DenE S t i) : ofP (classesOf S) t.text = placeIn (allCls S) (classAt S i) := by
 rw [← den_text h.holds.fine.web.base d]
 exact ofP_place h.distinct d.lt
theorem Both.row {S : WS} {L : List ST} (h : Both S L) {t : Trm} {i : Nat} (d : DenE S t i) : rowOf S (placesOf S) i = rowT (classesOf S) t := by
 have hp := h.place d
 have hpl := placesOf_at (S := S) d.lt
 cases d with
 | @mk nm ps ks _ h1 h2 h3 h4 =>
  have hs : shapeAt S i = shapeOf nm ks := by unfold shapeAt; rw [List.getD_eq_getElem?_getD, h1]; rfl
  unfold rowOf rowT
  rw [hs, partsL_shapeOf h3, hpl, ← hp]
  have e : ks.map (fun k => (placesOf S).getD k 0) = ps.map (fun p => ofP (classesOf S) p.text) := by
   refine list_ext (by simp [h2]) fun n a b ha hb => ?_
   rw [List.getElem?_map] at ha hb
   obtain ⟨k, hk, rfl⟩ := Option.map_eq_some_iff.1 ha
   obtain ⟨p, hp', rfl⟩ := Option.map_eq_some_iff.1 hb
   have dp := h4 n p k hp' hk
   rw [placesOf_at dp.lt, h.place dp]
  rw [e]
  rfl
theorem Both.row_fn {S : WS} {L : List ST} (h : Both S L) {t u : Trm} (kt : known L t) (ku : known L u) (e : keyR (rowT (classesOf S) t) = keyR (rowT (classesOf S) u)) : rowT (classesOf S) t = rowT (classesOf S) u := by
 obtain ⟨i, di⟩ := h.holds.num t kt
 obtain ⟨j, dj⟩ := h.holds.num u ku
 have hval : ofP (classesOf S) t.text = ofP (classesOf S) u.text := by
  rw [h.place di, h.place dj]
  congr 1
  refine (h.holds.eq_iff di dj).2 fun R hR => ?_
  obtain ⟨nm, ps⟩ := t
  obtain ⟨nm', qs⟩ := u
  obtain ⟨e1, e2⟩ := keyR_eq.1 e
  simp only [rowT] at e1 e2
  subst e1
  have hl : ps.length = qs.length := by have := congrArg List.length e2; simpa using this
  refine hR.cong nm ps qs kt ku hl fun n p q hp hq => ?_
  have hpq : ofP (classesOf S) p.text = ofP (classesOf S) q.text := by
   have := congrArg (fun l => l[n]?) e2
   simp only [List.getElem?_map, hp, hq, Option.map_some, Option.some.injEq] at this
   exact this
  have kp : Part p (.node nm ps) := .within (List.mem_of_getElem? hp) (.self p)
  have kq : Part q (.node nm qs) := .within (List.mem_of_getElem? hq) (.self q)
  obtain ⟨a, da⟩ := DenE.part kp di
  obtain ⟨b, db⟩ := DenE.part kq dj
  rw [h.place da, h.place db] at hpq
  exact (h.holds.eq_iff da db).1 (place_inj da.lt db.lt hpq) R hR
 obtain ⟨e1, e2⟩ := keyR_eq.1 e
 obtain ⟨nm, ps⟩ := t
 obtain ⟨nm', qs⟩ := u
 simp only [rowT] at e1 e2 ⊢
 rw [hval, e2, e1]
end Go.Proofs.YtmfkpllnmmfpiaaGreatDoor
