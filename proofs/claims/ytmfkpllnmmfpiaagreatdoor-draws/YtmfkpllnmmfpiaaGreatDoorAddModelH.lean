/-
  Plain: what 'add' does to a Web, and that it keeps it in order.
-/
import Derived.Test.YtmfkpllnmmfpiaaGreatDoorEnterH
namespace Go.Proofs.YtmfkpllnmmfpiaaGreatDoor
open Go.RowKit

/-- One by one, the Web handed on. -/
def addAll {α : Type} (f : WS → α → Nat × WS) : WS → List α → List Nat × WS
  | S, [] => ([], S)
  | S, x :: l => let r := f S x; let q := addAll f r.2 l; (r.1 :: q.1, q.2)
def shapeOf (name : ByteArray) (ns : List Nat) : Sh := (name, ns.length, ns.getD 0 0, ns.getD 1 0, ns.getD 2 0)
def addM : (n : Nat) → WS → Tm n → Nat × WS
  | 0, S, _ => (0, S)
  | n + 1, S, t =>
    let r := addAll (addM n) S t.parts
    match r.2.numbers (shapeOf t.name r.1) with
    | some k => (k, r.2)
    | none => enterM r.2 (shapeOf t.name r.1)

/-- How many terms a term has in it. -/
def sumOf {α : Type} (f : α → Nat) : List α → Nat
  | [] => 0
  | x :: l => f x + sumOf f l
def sizeT : (n : Nat) → Tm n → Nat
  | 0, _ => 0
  | n + 1, t => 1 + sumOf (sizeT n) t.parts
/-- All names short, all parts few. -/
def allOf {α : Type} (p : α → Prop) : List α → Prop
  | [] => True
  | x :: l => p x ∧ allOf p l
def Narrow : (n : Nat) → Tm n → Prop
  | 0, _ => False
  | n + 1, t => t.name.size ≤ 1000 ∧ t.parts.length ≤ 3 ∧ allOf (Narrow n) t.parts

/-- A Web in order. -/
structure Inv (S : WS) : Prop where
  len : S.shapes.length = S.classes.length
  nums : S.nums = S.shapes.length
  cl : ∀ c ∈ S.classes, c < S.classes.length
  al : ∀ s t, S.alike s = some t → t < S.shapes.length
  nu : ∀ s t, S.numbers s = some t → t < S.shapes.length

theorem Inv.class_lt {S : WS} (h : Inv S) (i : Nat) (hp : 0 < S.classes.length) : classAt S i < S.classes.length := by
  unfold classAt
  by_cases hi : i < S.classes.length
  · rw [List.getD_eq_getElem?_getD, List.getElem?_eq_getElem hi]
    exact h.cl _ (List.getElem_mem hi)
  · rw [List.getD_eq_getElem?_getD, List.getElem?_eq_none (by omega)]
    exact hp

theorem Inv.file {S : WS} (h : Inv S) (s : Sh) (n : Nat) (hn : n ≤ S.shapes.length) : (∀ t u, (fileM S s n).2.alike t = some u → u < S.shapes.length + 1) ∧ (fileM S s n).1 ≤ S.shapes.length := by
  unfold fileM
  split
  · rename_i t ht
    exact ⟨fun a b hab => by have := h.al a b hab; omega, Nat.le_of_lt (h.al _ _ ht)⟩
  · refine ⟨fun a b hab => ?_, hn⟩
    simp only [setF] at hab
    split at hab
    · cases hab; omega
    · have := h.al a b hab; omega

theorem Inv.enter {S : WS} (h : Inv S) (s : Sh) : Inv (enterM S s).2 ∧ (enterM S s).1 = S.shapes.length ∧ (enterM S s).2.shapes.length = S.shapes.length + 1 ∧ (enterM S s).2.trail.length ≤ S.trail.length + 2 ∧ (enterM S s).2.files ≤ S.files + 1 ∧ (enterM S s).2.said = S.said := by
  have hf := h.file s S.shapes.length (Nat.le_refl _)
  obtain ⟨r1, r2, r3, r4, r5, r6, r7⟩ := fileM_rows S s S.shapes.length
  have hlen := h.len
  have hnums := h.nums
  refine ⟨⟨?_, ?_, ?_, ?_, ?_⟩, rfl, ?_, ?_, r7, r5⟩
  · show (_ ++ [s]).length = (_ ++ [_]).length
    rw [r1, r2]
    simp [hlen]
  · show _ + 1 = (_ ++ [s]).length
    rw [r1, r4]
    simp [hnums]
  · intro c hc
    simp only [enterM, r2, List.mem_append, List.mem_singleton, List.length_append, List.length_singleton] at hc ⊢
    rcases hc with hc | hc
    · have := h.cl c hc; omega
    · subst hc
      split
      · omega
      · rename_i hne
        have hlt : (fileM S s S.shapes.length).1 < S.classes.length := by have := hf.2; omega
        have : classAt (fileM S s S.shapes.length).2 (fileM S s S.shapes.length).1 = classAt S (fileM S s S.shapes.length).1 := by unfold classAt; rw [r2]
        rw [this]
        have := h.class_lt (fileM S s S.shapes.length).1 (by omega)
        omega
  · intro a b hab
    simp only [enterM, r1, List.length_append, List.length_singleton] at hab ⊢
    exact hf.1 a b hab
  · intro a b hab
    simp only [enterM, r1, r3, setF, List.length_append, List.length_singleton] at hab ⊢
    split at hab
    · cases hab; omega
    · have := h.nu a b hab; omega
  · simp [enterM, r1]
  · simp [enterM]; omega

/-- What a step of adding does. -/
structure Adds (S : WS) (m : Nat) (k : Nat) (S' : WS) : Prop where
  inv : Inv S'
  lt : k < S'.shapes.length
  lo : S.shapes.length ≤ S'.shapes.length
  hi : S'.shapes.length ≤ S.shapes.length + m
  trail : S'.trail.length ≤ S.trail.length + 2 * m
  files : S'.files ≤ S.files + m
  said : S'.said = S.said
structure AddsAll (S : WS) (m : Nat) (ks : List Nat) (S' : WS) : Prop where
  inv : Inv S'
  lt : ∀ k ∈ ks, k < S'.shapes.length
  lo : S.shapes.length ≤ S'.shapes.length
  hi : S'.shapes.length ≤ S.shapes.length + m
  trail : S'.trail.length ≤ S.trail.length + 2 * m
  files : S'.files ≤ S.files + m
  said : S'.said = S.said

theorem addAll_adds {α : Type} {f : WS → α → Nat × WS} {size : α → Nat} {ok : α → Prop} (hf : ∀ S x, Inv S → ok x → Adds S (size x) (f S x).1 (f S x).2) :
    ∀ (l : List α) (S : WS), Inv S → allOf ok l → AddsAll S (sumOf size l) (addAll f S l).1 (addAll f S l).2 ∧ (addAll f S l).1.length = l.length
  | [], S, h, _ => ⟨⟨h, fun k hk => by simp [addAll] at hk, Nat.le_refl _, Nat.le_refl _, Nat.le_refl _, Nat.le_refl _, rfl⟩, rfl⟩
  | x :: l, S, h, hok => by
    have h1 := hf S x h hok.1
    obtain ⟨h2, h3⟩ := addAll_adds hf l (f S x).2 h1.inv hok.2
    obtain ⟨a1, a2, a3, a4, a5, a6, a7⟩ := h1
    obtain ⟨b1, b2, b3, b4, b5, b6, b7⟩ := h2
    refine ⟨⟨b1, fun k hk => ?_, ?_, ?_, ?_, ?_, b7.trans a7⟩, by simp [addAll, h3]⟩
    · simp only [addAll, List.mem_cons] at hk ⊢
      rcases hk with rfl | hk
      · omega
      · exact b2 k hk
    · simp only [addAll]; omega
    · simp only [addAll, sumOf]; omega
    · simp only [addAll, sumOf]; omega
    · simp only [addAll, sumOf]; omega
theorem addM_adds : ∀ (n : Nat) (S : WS) (t : Tm n), Inv S → Narrow n t → Adds S (sizeT n t) (addM n S t).1 (addM n S t).2
  | 0, _, _, _, h => h.elim
  | n + 1, S, t, h, hn => by
    obtain ⟨⟨b1, b2, b3, b4, b5, b6, b7⟩, hl⟩ := addAll_adds (addM_adds n) t.parts S h hn.2.2
    unfold addM sizeT
    simp only
    split
    · rename_i k hk
      exact ⟨b1, b1.nu _ _ hk, b3, by simp only; omega, by simp only; omega, by simp only; omega, b7⟩
    · obtain ⟨e1, e2, e3, e4, e5, e6⟩ := b1.enter (shapeOf t.name (addAll (addM n) S t.parts).1)
      exact ⟨e1, by omega, by omega, by omega, by omega, by omega, e6.trans b7⟩
end Go.Proofs.YtmfkpllnmmfpiaaGreatDoor
