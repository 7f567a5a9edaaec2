/- WebWhy -/
import Derived.Test.YtmfkpllnmmfpiaaGreatDoorWhyOtherW
import Derived.Test.YtmfkpllnmmfpiaaGreatDoorWebTermW
import Derived.Maps.OwnIn
import Derived.Sort.CutIn
import Derived.RangeFuncBox
namespace Go.Proofs.YtmfkpllnmmfpiaaGreatDoor
open Go.RowKit Go.Shelf
attribute [local go_sem] Oper.semAt_some
structure WhyOne (w3 W : World) (ob B7 B8 Bp : Nat) (c : SntX) (xs : List SntX) (j jp : Nat) : Prop where
 why : WhyAt w3 W ob (fun k => k = B7 ∨ k = B8 ∨ k = Bp) (otherM c xs j)
 c7 : W.cell? ⟨B7, 0, none⟩ = some (.pointer (some ⟨ob, 0, none⟩))
 c8 : W.cell? ⟨B8, 0, none⟩ = some (.slice (some ⟨Bp, 0, none⟩) xs.length xs.length)
 pl : W.ownsRow w3.heap.size 3 1 (.slice (some ⟨Bp, 0, none⟩) xs.length xs.length) xs.length (intsOf (trailsTo c xs jp))
 ne : B7 ≠ Bp ∧ B8 ≠ Bp ∧ B7 ≠ B8
 low : w3.heap.size ≤ B7 ∧ w3.heap.size ≤ B8
theorem WhyOne.own {w3 W W' : World} {ob B7 B8 Bp j jp : Nat} {c : SntX} {xs : List SntX} (h : WhyOne w3 W ob B7 B8 Bp c xs j jp) (U : Upd [] W W') : WhyOne w3 W' ob B7 B8 Bp c xs j jp := by
 have l7 := h.why.mn B7 (.inl rfl)
 have l8 := h.why.mn B8 (.inr (.inl rfl))
 have hs := U.size
 exact ⟨h.why.step U (fun k hk => by cases hk) (fun k hk => ⟨by have := h.why.mn k hk; omega, .inl hk⟩), (U.cell (p := ⟨B7, 0, none⟩) l7 (by simp)).trans h.c7, (U.cell (p := ⟨B8, 0, none⟩) l8 (by simp)).trans h.c8, U.ownsRow h.pl (fun _ _ => by simp), h.ne, h.low⟩
theorem WhyOne.place {w3 W : World} {ob B7 B8 Bp j : Nat} {c : SntX} {xs : List SntX} (h : WhyOne w3 W ob B7 B8 Bp c xs j j) (hj : j < xs.length) : WhyOne w3 (W.setCell ⟨Bp, j, none⟩ (.int .i64 (otherM c xs j).trail.length)) ob B7 B8 Bp c xs j (j + 1) := by
 have U : Upd [Bp] W (W.setCell ⟨Bp, j, none⟩ (.int .i64 (otherM c xs j).trail.length)) := (Upd.refl _ W).setCell (by simp) _
 have l7 := h.why.mn B7 (.inl rfl)
 have l8 := h.why.mn B8 (.inr (.inl rfl))
 have hs := U.size
 obtain ⟨n1, n2, n3⟩ := h.ne
 refine ⟨h.why.step U (fun k hk => ?_) (fun k hk => ⟨by have := h.why.mn k hk; omega, .inl hk⟩), (U.cell (p := ⟨B7, 0, none⟩) l7 (by simpa using n1)).trans h.c7, (U.cell (p := ⟨B8, 0, none⟩) l8 (by simpa using n2)).trans h.c8, ?_, h.ne, h.low⟩
 ·simp only [List.mem_singleton] at hk
  subst hk
  exact ⟨own_ge h.pl (k := k) rfl, .inr (.inr rfl)⟩
 ·rw [trailsTo_succ c xs j hj]
  exact ownsRow_set1 h.pl
theorem WhyOne.call {w3 W W' : World} {ob B7 B8 Bp j j' jp : Nat} {c : SntX} {xs : List SntX} {Ho Ho' : Hd} (h : WhyOne w3 W ob B7 B8 Bp c xs j jp) (hw : WebAt W ob Ho (fun k => w3.heap.size ≤ k ∧ ¬ (k = B7 ∨ k = B8 ∨ k = Bp)) (otherM c xs j)) (hw' : WebAt W' ob Ho' (fun k => (w3.heap.size ≤ k ∧ ¬ (k = B7 ∨ k = B8 ∨ k = Bp)) ∨ W.heap.size ≤ k) (otherM c xs j')) (U : Upd (Ho.blocks ob) W W') : WhyOne w3 W' ob B7 B8 Bp c xs j' jp := by
 have l7 := h.why.mn B7 (.inl rfl)
 have l8 := h.why.mn B8 (.inr (.inl rfl))
 refine ⟨h.why.call hw hw' U, (U.cell (p := ⟨B7, 0, none⟩) l7 (fun hm => (hw.inZ _ hm).2 (.inl rfl))).trans h.c7, (U.cell (p := ⟨B8, 0, none⟩) l8 (fun hm => (hw.inZ _ hm).2 (.inr (.inl rfl)))).trans h.c8, U.ownsRow h.pl (fun k hk hm => ?_), h.ne, h.low⟩
 simp only [own_slice, Option.some.injEq] at hk
 subst hk
 exact (hw.inZ _ hm).2 (.inr (.inr rfl))
end Go.Proofs.YtmfkpllnmmfpiaaGreatDoor
