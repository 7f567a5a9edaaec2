/-
  What the rows of this seat have in common: the listed table, a world for the witness.
-/
import Derived.Test.YtmfkpllnmmfpiaaDoorCards
import Derived.Test.YtmfkpllnmmfpiaaDoorTie
import Derived.Test.YtmfkpllnmmfpiaaDoorBookReadH
import Derived.ProofKit
import Derived.OpenShut
import Derived.Deep.DeepHandedRow
import Derived.Lib.LaidTab
import Derived.LaidSub
namespace Go.Proofs.YtmfkpllnmmfpiaaDoor
open Go.ChangeShapes Go.WideShapes Go.ChangeAt Go.RowKit

theorem own : ownKnob Tryd.prog.godebug = none := by kernel_rfl
theorem errnos_place : Tryd.prog.globalNamed "akin/akin.errnos" = some 0 := by kernel_rfl
theorem errnos_type : (Tryd.prog.globals[0]?).map (·.type) = some 113 := by kernel_rfl
/-- What the row lists, in a world: the table reads so. -/
theorem errTab_of {W : World} (h : laidMetH Tryd.prog [("akin/akin.errnos", Rows.laid_akin_akin_errnos)] W) : ErrTab W := by
  have h1 : laidMet Tryd.prog [("akin/akin.errnos", Lib.tabData .i64 errZ)] W := (laidMetH_iff.1 h).1
  have ht : Lib.TabIs Tryd.prog W "akin/akin.errnos" .i64 errZ := Lib.tabIs_of_head errnos_place errnos_type Tryd.underlying113 Tryd.underlying35 (by kernel_rfl) (by kernel_rfl) h1
  have hc := fun i hi => ht.cell errnos_place i hi
  exact ⟨World.block_lt_of_cell? _ _ (hc 0 (by decide)), hc⟩

/-- A world for the witness: the settled one, the listed table holding what its initialiser lays. -/
noncomputable def laidWorld (os : Os) : World :=
  { World.holding Tryd.prog os ⟨#[], #[], []⟩ with heap := (World.holding Tryd.prog os ⟨#[], #[], []⟩).heap.modify 0 fun
      | .cells _ t frozen => .cells #[.int .i64 0, .int .i64 1, .int .i64 2, .int .i64 3, .int .i64 3, .int .i64 3] t frozen
      | o => o }
end Go.Proofs.YtmfkpllnmmfpiaaDoor
