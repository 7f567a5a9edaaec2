/- RawRow -/
import Derived.Test.YtmfkpllnmmfpiaaGreatDoorTellW
import Derived.Test.YtmfkpllnmmfpiaaGreatDoorRawW
import Derived.ChangeOld
import Derived.Below
namespace Go.Proofs.YtmfkpllnmmfpiaaGreatDoor
open Go.ChangeShapes Go.WideShapes Go.ChangeAt Go.RowKit
theorem rawIs_of {W : World} {x : Addr} {len : Nat} {zs : List Int} (hl : len ≤ zs.length) (hcell : ∀ i, i < zs.length → W.cell? (x.add i) = some (.int .i64 (zs.getD i 0))) (hwz : ∀ n ∈ zs, (Lit.int .i64 n).wf = true) : RawIs W (some x) (zs.take len) := by
 have hget : ∀ i, i < len → (zs.take len).getD i 0 = zs.getD i 0 := fun i hi => by
  simp only [List.getD_eq_getElem?_getD]
  rw [List.getElem?_take_of_lt hi]
 refine ⟨fun i hi => ?_, fun i => ?_⟩
 ·have hi' : i < len := by simp at hi; omega
  have h1 := hcell i (by omega)
  obtain ⟨b, off, spot⟩ := x
  cases spot with
  | none =>
   rw [Addr.add_lit] at h1
   exact ⟨b, off, rfl, by rw [hget i hi']; exact h1⟩
  | some s =>
   have h2 := World.cell?_spot (hcell 0 (by omega))
   unfold Addr.add at h2
   simp at h2
 ·by_cases hi : i < (zs.take len).length
  ·have hm : (zs.take len).getD i 0 ∈ zs := by
    rw [List.getD_eq_getElem?_getD, List.getElem?_eq_getElem hi]
    exact List.mem_of_mem_take (List.getElem_mem hi)
   exact bounds_i64 (hwz _ hm)
  ·rw [List.getD_eq_getElem?_getD, List.getElem?_eq_none (by omega)]
   simp
end Go.Proofs.YtmfkpllnmmfpiaaGreatDoor
