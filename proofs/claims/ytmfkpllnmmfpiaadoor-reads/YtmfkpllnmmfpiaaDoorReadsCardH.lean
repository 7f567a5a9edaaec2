/-
  What the rows of this seat have in common: the listed table, a world for the witness.
-/
import Derived.Test.YtmfkpllnmmfpiaaDoorCards
import Derived.Test.YtmfkpllnmmfpiaaDoorTie
import Derived.Test.YtmfkpllnmmfpiaaDoorBookReadH
import Derived.ProofKit
import Derived.OpenShut
import Derived.Deep.DeepHandedRow
import Derived.Lib.LaidTab
import Derived.LaidSub
import Derived.Test.YtmfkpllnmmfpiaaDoorReadsH
import Derived.ChangeMaps5
namespace Go.Proofs.YtmfkpllnmmfpiaaDoor
open Go.ChangeShapes Go.WideShapes Go.ChangeAt Go.RowKit

theorem own : ownKnob Tryd.prog.godebug = none := by kernel_rfl
theorem errnos_place : Tryd.prog.globalNamed "akin/akin.errnos" = some 0 := by kernel_rfl
theorem errnos_type : (Tryd.prog.globals[0]?).map (·.type) = some 113 := by kernel_rfl
/-- What the row lists, in a world: the table reads so. -/
theorem errTab_of {W : World} (h : laidMetH Tryd.prog [("akin/akin.errnos", Rows.laid_akin_akin_errnos)] W) : ErrTab W := by
  have h1 : laidMet Tryd.prog [("akin/akin.errnos", Lib.tabData .i64 errZ)] W := (laidMetH_iff.1 h).1
  have ht : Lib.TabIs Tryd.prog W "akin/akin.errnos" .i64 errZ := Lib.tabIs_of_head errnos_place errnos_type Tryd.underlying113 Tryd.underlying35 (by kernel_rfl) (by kernel_rfl) h1
  have hc := fun i hi => ht.cell errnos_place i hi
  exact ⟨World.block_lt_of_cell? _ _ (hc 0 (by decide)), hc⟩

/-- A world for the witness: the settled one, the listed table holding what its initialiser lays. -/
noncomputable def laidWorld (os : Os) : World :=
  { World.holding Tryd.prog os ⟨#[], #[], []⟩ with heap := (World.holding Tryd.prog os ⟨#[], #[], []⟩).heap.modify 0 fun
      | .cells _ t frozen => .cells #[.int .i64 0, .int .i64 1, .int .i64 2, .int .i64 3, .int .i64 3, .int .i64 3] t frozen
      | o => o }
end Go.Proofs.YtmfkpllnmmfpiaaDoor

/-
  The law akinlaw.Reads returns true, whatever the text: a Book of the program, asked of the text and told it, answers as the document's own Book does, and tells what is said as it does. No condition but the row's own (the listed variable reads as the program lays it).
-/
namespace Go.Proofs.YtmfkpllnmmfpiaaDoor
open Go.ChangeShapes Go.WideShapes Go.ChangeAt Go.ChangeMaps Go.RowKit

def noText : ByteArray := ⟨#[]⟩
theorem reads_met (os : Os) : laidMet Tryd.prog Rows.readsRow.laid ((laidWorld os).forCall (fun _ _ => 0) ⟨#[], #[.string noText], []⟩).memory :=
  laidMet_of_run' 8 (by kernel_rfl) (by kernel_rfl)
theorem reads_reads (os : Os) {H : Type} (enc : TypeId × Value → H) : ∃ places, DataW.whole enc Tryd.prog ((laidWorld os).forCall (fun _ _ => 0) ⟨#[], #[.string noText], []⟩).memory Tryd.f3.params.toList Rows.readsSpec.vars false (#[.string noText] : Array Value).toList 8 = some ([.lit (.string [])], [], places) :=
  ⟨[], by kernel_rfl⟩

set_option maxRecDepth 100000 in
theorem reads_contract (H : Type) (enc : TypeId × Value → H) (W : World) (base : Nat) (args : Array Value) (ds gs : List (DataW H)) (before : List MemPlace) (hval0 : ∀ (j : Nat) t v, Tryd.f3.params[j]? = some t → args[j]? = some v → Value.okWide Tryd.prog W .any base t v)
    (hW : DataW.Whole enc Tryd.prog Tryd.f3.params.toList Rows.readsSpec.vars false W args.toList ds gs before) (hL : laidMetH Tryd.prog Rows.readsRow.laid W) :
    Calls Tryd.prog 3 args W fun e W' => ∃ v, e = .returned v ∧ Rows.readsSpec.post enc Tryd.prog Tryd.f3 false true false false W args v W' := by
  have hval : ∀ (j : Nat) t v, Tryd.f3.params[j]? = some t → args[j]? = some v → Value.okWide Tryd.prog W .any base t v := hval0
  have hW' := hW
  obtain ⟨p, q, hA0, hV, rfl, hfz, hnd⟩ := hW
  have hA : DataW.TrodAll enc Tryd.prog W 0 (fun _ => true) true Tryd.f3.params.toList args.toList ds p := hA0
  rw [Tryd.params3] at hA hval
  obtain ⟨v0, vs0, d0, ds0, p0, q0, hargs, rfl, rfl, h0, r0⟩ := trodAll_cons hA
  obtain ⟨rfl, rfl, rfl⟩ := trodAll_nil r0
  obtain rfl : args = #[v0] := by cases args; simp_all
  obtain ⟨rfl, rfl⟩ := trodVars_none hV
  obtain ⟨s, rfl, rfl, rfl, hs⟩ := open_string Tryd.underlying9 (hval 0 9 v0 rfl rfl) h0
  clear hA0 hval0 hval
  refine (reads_any s hs W (errTab_of hL)).mono fun e W' ⟨he, hu⟩ => ?_
  subst he
  have bel := hu.below
  exact ⟨_, rfl, _, _, _, [], _, [], hW', trodAll_mk1 (shut_bool Tryd.underlying4 _), trodAll_cons_mk (shut_string Tryd.underlying9 hs) trodAll_mk0, rfl, bel.frame _, fun h => by cases h⟩

set_option maxRecDepth 100000 in
theorem reads_lifted (os : Os) (started : os.Started) (H : Type) (enc : TypeId × Value → H) (F : Stop.Interp) :
    ReturnsInHanded {} Tryd.checked os 3 .any ((OpenSpec.ofChange Rows.readsSpec).preRow enc Tryd.prog Tryd.f3 Rows.readsRow.domain false Rows.readsRow.laid) (((OpenSpec.ofChange Rows.readsSpec).at F).post enc Tryd.prog Tryd.f3 false true false false) := by
  obtain ⟨places, hx⟩ := reads_reads os enc
  refine returnsInHanded_of_row (C := Tryd.checked) (s := OpenSpec.ofChange Rows.readsSpec) own started (by kernel_rfl) Tryd.func3
    (witness_row_at (enc := enc) (C := Tryd.checked) false (laidWorld os) #[.string noText] rfl (by kernel_rfl) (by kernel_rfl) (by kernel_rfl)
      (OpenSpec.preRow_of_cond 8 hx (by kernel_rfl) (fun k hk => by cases hk) (by kernel_rfl) (reads_met os))) ?_
  intro W base args ds gs before hval hW _ _ _ hL _ _
  exact reads_contract H enc W base args ds gs before hval hW hL

theorem reads_said : Rows.ReadsSaid :=
  OpenClaim.holds_of_cond 3 Tryd.f3 rfl rfl rfl rfl rfl rfl rfl ⟨rfl, rfl, rfl, rfl, rfl⟩ rfl rfl rfl rfl rfl (by kernel_rfl) Tryd.func3 (by kernel_rfl)
    (of_decide_eq_true (by kernel_rfl)) (by unfold Func.isWrapper; first | (rw [if_pos (by decide +kernel)]; kernel_rfl) | (rw [if_neg (by decide +kernel)]; exact ⟨rfl, rfl⟩))
    (fun os started H enc _ F => by rw [OpenClaim.pre_eq_preRow]; exact reads_lifted os started H enc F)

/-- No parameter wants a stand-in; the program's own looks are off: what the card asks. -/
theorem reads_plain (f : FuncId) (fn : Func) (hf : Tryd.pinned.checked.prog.funcNamed "akin/akinlaw.Reads" = some f) (hfn : Tryd.pinned.checked.prog.funcs[f]? = some fn) :
    false = Tryd.pinned.checked.prog.looks [] ∧ ∀ (j : Nat) t, fn.params[j]? = some t → Tryd.pinned.checked.prog.wantsStandIn t = false := by
  obtain rfl : f = 3 := Option.some.inj ((show Tryd.prog.funcNamed "akin/akinlaw.Reads" = some 3 by kernel_rfl).symm.trans hf) |>.symm
  obtain rfl : fn = Tryd.f3 := (Option.some.inj (Tryd.func3.symm.trans hfn)).symm
  refine ⟨by kernel_rfl, fun j t ht => ?_⟩
  rw [Tryd.params3] at ht
  have hs : Tryd.pinned.checked.prog.wantsStandIn 9 = false := by kernel_rfl
  match j, ht with
  | 0, ht => cases ht; exact hs
  | j + 1, ht => simp at ht

theorem reads_card : Rows.ReadsCardSaid :=
  Claim7.holds_tied_plain_at .later [] _ _ _ _ reads_said (fun _ h => by cases h) (by kernel_rfl) (fun _ h => by cases h) reads_row_tie rfl ⟨rfl, rfl⟩ (by kernel_rfl) rfl reads_plain (by kernel_rfl)
#print axioms reads_card
end Go.Proofs.YtmfkpllnmmfpiaaDoor
