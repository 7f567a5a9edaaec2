/-
  The law akinlaw.Unmade returns true: on nil and on a Book that the caller made every call answers ErrClosed or nothing. No condition but the row's own (the listed variable reads as the program lays it, and that is not even used).
-/
import Derived.Test.YtmfkpllnmmfpiaaGreatDoorClosedH
import Derived.Test.YtmfkpllnmmfpiaaGreatDoorCards
import Derived.Test.YtmfkpllnmmfpiaaGreatDoorTie
import Derived.ProofKit
import Derived.OpenShut
import Derived.Deep.DeepHandedRow
import Derived.Lib.LaidTab
namespace Go.Proofs.YtmfkpllnmmfpiaaGreatDoor
open Go.ChangeShapes Go.WideShapes Go.ChangeAt Go.RowKit

theorem num_any (n : Int) (w : World) :
    Calls Tryz.prog 30 #[.int .i64 n] w fun e w' => e = .returned (.int .i64 n) ∧ w' = w := by
  go_enter Tryz.func30, Tryz.ntmps30
  go_wp2
  go_ret
  exact ⟨rfl, rfl⟩

set_option maxHeartbeats 1000000 in
set_option maxRecDepth 100000 in
theorem none_any (b : Value) (w : World) (h : NoBook b w) :
    Calls Tryz.prog 10 #[b] w fun e w' => e = .returned (.bool true) ∧ Below w.heap.size w w' := by
  go_enter Tryz.func10, Tryz.ntmps10
  go_wp2_with fail
  refine (say_none _ _ _ h).mono ?_
  rintro e w1 ⟨rfl, hb1⟩
  have h1 := h.later hb1
  go_wp2_with fail
  refine (follows_none _ _ _ h1).mono ?_
  rintro e w2 ⟨rfl, hb2⟩
  have h2 := h1.later hb2
  have hb4 := hb1.trans (hb2.mono hb1.size)
  clear h h1 hb1 hb2
  go_wp2_with fail
  refine (why_none _ _ _ h2).mono ?_
  rintro e w3 ⟨rfl, hb5⟩
  have h3 := h2.later hb5
  have hb3 := hb4.trans (hb5.mono hb4.size)
  clear h2 hb4 hb5
  go_wp2_with (first | (go_at_call 15; refine (world_none _ _ h3).mono ?_; rintro e w' ⟨rfl, rfl⟩) | (go_at_call 28; refine (mark_none _ _ h3).mono ?_; rintro e w' ⟨rfl, rfl⟩) | (go_at_call 29; refine (back_none _ _ h3).mono ?_; rintro e w' ⟨rfl, rfl⟩) | (go_at_call 17; refine (said_none _ _ h3).mono ?_; rintro e w' ⟨rfl, rfl⟩) | (go_at_call 20; refine (classes_none _ _ h3).mono ?_; rintro e w' ⟨rfl, rfl⟩) | (go_at_call 16; refine (clash_none _ _ h3).mono ?_; rintro e w' ⟨rfl, rfl⟩) | (go_at_call 30; refine (num_any _ _).mono ?_; rintro e w' ⟨rfl, rfl⟩))
  go_ret
  exact ⟨rfl, hb3⟩

set_option maxHeartbeats 1000000 in
set_option maxRecDepth 100000 in
theorem unmade_any (w : World) :
    Calls Tryz.prog 6 #[] w fun e w' => e = .returned (.bool true) ∧ Below w.heap.size w w' := by
  go_enter Tryz.func6, Tryz.ntmps6
  go_wp2_with fail
  refine (none_any _ _ (.inl rfl)).mono ?_
  rintro e w1 ⟨rfl, hb1⟩
  go_wp2_with fail
  refine (none_any _ _ (.inr ⟨_, rfl, by simp, by go_simp⟩)).mono ?_
  rintro e w2 ⟨rfl, hb2⟩
  have hb3 : Below w.heap.size w w2 := hb1.trans (((Below.refl _ _).alloc hb1.size _).trans (hb2.mono (by have := hb1.size; simp; omega)))
  clear hb1 hb2
  go_wp2
  go_ret
  exact ⟨rfl, hb3⟩

theorem own : ownKnob Tryz.prog.godebug = none := by kernel_rfl

/-- What the walk gives, in every world. -/
theorem unmade_contract (H : Type) (enc : TypeId × Value → H) (W : World) (args : Array Value) (ds gs : List (DataW H)) (before : List MemPlace)
    (hW : DataW.Whole enc Tryz.prog Tryz.f6.params.toList Rows.unmadeSpec.vars false W args.toList ds gs before) :
    Calls Tryz.prog 6 args W fun e W' => ∃ v, e = .returned v ∧ Rows.unmadeSpec.post enc Tryz.prog Tryz.f6 false true false false W args v W' := by
  have hW' := hW
  obtain ⟨p, q, hA0, hV, rfl, hfz, hnd⟩ := hW
  have hA : DataW.TrodAll enc Tryz.prog W 0 (fun _ => true) true Tryz.f6.params.toList args.toList ds p := hA0
  rw [Tryz.params6] at hA
  obtain ⟨hargs, rfl, rfl⟩ := trodAll_nil hA
  obtain rfl : args = #[] := by cases args; simp_all
  obtain ⟨rfl, rfl⟩ := trodVars_none hV
  clear hA0
  simp only [List.append_nil] at hW'
  refine (unmade_any W).mono fun e W' ⟨he, hg⟩ => ?_
  subst he
  exact ⟨_, rfl, [], [], _, [], [], [], hW', trodAll_cons_mk (shut_bool Tryz.underlying4 _) trodAll_mk0, trodAll_mk0, rfl, hg.frame _, fun h => by cases h⟩

theorem errnos_place : Tryz.prog.globalNamed "akin/akin.errnos" = some 0 := by kernel_rfl

/-- A world for the witness: the settled one, the listed table holding what its initialiser lays. -/
noncomputable def laidWorld (os : Os) : World :=
  { World.holding Tryz.prog os ⟨#[], #[], []⟩ with heap := (World.holding Tryz.prog os ⟨#[], #[], []⟩).heap.modify 0 fun
      | .cells _ t frozen => .cells #[.int .i64 0, .int .i64 1, .int .i64 2, .int .i64 3, .int .i64 3, .int .i64 3] t frozen
      | o => o }
theorem unmade_met (os : Os) : laidMet Tryz.prog Rows.unmadeRow.laid ((laidWorld os).forCall (fun _ _ => 0) ⟨#[], #[], []⟩).memory :=
  laidMet_of_run' 8 (by kernel_rfl) (by kernel_rfl)
theorem unmade_reads (os : Os) {H : Type} (enc : TypeId × Value → H) : ∃ places, DataW.whole enc Tryz.prog ((laidWorld os).forCall (fun _ _ => 0) ⟨#[], #[], []⟩).memory Tryz.f6.params.toList Rows.unmadeSpec.vars false (#[] : Array Value).toList 8 = some ([], [], places) :=
  ⟨[], by kernel_rfl⟩

set_option maxRecDepth 100000 in
theorem unmade_lifted (os : Os) (started : os.Started) (H : Type) (enc : TypeId × Value → H) (F : Stop.Interp) :
    ReturnsInHanded {} Tryz.checked os 6 .any ((OpenSpec.ofChange Rows.unmadeSpec).preRow enc Tryz.prog Tryz.f6 Rows.unmadeRow.domain false Rows.unmadeRow.laid) (((OpenSpec.ofChange Rows.unmadeSpec).at F).post enc Tryz.prog Tryz.f6 false true false false) := by
  obtain ⟨places, hx⟩ := unmade_reads os enc
  refine returnsInHanded_of_row (C := Tryz.checked) (s := OpenSpec.ofChange Rows.unmadeSpec) own started (by kernel_rfl) Tryz.func6
    (witness_row_at (enc := enc) (C := Tryz.checked) false (laidWorld os) #[] rfl (by kernel_rfl) (by kernel_rfl) (by kernel_rfl)
      (OpenSpec.preRow_of_cond 8 hx (by kernel_rfl) (fun k hk => by cases hk) (by kernel_rfl) (unmade_met os))) ?_
  intro W base args ds gs before _ hW _ _ _ _ _ _
  exact unmade_contract H enc W args ds gs before hW

theorem unmade_said : Rows.UnmadeSaid :=
  OpenClaim.holds_of_cond 6 Tryz.f6 rfl rfl rfl rfl rfl rfl rfl ⟨rfl, rfl, rfl, rfl, rfl⟩ rfl rfl rfl rfl rfl (by kernel_rfl) Tryz.func6 (by kernel_rfl)
    (of_decide_eq_true (by kernel_rfl)) (by unfold Func.isWrapper; first | (rw [if_pos (by decide +kernel)]; kernel_rfl) | (rw [if_neg (by decide +kernel)]; exact ⟨rfl, rfl⟩))
    (fun os started H enc _ F => by rw [OpenClaim.pre_eq_preRow]; exact unmade_lifted os started H enc F)

/-- No parameter wants a stand-in; the program's own looks are off: what the card asks. -/
theorem unmade_plain (f : FuncId) (fn : Func) (hf : Tryz.pinned.checked.prog.funcNamed "akin/akinlaw.Unmade" = some f) (hfn : Tryz.pinned.checked.prog.funcs[f]? = some fn) :
    false = Tryz.pinned.checked.prog.looks [] ∧ ∀ (j : Nat) t, fn.params[j]? = some t → Tryz.pinned.checked.prog.wantsStandIn t = false := by
  obtain rfl : f = 6 := Option.some.inj ((show Tryz.prog.funcNamed "akin/akinlaw.Unmade" = some 6 by kernel_rfl).symm.trans hf) |>.symm
  obtain rfl : fn = Tryz.f6 := (Option.some.inj (Tryz.func6.symm.trans hfn)).symm
  refine ⟨by kernel_rfl, fun j t ht => ?_⟩
  rw [Tryz.params6] at ht
  simp at ht

theorem unmade_card : Rows.UnmadeCardSaid :=
  Claim7.holds_tied_plain_at .later [] _ _ _ _ unmade_said (fun _ h => by cases h) (by kernel_rfl) (fun _ h => by cases h) unmade_row_tie rfl ⟨rfl, rfl⟩ (by kernel_rfl) rfl unmade_plain (by kernel_rfl)
#print axioms unmade_card
end Go.Proofs.YtmfkpllnmmfpiaaGreatDoor
