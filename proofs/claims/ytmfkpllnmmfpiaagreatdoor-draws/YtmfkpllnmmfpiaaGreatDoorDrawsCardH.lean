/-
  What the rows of this seat have in common: the listed table, a world for the witness.
-/
import Derived.Test.YtmfkpllnmmfpiaaGreatDoorCards
import Derived.Test.YtmfkpllnmmfpiaaGreatDoorTie
import Derived.Test.YtmfkpllnmmfpiaaGreatDoorBookReadH
import Derived.ProofKit
import Derived.OpenShut
import Derived.Deep.DeepHandedRow
import Derived.Lib.LaidTab
import Derived.LaidSub
import Derived.Test.YtmfkpllnmmfpiaaGreatDoorLawStepH
import Derived.ChangeOld
import Derived.Below
import Derived.ChangeArms
import Derived.Deep.Slices
namespace Go.Proofs.YtmfkpllnmmfpiaaGreatDoor
open Go.ChangeShapes Go.WideShapes Go.ChangeAt Go.RowKit

theorem own : ownKnob Tryz.prog.godebug = none := by kernel_rfl
theorem errnos_place : Tryz.prog.globalNamed "akin/akin.errnos" = some 0 := by kernel_rfl
theorem errnos_type : (Tryz.prog.globals[0]?).map (·.type) = some 155 := by kernel_rfl
/-- What the row lists, in a world: the table reads so. -/
theorem errTab_of {W : World} (h : laidMetH Tryz.prog [("akin/akin.errnos", Rows.laid_akin_akin_errnos)] W) : ErrTab W := by
  have h1 : laidMet Tryz.prog [("akin/akin.errnos", Lib.tabData .i64 errZ)] W := (laidMetH_iff.1 h).1
  have ht : Lib.TabIs Tryz.prog W "akin/akin.errnos" .i64 errZ := Lib.tabIs_of_head errnos_place errnos_type Tryz.underlying155 Tryz.underlying47 (by kernel_rfl) (by kernel_rfl) h1
  have hc := fun i hi => ht.cell errnos_place i hi
  exact ⟨World.block_lt_of_cell? _ _ (hc 0 (by decide)), hc⟩

/-- A world for the witness: the settled one, the listed table holding what its initialiser lays. -/
noncomputable def laidWorld (os : Os) : World :=
  { World.holding Tryz.prog os ⟨#[], #[], []⟩ with heap := (World.holding Tryz.prog os ⟨#[], #[], []⟩).heap.modify 0 fun
      | .cells _ t frozen => .cells #[.int .i64 0, .int .i64 1, .int .i64 2, .int .i64 3, .int .i64 3, .int .i64 3] t frozen
      | o => o }
end Go.Proofs.YtmfkpllnmmfpiaaGreatDoor

/-
  A script that came in, as the walks take it.
-/
namespace Go.Proofs.YtmfkpllnmmfpiaaGreatDoor
open Go.ChangeShapes Go.WideShapes Go.ChangeAt Go.RowKit

set_option maxRecDepth 100000 in
theorem script_of {H : Type} {enc : TypeId × Value → H} {W : World} {a : Option Addr} {len cap fuel : Nat} {x : DataW H × List MemPlace} (h : DataW.trod enc Tryz.prog W 0 (fun _ => true) true fuel 22 [.slice a len cap] = some x) : len ≤ cap ∧ cap ≤ maxLen ∧ ∃ sc, sc.length = len ∧ ScriptIs W a sc := by
  have ce : Tryz.prog.cellsOf 41 = 3 := by kernel_rfl
  have c3 : Tryz.prog.cellsOf 3 = 1 := by kernel_rfl
  have c9 : Tryz.prog.cellsOf 9 = 1 := by kernel_rfl
  rcases Go.Deep.open_slice Tryz.underlying22 h with ⟨hc, _⟩ | ⟨ad, l, c, m, n, D, Pl, hc, hb, hl, hm, hmm, _, hx⟩
  · simp only [List.cons.injEq, and_true, Value.slice.injEq] at hc
    obtain ⟨rfl, rfl, rfl⟩ := hc
    exact ⟨Nat.le_refl _, by simp [maxLen], [], rfl, ⟨fun h => by simp at h, fun o ho => by cases ho⟩⟩
  · simp only [List.cons.injEq, and_true, Value.slice.injEq] at hc
    obtain ⟨rfl, rfl, rfl⟩ := hc
    have each : ∀ i, i < len → ∃ o : Int × Int × ByteArray, W.cell? (ad.add (i * 3)) = some (.int .i64 o.1) ∧ W.cell? (ad.add (i * 3 + 1)) = some (.int .i64 o.2.1) ∧ W.cell? (ad.add (i * 3 + 2)) = some (.string o.2.2) ∧ o.2.2.size ≤ maxLen := by
      intro i hi
      obtain ⟨cs', h1, h2⟩ := hx i (by rw [hmm]; simp; omega)
      rw [ce] at h1
      obtain ⟨_, hlen, hcell⟩ := World.cells?_some h1
      obtain ⟨xs, k, hk, hxy, _, hxl, hf⟩ := DataW.trod_struct Tryz.underlying41 h2
      match cs', hlen, xs, hxl with
      | [v0, v1, v2], _, [y0, y1, y2], _ =>
        have g0 := hf 0 _ rfl
        have g1 := hf 1 _ rfl
        have g2 := hf 2 _ rfl
        simp [c3, c9] at g0 g1 g2
        have e0 := hcell 0 (by omega)
        have e1 := hcell 1 (by omega)
        have e2 := hcell 2 (by omega)
        rw [Go.Deep.add_add] at e0 e1 e2
        obtain ⟨z0, q0, _⟩ := DataW.trod_int Tryz.underlying3 g0
        obtain ⟨z1, q1, _⟩ := DataW.trod_int Tryz.underlying3 g1
        obtain ⟨s, q2, _, hs⟩ := DataW.trod_string Tryz.underlying9 g2
        simp only [List.cons.injEq, and_true] at q0 q1 q2
        subst q0 q1 q2
        exact ⟨(z0, z1, s), by simpa using e0, by simpa using e1, by simpa using e2, hs⟩
    obtain ⟨sc, hsl, hsc⟩ := choose_list (P := fun (i : Nat) (o : Int × Int × ByteArray) => W.cell? (ad.add (i * 3)) = some (.int .i64 o.1) ∧ W.cell? (ad.add (i * 3 + 1)) = some (.int .i64 o.2.1) ∧ W.cell? (ad.add (i * 3 + 2)) = some (.string o.2.2) ∧ o.2.2.size ≤ maxLen) len each
    refine ⟨hl, hm, sc, hsl, ⟨fun hp => ?_, fun o ho => ?_⟩⟩
    · obtain ⟨b, off, spot⟩ := ad
      cases spot with
      | none =>
        obtain ⟨o, ho⟩ : ∃ o, sc[0]? = some o := ⟨_, List.getElem?_eq_getElem hp⟩
        have h0 := (hsc 0 o ho).1
        refine ⟨b, off, rfl, ?_, fun i o ho => ?_⟩
        · rw [Addr.add_lit] at h0
          exact World.block_lt_of_cell? _ _ h0
        · obtain ⟨k0, k1, k2, _⟩ := hsc i o ho
          rw [Addr.add_lit] at k0 k1 k2
          exact ⟨k0, by rw [Nat.add_assoc]; exact k1, by rw [Nat.add_assoc]; exact k2⟩
      | some s =>
        obtain ⟨o, ho⟩ : ∃ o, sc[0]? = some o := ⟨_, List.getElem?_eq_getElem hp⟩
        have h2 := World.cell?_spot (hsc 0 o ho).1
        unfold Addr.add at h2
        simp at h2
    · obtain ⟨i, hi⟩ := List.getElem?_of_mem ho
      exact (hsc i o hi).2.2.2
end Go.Proofs.YtmfkpllnmmfpiaaGreatDoor

/-
  The law akinlaw.Draws returns true, whatever the script: a Book of the program, told and asked in every order (Say, Follows, Clash, Classes, Said), answers as the document's own Book does. No condition but the row's own (the listed variable reads as the program lays it).
-/
namespace Go.Proofs.YtmfkpllnmmfpiaaGreatDoor
open Go.ChangeShapes Go.WideShapes Go.ChangeAt Go.RowKit

theorem draws_met (os : Os) : laidMet Tryz.prog Rows.drawsRow.laid ((laidWorld os).forCall (fun _ _ => 0) ⟨#[], #[.slice none 0 0], []⟩).memory :=
  laidMet_of_run' 8 (by kernel_rfl) (by kernel_rfl)
theorem draws_reads (os : Os) {H : Type} (enc : TypeId × Value → H) : ∃ places, DataW.whole enc Tryz.prog ((laidWorld os).forCall (fun _ _ => 0) ⟨#[], #[.slice none 0 0], []⟩).memory Tryz.f3.params.toList Rows.drawsSpec.vars false (#[.slice none 0 0] : Array Value).toList 8 = some ([.nil], [], places) :=
  ⟨[], by kernel_rfl⟩

set_option maxRecDepth 100000 in
theorem draws_contract (H : Type) (enc : TypeId × Value → H) (W : World) (base : Nat) (args : Array Value) (ds gs : List (DataW H)) (before : List MemPlace) (hval0 : ∀ (j : Nat) t v, Tryz.f3.params[j]? = some t → args[j]? = some v → Value.okWide Tryz.prog W .any base t v)
    (hW : DataW.Whole enc Tryz.prog Tryz.f3.params.toList Rows.drawsSpec.vars false W args.toList ds gs before) (hL : laidMetH Tryz.prog Rows.drawsRow.laid W) :
    Calls Tryz.prog 3 args W fun e W' => ∃ v, e = .returned v ∧ Rows.drawsSpec.post enc Tryz.prog Tryz.f3 false true false false W args v W' := by
  have hval : ∀ (j : Nat) t v, Tryz.f3.params[j]? = some t → args[j]? = some v → Value.okWide Tryz.prog W .any base t v := hval0
  have hW' := hW
  obtain ⟨p, q, hA0, hV, rfl, hfz, hnd⟩ := hW
  have hA : DataW.TrodAll enc Tryz.prog W 0 (fun _ => true) true Tryz.f3.params.toList args.toList ds p := hA0
  rw [Tryz.params3] at hA hval
  obtain ⟨v0, vs0, d0, ds0, p0, q0, hargs, rfl, rfl, h0, r0⟩ := trodAll_cons hA
  obtain ⟨rfl, rfl, rfl⟩ := trodAll_nil r0
  obtain rfl : args = #[v0] := by cases args; simp_all
  obtain ⟨rfl, rfl⟩ := trodVars_none hV
  obtain ⟨a0, len0, cap0, rfl⟩ := okWide_slice Tryz.underlying22 (hval 0 22 v0 rfl rfl)
  have k0 := h0
  have lt0 : ∀ x ∈ p0, x.block < W.heap.size := by obtain ⟨m, hm⟩ := k0; exact DataW.trod_lt m _ _ _ hm
  obtain ⟨hlc, hcm, sc, hsl, hsc⟩ : len0 ≤ cap0 ∧ cap0 ≤ maxLen ∧ ∃ sc, sc.length = len0 ∧ ScriptIs W a0 sc := by
    obtain ⟨fuel, hf⟩ := h0
    exact script_of hf
  clear hA0 hval0 hval
  subst hsl
  refine (draws_any a0 sc cap0 W (errTab_of hL) hsc hlc hcm).mono fun e W' ⟨he, hu⟩ => ?_
  subst he
  have bel := hu.below
  exact ⟨_, rfl, _, _, _, [], _, [], hW', trodAll_mk1 (shut_bool Tryz.underlying4 _), trodAll_cons_mk (Below.trod laidOut (by kernel_rfl) (of_decide_eq_true (by kernel_rfl)) k0 bel lt0) trodAll_mk0, rfl, bel.frame _, fun h => by cases h⟩

set_option maxRecDepth 100000 in
theorem draws_lifted (os : Os) (started : os.Started) (H : Type) (enc : TypeId × Value → H) (F : Stop.Interp) :
    ReturnsInHanded {} Tryz.checked os 3 .any ((OpenSpec.ofChange Rows.drawsSpec).preRow enc Tryz.prog Tryz.f3 Rows.drawsRow.domain false Rows.drawsRow.laid) (((OpenSpec.ofChange Rows.drawsSpec).at F).post enc Tryz.prog Tryz.f3 false true false false) := by
  obtain ⟨places, hx⟩ := draws_reads os enc
  refine returnsInHanded_of_row (C := Tryz.checked) (s := OpenSpec.ofChange Rows.drawsSpec) own started (by kernel_rfl) Tryz.func3
    (witness_row_at (enc := enc) (C := Tryz.checked) false (laidWorld os) #[.slice none 0 0] rfl (by kernel_rfl) (by kernel_rfl) (by kernel_rfl)
      (OpenSpec.preRow_of_cond 8 hx (by kernel_rfl) (fun k hk => by cases hk) (by kernel_rfl) (draws_met os))) ?_
  intro W base args ds gs before hval hW _ _ _ hL _ _
  exact draws_contract H enc W base args ds gs before hval hW hL

theorem draws_said : Rows.DrawsSaid :=
  OpenClaim.holds_of_cond 3 Tryz.f3 rfl rfl rfl rfl rfl rfl rfl ⟨rfl, rfl, rfl, rfl, rfl⟩ rfl rfl rfl rfl rfl (by kernel_rfl) Tryz.func3 (by kernel_rfl)
    (of_decide_eq_true (by kernel_rfl)) (by unfold Func.isWrapper; first | (rw [if_pos (by decide +kernel)]; kernel_rfl) | (rw [if_neg (by decide +kernel)]; exact ⟨rfl, rfl⟩))
    (fun os started H enc _ F => by rw [OpenClaim.pre_eq_preRow]; exact draws_lifted os started H enc F)

/-- No parameter wants a stand-in; the program's own looks are off: what the card asks. -/
theorem draws_plain (f : FuncId) (fn : Func) (hf : Tryz.pinned.checked.prog.funcNamed "akin/akinlaw.Draws" = some f) (hfn : Tryz.pinned.checked.prog.funcs[f]? = some fn) :
    false = Tryz.pinned.checked.prog.looks [] ∧ ∀ (j : Nat) t, fn.params[j]? = some t → Tryz.pinned.checked.prog.wantsStandIn t = false := by
  obtain rfl : f = 3 := Option.some.inj ((show Tryz.prog.funcNamed "akin/akinlaw.Draws" = some 3 by kernel_rfl).symm.trans hf) |>.symm
  obtain rfl : fn = Tryz.f3 := (Option.some.inj (Tryz.func3.symm.trans hfn)).symm
  refine ⟨by kernel_rfl, fun j t ht => ?_⟩
  rw [Tryz.params3] at ht
  have hs : Tryz.pinned.checked.prog.wantsStandIn 22 = false := by kernel_rfl
  match j, ht with
  | 0, ht => cases ht; exact hs
  | j + 1, ht => simp at ht

theorem draws_card : Rows.DrawsCardSaid :=
  Claim7.holds_tied_plain_at .later [] _ _ _ _ draws_said (fun _ h => by cases h) (by kernel_rfl) (fun _ h => by cases h) draws_row_tie rfl ⟨rfl, rfl⟩ (by kernel_rfl) rfl draws_plain (by kernel_rfl)
#print axioms draws_card
end Go.Proofs.YtmfkpllnmmfpiaaGreatDoor
