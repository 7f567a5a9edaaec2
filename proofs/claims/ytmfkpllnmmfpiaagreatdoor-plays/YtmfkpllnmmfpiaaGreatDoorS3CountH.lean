/- Mark, BookMark, T3, S3Count -/
import Derived.Test.YtmfkpllnmmfpiaaGreatDoorReadSizeH
import Derived.Test.YtmfkpllnmmfpiaaGreatDoorJoinLawH
import Derived.Test.YtmfkpllnmmfpiaaGreatDoorBookAskH
import Derived.Test.YtmfkpllnmmfpiaaGreatDoorSignH
import Derived.Test.YtmfkpllnmmfpiaaGreatDoorRefReadH
import Derived.Test.YtmfkpllnmmfpiaaGreatDoorPowLawH
namespace Go.Proofs.YtmfkpllnmmfpiaaGreatDoor
open Go.RowKit
def markM (S : WS) : WS := { S with marks := S.marks ++ [S.trail.length] }
theorem undo1_marks (S : WS) (u : Un) : (undo1 S u).marks = S.marks := by
 unfold undo1
 repeat' split
 all_goals rfl
theorem CanBack.marks : ∀ {n : Nat} {S S0 : WS}, CanBack n S S0 → S.marks = S0.marks
 | 0, _, _, h => by have e : _ = _ := h; rw [e]
 | n + 1, S, S0, ⟨us, u, _, _, hc⟩ => by
  have h1 := CanBack.marks hc
  rw [undo1_marks] at h1
  exact h1
theorem Goes.marks {S0 S : WS} (h : Goes S0 S) : S.marks = S0.marks := by
 obtain ⟨n, _, hc⟩ := h
 exact hc.marks
theorem WebAt.grow_marks {w w1 w2 : World} {wb g cap : Nat} {H : Hd} {Z : Nat → Prop} {S : WS} {x : Nat} (h : WebAt w wb H Z S)
  (hu1 : Upd [] w w1) (hgrow : w1.grownBy w2 H.marks.ownBlock) (hat : H.marks.ownBlock = some g ∨ g = w1.heap.size)
  (hown : w2.ownsRow 0 3 1 (.slice (some ⟨g, 0, none⟩) (S.marks.length + 1) cap) (S.marks.length + 1) (intsOf S.marks ++ intsOf [x])) :
  WebAt (w2.setCell ⟨wb, 1, none⟩ (.slice (some ⟨g, 0, none⟩) (S.marks.length + 1) cap)) wb { H with marks := .slice (some ⟨g, 0, none⟩) (S.marks.length + 1) cap } (fun k => Z k ∨ w.heap.size ≤ k) { S with marks := S.marks ++ [x] } ∧
   Upd (H.blocks wb) w (w2.setCell ⟨wb, 1, none⟩ (.slice (some ⟨g, 0, none⟩) (S.marks.length + 1) cap)) ∧
   ∀ k ∈ ({ H with marks := .slice (some ⟨g, 0, none⟩) (S.marks.length + 1) cap } : Hd).blocks wb, k ∈ H.blocks wb ∨ w.heap.size ≤ k := by
 have hA := Hd.parts h.apart
 have hsz1 := hu1.size
 have U2 : Upd H.marks.ownBlock.toList w w2 := (hu1.mono (fun x hx _ => by cases hx)).trans (Upd.of_grown hgrow)
 have hwb2 : wb ∉ H.marks.ownBlock.toList := fun hm => (hA.m wb (by simpa using hm)).1 rfl
 have cm : w2.cell? ⟨wb, 1, none⟩ = some H.marks := (U2.cell h.lt hwb2).trans h.cm
 have U : Upd (wb :: H.marks.ownBlock.toList) w (w2.setCell ⟨wb, 1, none⟩ (.slice (some ⟨g, 0, none⟩) (S.marks.length + 1) cap)) := (U2.mono (fun x hx _ => by simp at hx ⊢; exact .inr hx)).setCell (by simp) _
 have hsub : ∀ k, k ∈ wb :: H.marks.ownBlock.toList → k ∈ H.blocks wb := fun k hk => by
  simp at hk
  rcases hk with rfl | hk
  ·exact H.mem_wb _
  ·exact Hd.mem_marks hk
 have hgf : H.marks.ownBlock = some g ∨ w.heap.size ≤ g := hat.imp id (fun e => by omega)
 have hgn : H.marks.ownBlock = some g ∨ g ∉ H.blocks wb := hgf.imp id (fun e hm => by have := h.mem_lt g hm; omega)
 have hgw : g ≠ wb := fun e => by
  subst e
  rcases hgf with hg | hg
  ·exact (hA.m g hg).1 rfl
  ·have := h.lt; omega
 have hH : ∀ k ∈ ({ H with marks := .slice (some ⟨g, 0, none⟩) (S.marks.length + 1) cap } : Hd).blocks wb, k ∈ H.blocks wb ∨ w.heap.size ≤ k := fun k hk => by
  rw [Hd.mem_iff] at hk
  rcases hk with h1 | h1 | h1 | h1 | h1 | h1 | h1 | h1
  ·exact .inl (Hd.mem_iff.2 (.inl h1))
  ·exact .inl (Hd.mem_iff.2 (.inr (.inl h1)))
  ·exact .inl (Hd.mem_iff.2 (.inr (.inr (.inl h1))))
  ·exact .inl (Hd.mem_backs h1)
  ·exact .inl (Hd.mem_shapes h1)
  ·exact .inl (Hd.mem_classes h1)
  ·exact .inl (Hd.mem_said h1)
  ·simp only [own_slice, Option.some.injEq] at h1
   subst h1
   exact hgf.imp (fun e => Hd.mem_marks e) id
 obtain ⟨cls, hrow, hall⟩ := h.rb
 have nobacks : ∀ k, H.backs.ownBlock = some k → k ∉ wb :: H.marks.ownBlock.toList := fun k hk hm => by simp at hm; rcases hm with hm | hm; exact (hA.b k hk).1 hm; exact (hA.m k hm).2.2.2.1 hk
 have noshapes : ∀ k, H.shapes.ownBlock = some k → k ∉ wb :: H.marks.ownBlock.toList := fun k hk hm => by simp at hm; rcases hm with hm | hm; exact (hA.s k hk).1 hm; exact (hA.m k hm).2.2.2.2.1 hk
 have noclasses : ∀ k, H.classes.ownBlock = some k → k ∉ wb :: H.marks.ownBlock.toList := fun k hk hm => by simp at hm; rcases hm with hm | hm; exact (hA.c k hk).1 hm; exact (hA.m k hm).2.2.2.2.2.1 hk
 have nosaid : ∀ k, H.said.ownBlock = some k → k ∉ wb :: H.marks.ownBlock.toList := fun k hk hm => by simp at hm; rcases hm with hm | hm; exact (hA.d k hk).1 hm; exact (hA.m k hm).2.2.2.2.2.2 hk
 have nonb : H.nb ∉ wb :: H.marks.ownBlock.toList := fun hm => by simp at hm; rcases hm with hm | hm; exact hA.wn hm.symm; exact (hA.m _ hm).2.1 rfl
 have noab : H.ab ∉ wb :: H.marks.ownBlock.toList := fun hm => by simp at hm; rcases hm with hm | hm; exact hA.wa hm.symm; exact (hA.m _ hm).2.2.1 rfl
 refine ⟨{
  lt := Nat.lt_of_lt_of_le h.lt U.size
  free := fun o => by rw [World.frozen?_setCell]; exact (U2.frozen (p := ⟨wb, o, none⟩) h.lt hwb2).trans (h.free o)
  c0 := by have := (U2.cell (p := ⟨wb, 0, none⟩) h.lt hwb2).trans h.c0; go_simp
  c1 := by have := (U2.cell (p := ⟨wb, 2, none⟩) h.lt hwb2).trans h.c1; go_simp
  c2 := by have := (U2.cell (p := ⟨wb, 3, none⟩) h.lt hwb2).trans h.c2; go_simp
  c3 := by have := (U2.cell (p := ⟨wb, 4, none⟩) h.lt hwb2).trans h.c3; go_simp
  c4 := by have := (U2.cell (p := ⟨wb, 5, none⟩) h.lt hwb2).trans h.c4; go_simp
  c5 := by have := (U2.cell (p := ⟨wb, 6, none⟩) h.lt hwb2).trans h.c5; go_simp
  cm := by go_simp
  rs := U.ownsRow h.rs noshapes
  rc := U.ownsRow h.rc noclasses
  rd := U.ownsRow h.rd nosaid
  rm := ?_
  mn := h.mn.later U nonb
  ma := h.ma.later U noab
  apart := Hd.apart_marks h.apart hgn
  rb := ⟨cls, U.ownsRow hrow nobacks, hall.mono fun _ _ hi => hi.closures U (fun k hk _ => hsub k hk) hH⟩
  inZ := fun k hk => (hH k hk).imp (h.inZ k) id }, U.mono fun x hx _ => hsub x hx, hH⟩
 have := ((Upd.refl [wb] w2).setCell (p := ⟨wb, 1, none⟩) (by simp) (.slice (some ⟨g, 0, none⟩) (S.marks.length + 1) cap)).ownsRow hown (fun k hk hm => by simp [Value.ownBlock] at hk hm; omega)
 show World.ownsRow _ _ _ _ _ (S.marks ++ [x]).length (intsOf (S.marks ++ [x]))
 rw [intsOf_append]
 simpa using this
set_option maxHeartbeats 400000 in
theorem marks_any (w : World) (wb : Nat) (H : Hd) (Z : Nat → Prop) (S : WS) (h : WebAt w wb H Z S) :
  Calls Tryz.prog 62 #[.pointer (some ⟨wb, 0, none⟩)] w fun e w' => e = .returned (.int .i64 S.marks.length) ∧ w' = w := by
 obtain ⟨g, cap, hv⟩ := slice_len h.rm
 have cm := h.cm
 rw [hv] at cm
 clear hv
 go_enter Tryz.func62, Tryz.ntmps62
 go_wp2
 go_ret
 exact ⟨rfl, rfl⟩
theorem marks_slice {w : World} {wb : Nat} {H : Hd} {Z : Nat → Prop} {S : WS} (h : WebAt w wb H Z S) : ∃ g cap, H.marks = .slice g S.marks.length cap ∧ S.marks.length ≤ cap ∧ cap ≤ maxLen ∧ (0 < S.marks.length → ∃ b, g = some ⟨b, 0, none⟩) := by
 rcases ownsRow_slice h.rm with ⟨h1, h2⟩ | ⟨g, cap, h1, h2, h3⟩
 ·exact ⟨none, 0, by rw [h1, h2], by omega, by simp [maxLen], fun e => by omega⟩
 ·exact ⟨_, cap, h1, h2, h3, fun _ => ⟨g, rfl⟩⟩
set_option maxHeartbeats 1000000 in
set_option maxRecDepth 100000 in
theorem trailMark_any (w : World) (wb : Nat) (H : Hd) (Z : Nat → Prop) (S : WS) (h : WebAt w wb H Z S) (hm : S.marks.length ≤ 1000) :
  Calls Tryz.prog 63 #[.pointer (some ⟨wb, 0, none⟩)] w fun e w' => ∃ mk, e = .returned (.tuple #[]) ∧ WebAt w' wb { H with marks := mk } (fun k => Z k ∨ w.heap.size ≤ k) (markM S) ∧ Upd (H.blocks wb) w w' ∧ ∀ k ∈ ({ H with marks := mk } : Hd).blocks wb, k ∈ H.blocks wb ∨ w.heap.size ≤ k := by
 obtain ⟨i0, hi, hz0, hz1, hz2⟩ := info_parts info_int
 have cm := h.cm
 have hlt := h.lt
 have hfr := h.free
 have hA := Hd.parts h.apart
 have HHere := hide (fun (W : World) (hU : Upd [] w W) => here_any W wb H Z S (h.later hU (fun _ _ => by simp)))
 have hrow1 := (((Upd.refl [] w).alloc (.cells #[.int .i64 S.trail.length] 3)).drew).ownsRow h.rm (fun _ _ => by simp)
 have Hc : Hid (∀ w3, (w.alloc (.cells #[.int .i64 S.trail.length] 3)).drew.grownBy w3 H.marks.ownBlock → w3.cell? ⟨wb, 1, none⟩ = some H.marks ∧ ∀ o, w3.frozen? ⟨wb, o, none⟩ = false) := fun w3 hg => by
  have hn : wb ∉ H.marks.ownBlock.toList := fun hm => (hA.m wb (by simpa using hm)).1 rfl
  have U := (((Upd.refl H.marks.ownBlock.toList w).alloc (.cells #[.int .i64 S.trail.length] 3)).drew).trans (Upd.of_grown hg)
  exact ⟨(U.cell h.lt hn).trans h.cm, fun o => (U.frozen (p := ⟨wb, o, none⟩) h.lt hn).trans (h.free o)⟩
 have Hfin : Hid (∀ g cap w3, (w.alloc (.cells #[.int .i64 S.trail.length] 3)).drew.grownBy w3 H.marks.ownBlock → (H.marks.ownBlock = some g ∨ g = (w.alloc (.cells #[.int .i64 S.trail.length] 3)).drew.heap.size) → w3.ownsRow 0 3 1 (.slice (some ⟨g, 0, none⟩) (S.marks.length + 1) cap) (S.marks.length + 1) (intsOf S.marks ++ [.int .i64 S.trail.length]) → _) :=
  fun g cap w3 hg hat hown => WebAt.grow_marks (x := S.trail.length) h (((Upd.refl [] w).alloc _).drew) hg hat hown
 have hnews : ∀ j u, [Value.int .i64 S.trail.length][j]? = some u → (w.alloc (.cells #[.int .i64 S.trail.length] 3)).drew.cell? ((⟨w.heap.size, 0, none⟩ : Addr).add j) = some u := World.news_of_block (heap_alloc_new w _)
 have hone : ∀ u ∈ [Value.int .i64 S.trail.length], u.oneCell' = true := by intro u hu'; simp at hu'; subst hu'; rfl
 have hcm2 : ((Upd.refl [] w).alloc (.cells #[.int .i64 S.trail.length] 3)).size = ((Upd.refl [] w).alloc (.cells #[.int .i64 S.trail.length] 3)).size := rfl
 have am := (((Upd.refl [] w).alloc (.cells #[.int .i64 S.trail.length] 3)).cell (p := ⟨wb, 1, none⟩) hlt (by simp)).trans cm
 have hn1 : wb ≠ w.heap.size := by omega
 clear hA h hcm2
 go_enter Tryz.func63, Tryz.ntmps63
 go_wp2_with fail
 go_region_law (first
  | (refine step_append_lies _ (by rfl) _ _ 44 (by rfl) 0 3 i0 (.int .i64 0) 1 8 Tryz.underlying44 hi hz0 hz1 hz2 (by rfl) (by decide) H.marks S.marks.length (intsOf S.marks) (by rfl) hrow1 ⟨w.heap.size, 0, none⟩ 1 1 [Value.int .i64 S.trail.length] (by rfl) (by rfl) hnews hone (by decide) (by unfold maxLen; omega) (by omega) (Nat.zero_le _) _ (by rfl) ?_; intro g cap w3 hown' hgrow hat hlt3; obtain ⟨k0, kf⟩ := Hc.out w3 hgrow)
  | (go_simp; go_at_call 56; refine (HHere.out _ (Upd.refl [] w).drew).mono ?_; rintro e w2 ⟨rfl, hw2⟩; rw [hw2]; clear hw2 w2))
 all_goals (
  go_wp2
  go_end0
  have := Hfin.out g cap w3 hgrow hat hown'
  exact ⟨_, rfl, this.1, this.2.1, this.2.2⟩)
theorem backToMark_none (w : World) (wb : Nat) (H : Hd) (Z : Nat → Prop) (S : WS) (h : WebAt w wb H Z S) (hm : S.marks = []) :
  Calls Tryz.prog 64 #[.pointer (some ⟨wb, 0, none⟩)] w fun e w' => e = .returned (.bool false) ∧ w' = w := by
 obtain ⟨g, cap, hd, _⟩ := marks_slice h
 have cm := h.cm
 rw [hd, hm] at cm
 clear hd h
 go_enter Tryz.func64, Tryz.ntmps64
 go_wp2
 go_ret
 exact ⟨rfl, rfl⟩
set_option maxHeartbeats 2000000 in
set_option maxRecDepth 100000 in
theorem backToMark_some (w : World) (wb : Nat) (H : Hd) (Z : Nat → Prop) (S S0 : WS) (ms : List Nat) (h : WebAt w wb H Z S) (hg : Goes S0 S) (hm : S0.marks = ms ++ [S0.trail.length]) (hb : S.trail.length ≤ 9000000) (hl : ms.length ≤ 1000) :
  Calls Tryz.prog 64 #[.pointer (some ⟨wb, 0, none⟩)] w fun e w' => e = .returned (.bool true) ∧ ∃ H', WebAt w' wb H' Z { S0 with marks := ms } ∧ Upd (H.blocks wb) w w' ∧ H'.blocks wb = H.blocks wb := by
 have hms := hg.marks
 have hlen : S.marks.length = ms.length + 1 := by rw [hms, hm]; simp
 have HB := hide (backTo_any w wb H Z S S0 h hg hb)
 have htl : S0.trail.length ≤ 9000000 := by
  obtain ⟨n, hn, _⟩ := hg
  omega
 obtain ⟨g, cap, hd, hc1, hc2, hgs⟩ := marks_slice h
 rw [hlen] at hd hc1 hgs
 obtain ⟨b, rfl⟩ := hgs (by omega)
 have cm := h.cm
 rw [hd] at cm
 have hrow := h.rm
 rw [hd, hlen, hms, hm] at hrow
 have hcell : w.cell? ⟨b, ms.length, none⟩ = some (.int .i64 S0.trail.length) := by
  have := hrow.cellAt ms.length (by omega)
  rw [this]
  simp [intsOf]
 unfold maxLen at hc2
 clear hrow hd hms hg
 have HF := hide (fun (w2 : World) (H2 : Hd) (hw2 : WebAt w2 wb H2 Z S0) => marks_slice hw2)
 have HCut := hide (fun (w2 : World) (H2 : Hd) (hw2 : WebAt w2 wb H2 Z S0) (g2 cap2 : Nat) (hd2 : H2.marks = .slice (some ⟨g2, 0, none⟩) S0.marks.length cap2) => hw2.cut_marks (m := ms.length) hd2 (by rw [hm]; simp))
 have Htake : Hid (S0.marks.take ms.length = ms) := by show _ = _; rw [hm]; simp
 have Hl0 : Hid (S0.marks.length = ms.length + 1) := by show _ = _; rw [hm]; simp
 have Hh := hide h
 clear h hm
 go_enter Tryz.func64, Tryz.ntmps64
 go_upto_region 5 with (go_at_call 59; refine HB.out.mono ?_; rintro e w2 ⟨rfl, H2, hw2, hu2, hH2⟩; have Hw2 := hide hw2; have Hu2 := hide hu2; have HH2 := hide hH2; clear hw2 hu2 hH2)
 obtain ⟨g2, cap2, hd2, hc3, hc4, hgs2⟩ := HF.out w2 H2 Hw2.out
 have hl0 := Hl0.out
 obtain ⟨b2, rfl⟩ := hgs2 (by omega)
 have cm2 := Hw2.out.cm
 have hf2 := Hw2.out.free
 have hlt2 := Hw2.out.lt
 have HC2 := hide (HCut.out w2 H2 Hw2.out b2 cap2 hd2)
 have HHd := hide hd2
 rw [hd2, hl0] at cm2
 unfold maxLen at hc4
 have hcap2 : (ms.length : Int) < (cap2 : Int) := by omega
 clear hd2 hl0 hgs2 hc3 HF HCut
 go_wp2
 go_ret
 refine ⟨rfl, _, by have := HC2.out; rw [Htake.out] at this; exact this, (Hu2.out.setCell (p := ⟨wb, 1, none⟩) (.inl (H.mem_wb wb)) _), ?_⟩
 rw [blocks_marks (g := b2) (by rw [HHd.out]; rfl)]
 exact HH2.out
end Go.Proofs.YtmfkpllnmmfpiaaGreatDoor

namespace Go.Proofs.YtmfkpllnmmfpiaaGreatDoor
open Go.RowKit
theorem Fine.marks {S : WS} (h : Fine S) (m : List Nat) : Fine { S with marks := m } := by
 have hr : ∀ k, reps { S with marks := m } k = reps S k := fun k => reps_congr k fun _ _ => Iff.rfl
 refine ⟨⟨⟨⟨h.web.base.inv.len, h.web.base.inv.nums, h.web.base.inv.cl, h.web.base.inv.al, h.web.base.inv.nu⟩, h.web.base.good, h.web.base.num, h.web.base.rep, h.web.base.saidLt, fun R hR => h.web.base.cls R ⟨hR.refl, hR.symm, hR.trans, hR.said, hR.cong⟩, fun R hR => h.web.base.alk R ⟨hR.refl, hR.symm, hR.trans, hR.said, hR.cong⟩⟩, h.web.eqs, fun i s hi => ?_⟩, ⟨?_, ?_⟩⟩
 ·rw [key_same (S := { S with marks := m }) (T := S) rfl]
  exact h.web.stable i s hi
 ·rw [hr]
  exact h.pot.trail
 ·rw [hr]
  exact h.pot.files
set_option maxHeartbeats 1000000 in
set_option maxRecDepth 100000 in
theorem bookMark_any (w : World) (bb : Nat) (Z : Nat → Prop) (S : WS) (h : BookAt w bb Z S) (hm : S.marks.length < 10) :
  Calls Tryz.prog 28 #[.pointer (some ⟨bb, 0, none⟩)] w fun e w' => e = .returned (.int .i64 0) ∧ BookAt w' bb (fun k => (Z k ∨ w.heap.size ≤ k) ∧ k < w'.heap.size) (markM S) ∧ ∃ L, (∀ k ∈ L, Z k) ∧ Upd L w w' := by
 obtain ⟨wb, H, hc1, hw⟩ := h.ex
 have HCl := hide (closed_made bb w h.self)
 have HMs := hide (marks_any w wb H _ S hw)
 have HM := hide (trailMark_any w wb H _ S hw (by omega))
 have hmI : (S.marks.length : Int) < 10 := by omega
 have Hh := hide h
 have Hw := hide hw
 clear h hw hm
 go_enter Tryz.func28, Tryz.ntmps28
 go_wp2_with (first
  | (go_at_call 44; refine HCl.out.mono ?_; rintro e w2 ⟨rfl, hw2⟩; rw [hw2]; clear hw2 w2)
  | (go_at_call 62; refine HMs.out.mono ?_; rintro e w2 ⟨rfl, hw2⟩; rw [hw2]; clear hw2 w2)
  | (go_at_call 63; refine HM.out.mono ?_; rintro e w3 ⟨mk, rfl, hw3, hu3, hH3⟩; have Hw3 := hide hw3; have Hu3 := hide hu3; clear hw3 hu3 hH3))
 go_ret
 exact ⟨rfl, WebAt.book Hh.out hc1 Hw.out.inZ Hu3.out Hw3.out (Hh.out.fine.marks _) Hh.out.terms Hh.out.saids, H.blocks wb, fun k hk => (Hw.out.inZ k hk).1, Hu3.out⟩
set_option maxHeartbeats 1000000 in
set_option maxRecDepth 100000 in
theorem bookMark_many (w : World) (bb : Nat) (Z : Nat → Prop) (S : WS) (h : BookAt w bb Z S) (hm : 10 ≤ S.marks.length) :
  Calls Tryz.prog 28 #[.pointer (some ⟨bb, 0, none⟩)] w fun e w' => e = .returned (.int .i64 4) ∧ w' = w := by
 obtain ⟨wb, H, hc1, hw⟩ := h.ex
 have HCl := hide (closed_made bb w h.self)
 have HMs := hide (marks_any w wb H _ S hw)
 have hmI : (10 : Int) ≤ (S.marks.length : Int) := by omega
 clear h hw hm
 go_enter Tryz.func28, Tryz.ntmps28
 go_wp2_with (first
  | (go_at_call 44; refine HCl.out.mono ?_; rintro e w2 ⟨rfl, hw2⟩; rw [hw2]; clear hw2 w2)
  | (go_at_call 62; refine HMs.out.mono ?_; rintro e w2 ⟨rfl, hw2⟩; rw [hw2]; clear hw2 w2))
 go_ret
 exact ⟨rfl, rfl⟩
set_option maxHeartbeats 1000000 in
set_option maxRecDepth 100000 in
theorem bookBack_none (w : World) (bb : Nat) (Z : Nat → Prop) (S : WS) (h : BookAt w bb Z S) (hm : S.marks = []) :
  Calls Tryz.prog 29 #[.pointer (some ⟨bb, 0, none⟩)] w fun e w' => e = .returned (.int .i64 5) ∧ w' = w := by
 obtain ⟨wb, H, hc1, hw⟩ := h.ex
 have HCl := hide (closed_made bb w h.self)
 have HB := hide (backToMark_none w wb H _ S hw hm)
 clear h hw hm
 go_enter Tryz.func29, Tryz.ntmps29
 go_wp2_with (first
  | (go_at_call 44; refine HCl.out.mono ?_; rintro e w2 ⟨rfl, hw2⟩; rw [hw2]; clear hw2 w2)
  | (go_at_call 64; refine HB.out.mono ?_; rintro e w2 ⟨rfl, hw2⟩; rw [hw2]; clear hw2 w2))
 go_ret
 exact ⟨rfl, rfl⟩
set_option maxHeartbeats 1000000 in
set_option maxRecDepth 100000 in
theorem bookBack_some (w : World) (bb : Nat) (Z : Nat → Prop) (S S0 : WS) (ms : List Nat) (h : BookAt w bb Z S) (hg : Goes S0 S) (hm : S0.marks = ms ++ [S0.trail.length]) (hl : ms.length ≤ 1000) (hf : Fine S0) (ht : S0.shapes.length ≤ 100) (hs : S0.said.length ≤ 40) :
  Calls Tryz.prog 29 #[.pointer (some ⟨bb, 0, none⟩)] w fun e w' => e = .returned (.int .i64 0) ∧ BookAt w' bb (fun k => (Z k ∨ w.heap.size ≤ k) ∧ k < w'.heap.size) { S0 with marks := ms } ∧ ∃ L, (∀ k ∈ L, Z k) ∧ Upd L w w' := by
 obtain ⟨wb, H, hc1, hw⟩ := h.ex
 have htr := (h.fine.trail (by have := h.terms; omega) (by have := h.saids; omega)).1
 have HCl := hide (closed_made bb w h.self)
 have HB := hide (backToMark_some w wb H _ S S0 ms hw hg hm (by omega) hl)
 have Hh := hide h
 have Hw := hide hw
 have Hf := hide (hf.marks ms)
 clear h hw hm hg hf htr
 go_enter Tryz.func29, Tryz.ntmps29
 go_wp2_with (first
  | (go_at_call 44; refine HCl.out.mono ?_; rintro e w2 ⟨rfl, hw2⟩; rw [hw2]; clear hw2 w2)
  | (go_at_call 64; refine HB.out.mono ?_; rintro e w3 ⟨rfl, H3, hw3, hu3, hH3⟩; have Hw3 := hide hw3; have Hu3 := hide hu3; clear hw3 hu3 hH3))
 go_ret
 exact ⟨rfl, WebAt.book Hh.out hc1 Hw.out.inZ Hu3.out (Hw3.out.mono fun k hk _ => .inl hk) Hf.out ht hs, H.blocks wb, fun k hk => (Hw.out.inZ k hk).1, Hu3.out⟩
end Go.Proofs.YtmfkpllnmmfpiaaGreatDoor

namespace Go.Proofs.YtmfkpllnmmfpiaaGreatDoor
inductive T3 where
 | v (i : Nat) : T3
 | f (t : T3) : T3
 | g (t : T3) (i : Nat) : T3
namespace T3
def txt : T3 → List UInt8
 | .v i => [UInt8.ofNat (97 + i)]
 | .f t => 102 :: 40 :: (t.txt ++ [41])
 | .g t i => 103 :: 40 :: (t.txt ++ [44, 32, UInt8.ofNat (97 + i), 41])
def depth : T3 → Nat
 | .v _ => 0
 | .f t => t.depth + 1
 | .g t _ => t.depth + 1
def ok : T3 → Prop
 | .v i => i < 3
 | .f t => t.ok
 | .g t i => t.ok ∧ i < 3
end T3
def isT3 : (n : Nat) → Tm n → T3 → Prop
 | 0, _, _ => False
 | _ + 1, t, .v i => t.name = ⟨#[UInt8.ofNat (97 + i)]⟩ ∧ t.parts = []
 | n + 1, t, .f u => t.name = ⟨#[102]⟩ ∧ ∃ p, t.parts = [p] ∧ isT3 n p u
 | n + 1, t, .g u i => t.name = ⟨#[103]⟩ ∧ ∃ p q, t.parts = [p, q] ∧ isT3 n p u ∧ isT3 n q (.v i)
section
variable {s : ByteArray} {A R : List UInt8} {c : UInt8}
theorem size_mid (h : s.data.toList = A ++ R) : s.size = A.length + R.length := by
 have : s.data.toList.length = s.size := by simp
 rw [← this, h, List.length_append]
theorem byte_mid (h : s.data.toList = A ++ c :: R) : byteAt s A.length = (c.toNat : Int) := by
 unfold byteAt
 rw [h]
 simp [List.getD]
theorem word_blank (h : s.data.toList = A ++ 32 :: R) : wordAt s A.length = wordAt s (A.length + 1) := by
 have h1 := size_mid h
 simp only [List.length_cons] at h1
 have h2 : endOf blankB s A.length = endOf blankB s (A.length + 1) := endOf_step (by omega) (by rw [byte_mid h]; rfl)
 unfold wordAt
 rw [h2]
theorem blank_stop (h : s.data.toList = A ++ c :: R) (hc : c ≠ 32) : endOf blankB s A.length = A.length := by
 refine endOf_stop fun hh => ?_
 rw [byte_mid h] at hh
 have h1 : ((c.toNat : Int)) = 32 := by simpa [blankB] using hh.2
 exact hc (UInt8.toNat_inj.1 (by show c.toNat = 32; omega))
theorem word_letter (h : s.data.toList = A ++ c :: R) (hc : letterB (c.toNat : Int) = true) (hR : ∀ d R', R = d :: R' → wordB (d.toNat : Int) = false) : wordAt s A.length = (0, A.length, A.length + 1) := by
 have h1 := size_mid h
 simp only [List.length_cons] at h1
 have hk : kindOf (byteAt s A.length) = 0 := by rw [byte_mid h]; unfold kindOf; rw [if_pos hc]
 have hb : c ≠ 32 := fun e => by subst e; revert hc; decide
 rw [wordAt_name (blank_stop h hb) (by omega) hk]
 congr 2
 refine endOf_stop fun hh => ?_
 cases R with
 | nil => simp at h1; omega
 | cons d R' =>
  have h2 : s.data.toList = (A ++ [c]) ++ d :: R' := by rw [h]; simp
  have h3 := byte_mid h2
  rw [List.length_append] at h3
  have h4 : byteAt s (A.length + 1) = (d.toNat : Int) := h3
  rw [h4, hR d R' rfl] at hh
  exact absurd hh.2 (by decide)
theorem word_sign {k : Int} (h : s.data.toList = A ++ c :: R) (hb : c ≠ 32) (hk : kindOf (c.toNat : Int) = k) (h06 : k ≠ 0 ∧ k ≠ 6) : wordAt s A.length = (k, A.length, A.length + 1) := by
 have h1 := size_mid h
 simp only [List.length_cons] at h1
 rw [wordAt_other (blank_stop h hb) (by omega) (by rw [byte_mid h, hk]; exact h06.1) (by rw [byte_mid h, hk]; exact fun e => h06.2 e.1), byte_mid h, hk]
theorem word_ne (h : s.data.toList = A ++ 33 :: 61 :: R) : wordAt s A.length = (5, A.length, A.length + 2) := by
 have h1 := size_mid h
 simp only [List.length_cons] at h1
 have h2 : s.data.toList = (A ++ [33]) ++ 61 :: R := by rw [h]; simp
 have h3 := byte_mid h2
 rw [List.length_append] at h3
 exact wordAt_unequal (blank_stop h (by decide)) (by omega) (by rw [byte_mid h]; decide) h3
theorem word_end (h : s.data.toList = A) : wordAt s A.length = (7, s.size, s.size) := by
 have h1 : s.data.toList.length = s.size := by simp
 rw [h] at h1
 exact wordAt_end (by rw [endOf_stop (fun hh => by omega)]; exact h1)
theorem extract_one (h : s.data.toList = A ++ c :: R) : s.extract A.length (A.length + 1) = ⟨#[c]⟩ := by
 apply ByteArray.ext
 simp only [ByteArray.data_extract]
 apply Array.ext'
 rw [Array.toList_extract, h]
 simp [List.extract]
end
theorem letter_ok {i : Nat} (h : i < 3) : letterB ((UInt8.ofNat (97 + i)).toNat : Int) = true := by
 match i, h with
 | 0, _ => decide
 | 1, _ => decide
 | 2, _ => decide
 | i + 3, h => omega
theorem termOf_T3 {s : ByteArray} : ∀ (t : T3) (n : Nat) (A R : List UInt8), t.ok → t.depth < n → s.data.toList = A ++ (t.txt ++ R) → (∀ d R', R = d :: R' → wordB (d.toNat : Int) = false) → (wordAt s (A.length + t.txt.length)).1 ≠ 1 →
  ∃ x, termOf s n (wordAt s A.length) = (some x, wordAt s (A.length + t.txt.length)) ∧ isT3 n x t
 | _, 0, _, _, _, hd, _, _, _ => absurd hd (Nat.not_lt_zero _)
 | .v i, n + 1, A, R, hok, _, h, hR, hk => by
  have h1 : s.data.toList = A ++ UInt8.ofNat (97 + i) :: R := h
  have hw := word_letter h1 (letter_ok hok) hR
  rw [hw]
  have hk' : (wordAt s (A.length + 1)).1 ≠ 1 := hk
  rw [termOf_bare (st := (0, A.length, A.length + 1)) rfl hk']
  exact ⟨_, rfl, extract_one h1, rfl⟩
 | .f u, n + 1, A, R, hok, hd, h, hR, hk => by
  have hd' : u.depth < n := by simp [T3.depth] at hd; omega
  have h1 : s.data.toList = A ++ 102 :: (40 :: (u.txt ++ 41 :: R)) := by rw [h]; simp [T3.txt]
  have h2 : s.data.toList = (A ++ [102]) ++ 40 :: (u.txt ++ 41 :: R) := by rw [h1]; simp
  have h3 : s.data.toList = (A ++ [102, 40]) ++ (u.txt ++ 41 :: R) := by rw [h1]; simp
  have h4 : s.data.toList = (A ++ [102, 40] ++ u.txt) ++ 41 :: R := by rw [h1]; simp
  have w1 := word_letter h1 (by decide) (fun d R' e => by cases e; decide)
  have w2 := word_sign (k := 1) h2 (by decide) (by decide) (by decide)
  have w4 := word_sign (k := 2) h4 (by decide) (by decide) (by decide)
  have hl : (A ++ [102, 40] ++ u.txt).length = (A ++ [102, 40]).length + u.txt.length := List.length_append
  rw [hl] at w4
  obtain ⟨x, hx, hi⟩ := termOf_T3 u n (A ++ [102, 40]) (41 :: R) hok hd' h3 (fun d R' e => by cases e; decide) (by rw [w4]; simp)
  have e1 : (A ++ [102]).length = A.length + 1 := by simp
  have e2 : (A ++ [102, 40]).length = A.length + 2 := by simp
  rw [e1] at w2
  rw [e2] at hx w4
  have hp : partsOf s (termOf s n) (s.size + 1) (wordAt s (A.length + 1)) = (some [x], wordAt s (A.length + 2 + u.txt.length + 1)) := by
   have hh : termOf s n (wordAt s (wordAt s (A.length + 1)).2.2) = (some x, wordAt s (A.length + 2 + u.txt.length)) := by rw [w2]; exact hx
   have := partsOf_close (acc := []) (m := s.size) hh (by rw [w4])
   rw [aheadOf_nil, w4] at this
   exact this
  have hlen : A.length + (T3.f u).txt.length = A.length + 2 + u.txt.length + 1 := by simp [T3.txt]; omega
  rw [w1, hlen, termOf_parts (st := (0, A.length, A.length + 1)) rfl (by show (wordAt s (A.length + 1)).1 = 1; rw [w2]) hp]
  exact ⟨_, rfl, extract_one h1, x, rfl, hi⟩
 | .g u i, n + 1, A, R, hok, hd, h, hR, hk => by
  have hd' : u.depth < n := by simp [T3.depth] at hd; omega
  have h1 : s.data.toList = A ++ 103 :: (40 :: (u.txt ++ 44 :: 32 :: UInt8.ofNat (97 + i) :: 41 :: R)) := by rw [h]; simp [T3.txt]
  have h2 : s.data.toList = (A ++ [103]) ++ 40 :: (u.txt ++ 44 :: 32 :: UInt8.ofNat (97 + i) :: 41 :: R) := by rw [h1]; simp
  have h3 : s.data.toList = (A ++ [103, 40]) ++ (u.txt ++ 44 :: 32 :: UInt8.ofNat (97 + i) :: 41 :: R) := by rw [h1]; simp
  have h4 : s.data.toList = (A ++ [103, 40] ++ u.txt) ++ 44 :: 32 :: UInt8.ofNat (97 + i) :: 41 :: R := by rw [h1]; simp
  have h5 : s.data.toList = (A ++ [103, 40] ++ u.txt ++ [44]) ++ 32 :: UInt8.ofNat (97 + i) :: 41 :: R := by rw [h1]; simp
  have h6 : s.data.toList = (A ++ [103, 40] ++ u.txt ++ [44, 32]) ++ (T3.txt (.v i) ++ 41 :: R) := by rw [h1]; simp [T3.txt]
  have h7 : s.data.toList = (A ++ [103, 40] ++ u.txt ++ [44, 32, UInt8.ofNat (97 + i)]) ++ 41 :: R := by rw [h1]; simp
  have w1 := word_letter h1 (by decide) (fun d R' e => by cases e; decide)
  have w2 := word_sign (k := 1) h2 (by decide) (by decide) (by decide)
  have w4 := word_sign (k := 3) h4 (by decide) (by decide) (by decide)
  have w5 := word_blank h5
  have w7 := word_sign (k := 2) h7 (by decide) (by decide) (by decide)
  have hl : (A ++ [103, 40] ++ u.txt).length = (A ++ [103, 40]).length + u.txt.length := List.length_append
  rw [hl] at w4
  obtain ⟨x, hx, hi⟩ := termOf_T3 u n (A ++ [103, 40]) _ hok.1 hd' h3 (fun d R' e => by cases e; decide) (by rw [w4]; simp)
  have l7 : (A ++ [103, 40] ++ u.txt ++ [44, 32, UInt8.ofNat (97 + i)]).length = (A ++ [103, 40] ++ u.txt ++ [44, 32]).length + (T3.txt (.v i)).length := by simp only [List.length_append, List.length_cons, List.length_nil, T3.txt]
  rw [l7] at w7
  obtain ⟨y, hy, hj⟩ := termOf_T3 (.v i) n (A ++ [103, 40] ++ u.txt ++ [44, 32]) (41 :: R) hok.2 (Nat.lt_of_le_of_lt (Nat.zero_le _) hd') h6 (fun d R' e => by cases e; decide) (by rw [w7]; simp)
  have e1 : (A ++ [103]).length = A.length + 1 := by simp
  have e2 : (A ++ [103, 40]).length = A.length + 2 := by simp
  have e5 : (A ++ [103, 40] ++ u.txt ++ [44]).length = A.length + 2 + u.txt.length + 1 := by simp; omega
  have e6 : (A ++ [103, 40] ++ u.txt ++ [44, 32]).length = A.length + 2 + u.txt.length + 2 := by simp; omega
  have e7 : (T3.txt (.v i)).length = 1 := rfl
  rw [e1] at w2
  rw [e2] at hx w4
  rw [e5] at w5
  rw [e6, e7] at hy w7
  have hp : partsOf s (termOf s n) (s.size + 1) (wordAt s (A.length + 1)) = (some [x, y], wordAt s (A.length + 2 + u.txt.length + 2 + 1 + 1)) := by
   have hh : termOf s n (wordAt s (wordAt s (A.length + 1)).2.2) = (some x, wordAt s (A.length + 2 + u.txt.length)) := by rw [w2]; exact hx
   have h8 := partsOf_comma (acc := []) (m := s.size) hh (by rw [w4])
   rw [aheadOf_nil] at h8
   rw [h8]
   have hz := size_mid h1
   simp only [List.length_cons] at hz
   obtain ⟨m, hm⟩ : ∃ m, s.size = m + 1 := ⟨s.size - 1, by omega⟩
   have hh2 : termOf s n (wordAt s (wordAt s (A.length + 2 + u.txt.length)).2.2) = (some y, wordAt s (A.length + 2 + u.txt.length + 2 + 1)) := by
    rw [w4]
    show termOf s n (wordAt s (A.length + 2 + u.txt.length + 1)) = _
    rw [w5]
    exact hy
   have h9 := partsOf_close (acc := [x]) (m := m) hh2 (by rw [w7])
   rw [hm]
   simp only [List.nil_append]
   rw [h9, w7]
   rfl
  have hlen : A.length + (T3.g u i).txt.length = A.length + 2 + u.txt.length + 2 + 1 + 1 := by simp [T3.txt]; omega
  rw [w1, hlen, termOf_parts (st := (0, A.length, A.length + 1)) rfl (by show (wordAt s (A.length + 1)).1 = 1; rw [w2]) hp]
  exact ⟨_, rfl, extract_one h1, x, y, rfl, hi, hj⟩
theorem isT3_range : ∀ (n : Nat) (x : Tm n) (t : T3) (d : Nat), isT3 n x t → t.depth + d ≤ 12 → rangeOf n x d = none
 | 0, x, _, _, _, _ => x.elim
 | n + 1, x, .v i, d, h, hd => by
  unfold rangeOf
  simp only [T3.depth] at hd
  rw [h.1, h.2, if_neg (by show ¬ 8 < 1; omega), if_neg (by simp), if_neg (by omega)]
  rfl
 | n + 1, x, .f u, d, h, hd => by
  obtain ⟨h1, p, h2, h3⟩ := h
  simp only [T3.depth] at hd
  have := isT3_range n p u (d + 1) h3 (by omega)
  unfold rangeOf
  rw [h1, h2, if_neg (by show ¬ 8 < 1; omega), if_neg (by simp), if_neg (by omega)]
  simp [firstOf, this]
 | n + 1, x, .g u i, d, h, hd => by
  obtain ⟨h1, p, q, h2, h3, h4⟩ := h
  simp only [T3.depth] at hd
  have a := isT3_range n p u (d + 1) h3 (by omega)
  have b := isT3_range n q (.v i) (d + 1) h4 (by simp [T3.depth]; omega)
  unfold rangeOf
  rw [h1, h2, if_neg (by show ¬ 8 < 1; omega), if_neg (by simp), if_neg (by omega)]
  simp [firstOf, a, b]
def s3T (l : T3) (b : Bool) (r : T3) : ByteArray := ⟨(l.txt ++ ((if b then [32, 61, 32] else [32, 33, 61, 32]) ++ r.txt)).toArray⟩
theorem read_T3 (l r : T3) (b : Bool) (hl : l.ok) (hr : r.ok) (dl : l.depth ≤ 12) (dr : r.depth ≤ 12) (hs : (s3T l b r).size ≤ 200) :
  ∃ x, (readOf (s3T l b r)).1 = some x ∧ isT3 _ x.left l ∧ x.eq = b ∧ isT3 _ x.right r := by
 have hlen : ∀ t : T3, t.depth < t.txt.length := fun t => by
  induction t with
  | v i => simp [T3.depth, T3.txt]
  | f t ih => simp [T3.depth, T3.txt]; omega
  | g t i ih => simp [T3.depth, T3.txt]; omega
 obtain ⟨s, hse⟩ : ∃ s, s3T l b r = s := ⟨_, rfl⟩
 rw [hse] at hs ⊢
 have h0 : s.data.toList = [] ++ (l.txt ++ ((if b then [32, 61, 32] else [32, 33, 61, 32]) ++ r.txt)) := by rw [← hse]; simp [s3T]
 have hsz := size_mid h0
 simp only [List.length_append, List.length_nil] at hsz
 have f1 := hlen l
 have f2 := hlen r
 have hfu : fuelOf s = s.size + 1 := rfl
 have w7 := word_end (s := s) rfl
 have hll : s.data.toList.length = s.size := by simp
 rw [hll] at w7
 have key : ∃ x st, sentOf s (fuelOf s) (wordAt s 0) = (some x, st) ∧ isT3 _ x.left l ∧ x.eq = b ∧ isT3 _ x.right r := by
  cases b with
  | true =>
   have h1 : s.data.toList = l.txt ++ 32 :: (61 :: 32 :: r.txt) := by rw [h0]; simp
   have h2 : s.data.toList = (l.txt ++ [32]) ++ 61 :: (32 :: r.txt) := by rw [h0]; simp
   have h3 : s.data.toList = (l.txt ++ [32, 61]) ++ 32 :: r.txt := by rw [h0]; simp
   have h4 : s.data.toList = (l.txt ++ [32, 61, 32]) ++ (r.txt ++ []) := by rw [h0]; simp
   have w1 := word_blank h1
   have w2 := word_sign (k := 4) h2 (by decide) (by decide) (by decide)
   have w3 := word_blank h3
   rw [show (l.txt ++ ([32] : List UInt8)).length = l.txt.length + 1 by simp] at w2
   rw [show (l.txt ++ ([32, 61] : List UInt8)).length = l.txt.length + 2 by simp] at w3
   have we : (l.txt ++ [32, 61, 32]).length + r.txt.length = s.size := by simp at hsz ⊢; omega
   obtain ⟨x, hx, ix⟩ := termOf_T3 l (fuelOf s) [] _ hl (by rw [hfu]; omega) h0 (fun d R' e => by simp at e; rw [← e.1]; decide) (by simp only [List.length_nil, Nat.zero_add]; rw [w1, w2]; simp)
   obtain ⟨y, hy, iy⟩ := termOf_T3 r (fuelOf s) _ [] hr (by rw [hfu]; omega) h4 (fun d R' e => by cases e) (by rw [we, w7]; simp)
   simp only [List.length_nil, Nat.zero_add] at hx
   rw [we, show (l.txt ++ ([32, 61, 32] : List UInt8)).length = l.txt.length + 3 by simp] at hy
   refine ⟨⟨x, true, y⟩, (7, s.size, s.size), ?_, ix, rfl, iy⟩
   unfold sentOf
   rw [hx]
   simp only
   rw [w1, w2, signOf_eq rfl]
   simp only
   rw [w3, hy]
   simp only
   rw [w7, if_pos rfl]
  | false =>
   have h1 : s.data.toList = l.txt ++ 32 :: (33 :: 61 :: 32 :: r.txt) := by rw [h0]; simp
   have h2 : s.data.toList = (l.txt ++ [32]) ++ 33 :: 61 :: (32 :: r.txt) := by rw [h0]; simp
   have h3 : s.data.toList = (l.txt ++ [32, 33, 61]) ++ 32 :: r.txt := by rw [h0]; simp
   have h4 : s.data.toList = (l.txt ++ [32, 33, 61, 32]) ++ (r.txt ++ []) := by rw [h0]; simp
   have w1 := word_blank h1
   have w2 := word_ne h2
   have w3 := word_blank h3
   rw [show (l.txt ++ ([32] : List UInt8)).length = l.txt.length + 1 by simp] at w2
   rw [show (l.txt ++ ([32, 33, 61] : List UInt8)).length = l.txt.length + 3 by simp] at w3
   have we : (l.txt ++ [32, 33, 61, 32]).length + r.txt.length = s.size := by simp at hsz ⊢; omega
   obtain ⟨x, hx, ix⟩ := termOf_T3 l (fuelOf s) [] _ hl (by rw [hfu]; omega) h0 (fun d R' e => by simp at e; rw [← e.1]; decide) (by simp only [List.length_nil, Nat.zero_add]; rw [w1, w2]; simp)
   obtain ⟨y, hy, iy⟩ := termOf_T3 r (fuelOf s) _ [] hr (by rw [hfu]; omega) h4 (fun d R' e => by cases e) (by rw [we, w7]; simp)
   simp only [List.length_nil, Nat.zero_add] at hx
   rw [we, show (l.txt ++ ([32, 33, 61, 32] : List UInt8)).length = l.txt.length + 4 by simp] at hy
   refine ⟨⟨x, false, y⟩, (7, s.size, s.size), ?_, ix, rfl, iy⟩
   unfold sentOf
   rw [hx]
   simp only
   rw [w1, w2, signOf_ne rfl]
   simp only
   rw [w3, hy]
   simp only
   rw [w7, if_pos rfl]
 obtain ⟨x, st, hx, i1, i2, i3⟩ := key
 refine ⟨x, ?_, i1, i2, i3⟩
 have g1 := isT3_range _ x.left l 0 i1 (by omega)
 have g2 := isT3_range _ x.right r 0 i3 (by omega)
 unfold readOf
 rw [if_neg (by omega), hx]
 simp only
 rw [g1]
 simp only
 rw [g2]
end Go.Proofs.YtmfkpllnmmfpiaaGreatDoor

namespace Go.Proofs.YtmfkpllnmmfpiaaGreatDoor
open Go.RowKit
def nc (S : WS) : Nat := (S.shapes.filter (fun s => s.2.1 != 0)).length
theorem nc_same {S T : WS} (h : T.shapes = S.shapes) : nc T = nc S := by unfold nc; rw [h]
theorem nc_enter (S : WS) (s : Sh) : nc (enterM S s).2 ≤ nc S + 1 ∧ (s.2.1 = 0 → nc (enterM S s).2 = nc S) := by
 have e : (enterM S s).2.shapes = S.shapes ++ [s] := by
  show (fileM S s S.shapes.length).2.shapes ++ [s] = _
  rw [(fileM_rows S s S.shapes.length).1]
 unfold nc
 rw [e, List.filter_append, List.length_append]
 constructor
 ·have : ([s].filter (fun s => s.2.1 != 0)).length ≤ 1 := List.length_filter_le _ _
  omega
 ·intro h0
  simp [h0]
theorem addM_of (n : Nat) (S : WS) (t : Tm (n + 1)) : ∃ s : Sh, s.2.1 = t.parts.length ∧ ((addM (n + 1) S t).2 = (addAll (addM n) S t.parts).2 ∨ (addM (n + 1) S t).2 = (enterM (addAll (addM n) S t.parts).2 s).2) := by
 refine ⟨shapeOf t.name (addAll (addM n) S t.parts).1, by show (addAll _ _ _).1.length = _; rw [addAll_length], ?_⟩
 unfold addM
 simp only
 split
 ·exact .inl rfl
 ·exact .inr rfl
theorem nc_addM : ∀ (n : Nat) (S : WS) (x : Tm n) (t : T3), isT3 n x t → nc (addM n S x).2 ≤ nc S + t.depth
 | 0, _, x, _, _ => x.elim
 | n + 1, S, x, .v i, h => by
  obtain ⟨s, hs, hc⟩ := addM_of n S x
  rw [h.2] at hs hc
  have e : (addAll (addM n) S []).2 = S := rfl
  rw [e] at hc
  rcases hc with hc | hc
  ·rw [hc]; exact Nat.le_add_right _ _
  ·rw [hc, (nc_enter S s).2 hs]; exact Nat.le_add_right _ _
 | n + 1, S, x, .f u, h => by
  obtain ⟨_, p, hp, hu⟩ := h
  obtain ⟨s, hs, hc⟩ := addM_of n S x
  rw [hp] at hc
  have e : (addAll (addM n) S [p]).2 = (addM n S p).2 := rfl
  rw [e] at hc
  have h1 := nc_addM n S p u hu
  simp only [T3.depth]
  rcases hc with hc | hc
  ·rw [hc]; omega
  ·rw [hc]
   have := (nc_enter (addM n S p).2 s).1
   omega
 | n + 1, S, x, .g u i, h => by
  obtain ⟨_, p, q, hp, hu, hv⟩ := h
  obtain ⟨s, hs, hc⟩ := addM_of n S x
  rw [hp] at hc
  have e : (addAll (addM n) S [p, q]).2 = (addM n (addM n S p).2 q).2 := rfl
  rw [e] at hc
  have h1 := nc_addM n S p u hu
  have h2 := nc_addM n (addM n S p).2 q (.v i) hv
  simp only [T3.depth] at h2 ⊢
  rcases hc with hc | hc
  ·rw [hc]; omega
  ·rw [hc]
   have := (nc_enter (addM n (addM n S p).2 q).2 s).1
   omega
def vB (i : Nat) : ByteArray := ⟨#[UInt8.ofNat (97 + i)]⟩
def only3 (a : ByteArray) (k : Nat) : Prop := k = 0 → a = vB 0 ∨ a = vB 1 ∨ a = vB 2
theorem isT3_all : ∀ (n : Nat) (x : Tm n) (t : T3), isT3 n x t → t.ok → AllTm only3 n x
 | 0, x, _, _, _ => x.elim
 | n + 1, x, .v i, h, hok => by
  refine ⟨fun _ => ?_, by rw [h.2]; trivial⟩
  rw [h.1]
  have hi : i < 3 := hok
  match i, hi with
  | 0, _ => exact .inl rfl
  | 1, _ => exact .inr (.inl rfl)
  | 2, _ => exact .inr (.inr rfl)
  | i + 3, hi => omega
 | n + 1, x, .f u, h, hok => by
  obtain ⟨_, p, hp, hu⟩ := h
  exact ⟨fun e => by rw [hp] at e; simp at e, by rw [hp]; exact ⟨isT3_all n p u hu hok, trivial⟩⟩
 | n + 1, x, .g u i, h, hok => by
  obtain ⟨_, p, q, hp, hu, hv⟩ := h
  exact ⟨fun e => by rw [hp] at e; simp at e, by rw [hp]; exact ⟨isT3_all n p u hu hok.1, isT3_all n q (.v i) hv hok.2, trivial⟩⟩
theorem isT3_size : ∀ (n : Nat) (x : Tm n) (t : T3), isT3 n x t → sizeT n x ≤ 2 * t.depth + 1
 | 0, x, _, _ => x.elim
 | n + 1, x, .v i, h => by simp only [sizeT, h.2, sumOf, T3.depth]; omega
 | n + 1, x, .f u, h => by
  obtain ⟨_, p, hp, hu⟩ := h
  have := isT3_size n p u hu
  simp only [sizeT, hp, sumOf, T3.depth]; omega
 | n + 1, x, .g u i, h => by
  obtain ⟨_, p, q, hp, hu, hv⟩ := h
  have h1 := isT3_size n p u hu
  have h2 := isT3_size n q (.v i) hv
  simp only [T3.depth] at h2
  simp only [sizeT, hp, sumOf, T3.depth]; omega
theorem nodup3 {α : Type} {a b c : α} : ∀ {l : List α}, l.Nodup → (∀ x ∈ l, x = a ∨ x = b ∨ x = c) → l.length ≤ 3
 | [], _, _ => by simp
 | [_], _, _ => by simp
 | [_, _], _, _ => by simp
 | [_, _, _], _, _ => by simp
 | x :: y :: z :: u :: l, hn, h => by
  exfalso
  simp only [List.nodup_cons, List.mem_cons, not_or] at hn
  obtain ⟨⟨n1, n2, n3, _⟩, ⟨n4, n5, _⟩, ⟨n6, _⟩, _⟩ := hn
  have h1 := h x (by simp)
  have h2 := h y (by simp)
  have h3 := h z (by simp)
  have h4 := h u (by simp)
  rcases h1 with rfl | rfl | rfl <;> rcases h2 with rfl | rfl | rfl <;> rcases h3 with rfl | rfl | rfl <;> rcases h4 with rfl | rfl | rfl <;> simp_all
theorem nodup_of_get {α : Type} : ∀ {l : List α}, (∀ (i j : Nat) (x : α), l[i]? = some x → l[j]? = some x → i = j) → l.Nodup
 | [], _ => List.nodup_nil
 | a :: l, h => by
  refine List.nodup_cons.2 ⟨fun hm => ?_, nodup_of_get fun i j x hi hj => by have := h (i + 1) (j + 1) x (by simpa using hi) (by simpa using hj); omega⟩
  obtain ⟨i, hi⟩ := List.getElem?_of_mem hm
  have := h 0 (i + 1) a (by simp) (by simpa using hi)
  omega
theorem filter_split {α : Type} (p : α → Bool) : ∀ l : List α, l.length = (l.filter p).length + (l.filter (fun x => !p x)).length
 | [] => rfl
 | a :: l => by
  have := filter_split p l
  cases h : p a <;> simp [h] <;> omega
theorem shapes3 {S : WS} (hB : Base S) (ho : Only only3 S) : S.shapes.length ≤ nc S + 3 := by
 have hn : S.shapes.Nodup := nodup_of_get fun i j s hi hj => hB.inj hi hj
 have h3 : (S.shapes.filter (fun s => !(s.2.1 != 0))).length ≤ 3 := by
  refine nodup3 (a := (vB 0, 0, 0, 0, 0)) (b := (vB 1, 0, 0, 0, 0)) (c := (vB 2, 0, 0, 0, 0)) (hn.filter _) fun s hs => ?_
  rw [List.mem_filter] at hs
  obtain ⟨hm, h0⟩ := hs
  have h0' : s.2.1 = 0 := by simpa using h0
  obtain ⟨i, hi⟩ := List.getElem?_of_mem hm
  have hg := hB.good i s hi
  have r0 : s.2.2.1 = 0 := hg.rest 0 (by omega) (by omega)
  have r1 : s.2.2.2.1 = 0 := hg.rest 1 (by omega) (by omega)
  have r2 : s.2.2.2.2 = 0 := hg.rest 2 (by omega) (by omega)
  have hq := ho i s hi h0'
  obtain ⟨a, k, p, q, r⟩ := s
  simp only at h0' r0 r1 r2 hq
  subst h0' r0 r1 r2
  rcases hq with rfl | rfl | rfl
  ·exact .inl rfl
  ·exact .inr (.inl rfl)
  ·exact .inr (.inr rfl)
 have := filter_split (fun s : Sh => s.2.1 != 0) S.shapes
 unfold nc
 omega
structure W3 (S : WS) (k : Nat) : Prop where
 fine : Fine S
 only : Only only3 S
 nc : nc S ≤ 4 * k
 said : S.said.length = k
theorem W3.none : W3 noWS 0 := ⟨noWS_fine, fun i s h => by simp [noWS] at h, by simp [Go.Proofs.YtmfkpllnmmfpiaaGreatDoor.nc, noWS], rfl⟩
theorem W3.len {S : WS} {k : Nat} (h : W3 S k) : S.shapes.length ≤ 4 * k + 3 := by
 have h1 := shapes3 h.fine.web.base h.only
 have h2 := h.nc
 omega
structure S3 where
 l : T3
 b : Bool
 r : T3
structure S3.ok (s : S3) : Prop where
 l : s.l.ok
 r : s.r.ok
 dl : s.l.depth ≤ 2
 dr : s.r.depth ≤ 2
def S3.text (s : S3) : ByteArray := s3T s.l s.b s.r
theorem T3.len : ∀ t : T3, t.txt.length ≤ 6 * t.depth + 1
 | .v _ => by simp [T3.txt, T3.depth]
 | .f t => by have := T3.len t; simp [T3.txt, T3.depth]; omega
 | .g t _ => by have := T3.len t; simp [T3.txt, T3.depth]; omega
theorem S3.size {s : S3} (h : s.ok) : s.text.size ≤ 30 := by
 have h1 := s.l.len
 have h2 := s.r.len
 have h3 := h.dl
 have h4 := h.dr
 have e : s.text.size = s.l.txt.length + ((if s.b then [32, 61, 32] else [32, 33, 61, 32] : List UInt8).length + s.r.txt.length) := by
  show (s.l.txt ++ (_ ++ s.r.txt)).toArray.size = _
  simp
 rw [e]
 split <;> simp <;> omega
theorem S3.read {s : S3} (h : s.ok) : ∃ x, (readOf s.text).1 = some x ∧ isT3 _ x.left s.l ∧ x.eq = s.b ∧ isT3 _ x.right s.r :=
 read_T3 s.l s.r s.b h.l h.r (by have := h.dl; omega) (by have := h.dr; omega) (by have := S3.size h; unfold S3.text at this; omega)
theorem W3.say {S : WS} {k : Nat} (h : W3 S k) (hk : k ≤ 23) {s : S3} (hs : s.ok) : (sayOf S s.text).1 = (k, 0, 0) ∧ W3 (sayOf S s.text).2 (k + 1) ∧ ∀ S0, Goes S0 S → Goes S0 (sayOf S s.text).2 := by
 obtain ⟨x, hx, h1, h2, h3⟩ := S3.read hs
 obtain ⟨hnar, _, _⟩ := readOf_small hx
 have hl := h.len
 have z1 := isT3_size _ _ _ h1
 have z2 := isT3_size _ _ _ h3
 have d1 := hs.dl
 have d2 := hs.dr
 have hsz : sizeS x ≤ 10 := by unfold sizeS; omega
 have E := sayM_end h.fine.web hnar (by omega)
 obtain ⟨i, j, _, _, hsd⟩ := E.said
 have ho : Only only3 (sayM S x) := h.only.say h.fine.web hnar (by omega) (isT3_all _ _ _ h1 hs.l) (isT3_all _ _ _ h3 hs.r)
 have hnc : Go.Proofs.YtmfkpllnmmfpiaaGreatDoor.nc (sayM S x) ≤ 4 * (k + 1) := by
  rw [nc_same (sayM_shapes h.fine.web hnar (by omega))]
  have a := nc_addM _ S x.left s.l h1
  have b := nc_addM _ (addM _ S x.left).2 x.right s.r h3
  have c := h.nc
  omega
 have hW : W3 (sayM S x) (k + 1) := ⟨⟨E.web, E.pot h.fine.pot⟩, ho, hnc, by rw [hsd]; simp [h.said]⟩
 have hlen := hW.len
 have e : sayOf S s.text = ((S.said.length, 0, 0), sayM S x) := by
  unfold sayOf
  rw [hx]
  simp only
  rw [if_neg (by rw [h.said]; omega), if_neg (by omega)]
 rw [e]
 exact ⟨by rw [h.said], hW, E.goes⟩
theorem W3.follows {S : WS} {s : S3} (hs : s.ok) : ∃ f, followsOf S s.text = (f, 0, 0) := by
 obtain ⟨x, hx, _⟩ := S3.read hs
 exact ⟨followsM S x, by unfold followsOf; rw [hx]⟩
theorem W3.mark {S : WS} {k : Nat} (h : W3 S k) (m : List Nat) : W3 { S with marks := m } k := ⟨h.fine.marks m, h.only, h.nc, h.said⟩
end Go.Proofs.YtmfkpllnmmfpiaaGreatDoor
