/-
  'Mark', 'Marks' and 'BackToMark' of a trail, walked.
-/
import Derived.Test.YtmfkpllnmmfpiaaGreatDoorBackH
import Derived.Test.YtmfkpllnmmfpiaaGreatDoorSmallH
import Derived.Test.YtmfkpllnmmfpiaaGreatDoorBookSayH
namespace Go.Proofs.YtmfkpllnmmfpiaaGreatDoor
open Go.RowKit

def markM (S : WS) : WS := { S with marks := S.marks ++ [S.trail.length] }

theorem undo1_marks (S : WS) (u : Un) : (undo1 S u).marks = S.marks := by
  unfold undo1
  repeat' split
  all_goals rfl
theorem CanBack.marks : ∀ {n : Nat} {S S0 : WS}, CanBack n S S0 → S.marks = S0.marks
  | 0, _, _, h => by have e : _ = _ := h; rw [e]
  | n + 1, S, S0, ⟨us, u, _, _, hc⟩ => by
    have h1 := CanBack.marks hc
    rw [undo1_marks] at h1
    exact h1
theorem Goes.marks {S0 S : WS} (h : Goes S0 S) : S.marks = S0.marks := by
  obtain ⟨n, _, hc⟩ := h
  exact hc.marks

/-- The row 'marks' replaced by a grown one. -/
theorem WebAt.grow_marks {w w1 w2 : World} {wb g cap : Nat} {H : Hd} {Z : Nat → Prop} {S : WS} {x : Nat} (h : WebAt w wb H Z S)
    (hu1 : Upd [] w w1) (hgrow : w1.grownBy w2 H.marks.ownBlock) (hat : H.marks.ownBlock = some g ∨ g = w1.heap.size)
    (hown : w2.ownsRow 0 3 1 (.slice (some ⟨g, 0, none⟩) (S.marks.length + 1) cap) (S.marks.length + 1) (intsOf S.marks ++ intsOf [x])) :
    WebAt (w2.setCell ⟨wb, 1, none⟩ (.slice (some ⟨g, 0, none⟩) (S.marks.length + 1) cap)) wb { H with marks := .slice (some ⟨g, 0, none⟩) (S.marks.length + 1) cap } (fun k => Z k ∨ w.heap.size ≤ k) { S with marks := S.marks ++ [x] } ∧
      Upd (H.blocks wb) w (w2.setCell ⟨wb, 1, none⟩ (.slice (some ⟨g, 0, none⟩) (S.marks.length + 1) cap)) ∧
      ∀ k ∈ ({ H with marks := .slice (some ⟨g, 0, none⟩) (S.marks.length + 1) cap } : Hd).blocks wb, k ∈ H.blocks wb ∨ w.heap.size ≤ k := by
  have hA := Hd.parts h.apart
  have hsz1 := hu1.size
  have U2 : Upd H.marks.ownBlock.toList w w2 := (hu1.mono (fun x hx _ => by cases hx)).trans (Upd.of_grown hgrow)
  have hwb2 : wb ∉ H.marks.ownBlock.toList := fun hm => (hA.m wb (by simpa using hm)).1 rfl
  have cm : w2.cell? ⟨wb, 1, none⟩ = some H.marks := (U2.cell h.lt hwb2).trans h.cm
  have U : Upd (wb :: H.marks.ownBlock.toList) w (w2.setCell ⟨wb, 1, none⟩ (.slice (some ⟨g, 0, none⟩) (S.marks.length + 1) cap)) := (U2.mono (fun x hx _ => by simp at hx ⊢; exact .inr hx)).setCell (by simp) _
  have hsub : ∀ k, k ∈ wb :: H.marks.ownBlock.toList → k ∈ H.blocks wb := fun k hk => by
    simp at hk
    rcases hk with rfl | hk
    · exact H.mem_wb _
    · exact Hd.mem_marks hk
  have hgf : H.marks.ownBlock = some g ∨ w.heap.size ≤ g := hat.imp id (fun e => by omega)
  have hgn : H.marks.ownBlock = some g ∨ g ∉ H.blocks wb := hgf.imp id (fun e hm => by have := h.mem_lt g hm; omega)
  have hgw : g ≠ wb := fun e => by
    subst e
    rcases hgf with hg | hg
    · exact (hA.m g hg).1 rfl
    · have := h.lt; omega
  have hH : ∀ k ∈ ({ H with marks := .slice (some ⟨g, 0, none⟩) (S.marks.length + 1) cap } : Hd).blocks wb, k ∈ H.blocks wb ∨ w.heap.size ≤ k := fun k hk => by
    rw [Hd.mem_iff] at hk
    rcases hk with h1 | h1 | h1 | h1 | h1 | h1 | h1 | h1
    · exact .inl (Hd.mem_iff.2 (.inl h1))
    · exact .inl (Hd.mem_iff.2 (.inr (.inl h1)))
    · exact .inl (Hd.mem_iff.2 (.inr (.inr (.inl h1))))
    · exact .inl (Hd.mem_backs h1)
    · exact .inl (Hd.mem_shapes h1)
    · exact .inl (Hd.mem_classes h1)
    · exact .inl (Hd.mem_said h1)
    · simp only [own_slice, Option.some.injEq] at h1
      subst h1
      exact hgf.imp (fun e => Hd.mem_marks e) id
  obtain ⟨cls, hrow, hall⟩ := h.rb
  have nobacks : ∀ k, H.backs.ownBlock = some k → k ∉ wb :: H.marks.ownBlock.toList := fun k hk hm => by simp at hm; rcases hm with hm | hm; exact (hA.b k hk).1 hm; exact (hA.m k hm).2.2.2.1 hk
  have noshapes : ∀ k, H.shapes.ownBlock = some k → k ∉ wb :: H.marks.ownBlock.toList := fun k hk hm => by simp at hm; rcases hm with hm | hm; exact (hA.s k hk).1 hm; exact (hA.m k hm).2.2.2.2.1 hk
  have noclasses : ∀ k, H.classes.ownBlock = some k → k ∉ wb :: H.marks.ownBlock.toList := fun k hk hm => by simp at hm; rcases hm with hm | hm; exact (hA.c k hk).1 hm; exact (hA.m k hm).2.2.2.2.2.1 hk
  have nosaid : ∀ k, H.said.ownBlock = some k → k ∉ wb :: H.marks.ownBlock.toList := fun k hk hm => by simp at hm; rcases hm with hm | hm; exact (hA.d k hk).1 hm; exact (hA.m k hm).2.2.2.2.2.2 hk
  have nonb : H.nb ∉ wb :: H.marks.ownBlock.toList := fun hm => by simp at hm; rcases hm with hm | hm; exact hA.wn hm.symm; exact (hA.m _ hm).2.1 rfl
  have noab : H.ab ∉ wb :: H.marks.ownBlock.toList := fun hm => by simp at hm; rcases hm with hm | hm; exact hA.wa hm.symm; exact (hA.m _ hm).2.2.1 rfl
  refine ⟨{
    lt := Nat.lt_of_lt_of_le h.lt U.size
    free := fun o => by rw [World.frozen?_setCell]; exact (U2.frozen (p := ⟨wb, o, none⟩) h.lt hwb2).trans (h.free o)
    c0 := by have := (U2.cell (p := ⟨wb, 0, none⟩) h.lt hwb2).trans h.c0; go_simp
    c1 := by have := (U2.cell (p := ⟨wb, 2, none⟩) h.lt hwb2).trans h.c1; go_simp
    c2 := by have := (U2.cell (p := ⟨wb, 3, none⟩) h.lt hwb2).trans h.c2; go_simp
    c3 := by have := (U2.cell (p := ⟨wb, 4, none⟩) h.lt hwb2).trans h.c3; go_simp
    c4 := by have := (U2.cell (p := ⟨wb, 5, none⟩) h.lt hwb2).trans h.c4; go_simp
    c5 := by have := (U2.cell (p := ⟨wb, 6, none⟩) h.lt hwb2).trans h.c5; go_simp
    cm := by go_simp
    rs := U.ownsRow h.rs noshapes
    rc := U.ownsRow h.rc noclasses
    rd := U.ownsRow h.rd nosaid
    rm := ?_
    mn := h.mn.later U nonb
    ma := h.ma.later U noab
    apart := Hd.apart_marks h.apart hgn
    rb := ⟨cls, U.ownsRow hrow nobacks, hall.mono fun _ _ hi => hi.closures U (fun k hk _ => hsub k hk) hH⟩
    inZ := fun k hk => (hH k hk).imp (h.inZ k) id }, U.mono fun x hx _ => hsub x hx, hH⟩
  have := ((Upd.refl [wb] w2).setCell (p := ⟨wb, 1, none⟩) (by simp) (.slice (some ⟨g, 0, none⟩) (S.marks.length + 1) cap)).ownsRow hown (fun k hk hm => by simp [Value.ownBlock] at hk hm; omega)
  show World.ownsRow _ _ _ _ _ (S.marks ++ [x]).length (intsOf (S.marks ++ [x]))
  rw [intsOf_append]
  simpa using this

set_option maxHeartbeats 400000 in
theorem marks_any (w : World) (wb : Nat) (H : Hd) (Z : Nat → Prop) (S : WS) (h : WebAt w wb H Z S) :
    Calls Tryz.prog 62 #[.pointer (some ⟨wb, 0, none⟩)] w fun e w' => e = .returned (.int .i64 S.marks.length) ∧ w' = w := by
  obtain ⟨g, cap, hv⟩ := slice_len h.rm
  have cm := h.cm
  rw [hv] at cm
  clear hv
  go_enter Tryz.func62, Tryz.ntmps62
  go_wp2
  go_ret
  exact ⟨rfl, rfl⟩

theorem marks_slice {w : World} {wb : Nat} {H : Hd} {Z : Nat → Prop} {S : WS} (h : WebAt w wb H Z S) : ∃ g cap, H.marks = .slice g S.marks.length cap ∧ S.marks.length ≤ cap ∧ cap ≤ maxLen ∧ (0 < S.marks.length → ∃ b, g = some ⟨b, 0, none⟩) := by
  rcases ownsRow_slice h.rm with ⟨h1, h2⟩ | ⟨g, cap, h1, h2, h3⟩
  · exact ⟨none, 0, by rw [h1, h2], by omega, by simp [maxLen], fun e => by omega⟩
  · exact ⟨_, cap, h1, h2, h3, fun _ => ⟨g, rfl⟩⟩

set_option maxHeartbeats 1000000 in
set_option maxRecDepth 100000 in
theorem trailMark_any (w : World) (wb : Nat) (H : Hd) (Z : Nat → Prop) (S : WS) (h : WebAt w wb H Z S) (hm : S.marks.length ≤ 1000) :
    Calls Tryz.prog 63 #[.pointer (some ⟨wb, 0, none⟩)] w fun e w' => ∃ mk, e = .returned (.tuple #[]) ∧ WebAt w' wb { H with marks := mk } (fun k => Z k ∨ w.heap.size ≤ k) (markM S) ∧ Upd (H.blocks wb) w w' ∧ ∀ k ∈ ({ H with marks := mk } : Hd).blocks wb, k ∈ H.blocks wb ∨ w.heap.size ≤ k := by
  obtain ⟨i0, hi, hz0, hz1, hz2⟩ := info_parts info_int
  have cm := h.cm
  have hlt := h.lt
  have hfr := h.free
  have hA := Hd.parts h.apart
  have HHere := hide (fun (W : World) (hU : Upd [] w W) => here_any W wb H Z S (h.later hU (fun _ _ => by simp)))
  have hrow1 := (((Upd.refl [] w).alloc (.cells #[.int .i64 S.trail.length] 3)).drew).ownsRow h.rm (fun _ _ => by simp)
  have Hc : Hid (∀ w3, (w.alloc (.cells #[.int .i64 S.trail.length] 3)).drew.grownBy w3 H.marks.ownBlock → w3.cell? ⟨wb, 1, none⟩ = some H.marks ∧ ∀ o, w3.frozen? ⟨wb, o, none⟩ = false) := fun w3 hg => by
    have hn : wb ∉ H.marks.ownBlock.toList := fun hm => (hA.m wb (by simpa using hm)).1 rfl
    have U := (((Upd.refl H.marks.ownBlock.toList w).alloc (.cells #[.int .i64 S.trail.length] 3)).drew).trans (Upd.of_grown hg)
    exact ⟨(U.cell h.lt hn).trans h.cm, fun o => (U.frozen (p := ⟨wb, o, none⟩) h.lt hn).trans (h.free o)⟩
  have Hfin : Hid (∀ g cap w3, (w.alloc (.cells #[.int .i64 S.trail.length] 3)).drew.grownBy w3 H.marks.ownBlock → (H.marks.ownBlock = some g ∨ g = (w.alloc (.cells #[.int .i64 S.trail.length] 3)).drew.heap.size) → w3.ownsRow 0 3 1 (.slice (some ⟨g, 0, none⟩) (S.marks.length + 1) cap) (S.marks.length + 1) (intsOf S.marks ++ [.int .i64 S.trail.length]) → _) :=
    fun g cap w3 hg hat hown => WebAt.grow_marks (x := S.trail.length) h (((Upd.refl [] w).alloc _).drew) hg hat hown
  have hnews : ∀ j u, [Value.int .i64 S.trail.length][j]? = some u → (w.alloc (.cells #[.int .i64 S.trail.length] 3)).drew.cell? ((⟨w.heap.size, 0, none⟩ : Addr).add j) = some u := World.news_of_block (heap_alloc_new w _)
  have hone : ∀ u ∈ [Value.int .i64 S.trail.length], u.oneCell' = true := by intro u hu'; simp at hu'; subst hu'; rfl
  have hcm2 : ((Upd.refl [] w).alloc (.cells #[.int .i64 S.trail.length] 3)).size = ((Upd.refl [] w).alloc (.cells #[.int .i64 S.trail.length] 3)).size := rfl
  have am := (((Upd.refl [] w).alloc (.cells #[.int .i64 S.trail.length] 3)).cell (p := ⟨wb, 1, none⟩) hlt (by simp)).trans cm
  have hn1 : wb ≠ w.heap.size := by omega
  clear hA h hcm2
  go_enter Tryz.func63, Tryz.ntmps63
  go_wp2_with fail
  go_region_law (first
    | (refine step_append_lies _ (by rfl) _ _ 44 (by rfl) 0 3 i0 (.int .i64 0) 1 8 Tryz.underlying44 hi hz0 hz1 hz2 (by rfl) (by decide) H.marks S.marks.length (intsOf S.marks) (by rfl) hrow1 ⟨w.heap.size, 0, none⟩ 1 1 [Value.int .i64 S.trail.length] (by rfl) (by rfl) hnews hone (by decide) (by unfold maxLen; omega) (by omega) (Nat.zero_le _) _ (by rfl) ?_; intro g cap w3 hown' hgrow hat hlt3; obtain ⟨k0, kf⟩ := Hc.out w3 hgrow)
    | (go_simp; go_at_call 56; refine (HHere.out _ (Upd.refl [] w).drew).mono ?_; rintro e w2 ⟨rfl, hw2⟩; rw [hw2]; clear hw2 w2))
  all_goals (
    go_wp2
    go_end0
    have := Hfin.out g cap w3 hgrow hat hown'
    exact ⟨_, rfl, this.1, this.2.1, this.2.2⟩)

theorem backToMark_none (w : World) (wb : Nat) (H : Hd) (Z : Nat → Prop) (S : WS) (h : WebAt w wb H Z S) (hm : S.marks = []) :
    Calls Tryz.prog 64 #[.pointer (some ⟨wb, 0, none⟩)] w fun e w' => e = .returned (.bool false) ∧ w' = w := by
  obtain ⟨g, cap, hd, _⟩ := marks_slice h
  have cm := h.cm
  rw [hd, hm] at cm
  clear hd h
  go_enter Tryz.func64, Tryz.ntmps64
  go_wp2
  go_ret
  exact ⟨rfl, rfl⟩

set_option maxHeartbeats 2000000 in
set_option maxRecDepth 100000 in
theorem backToMark_some (w : World) (wb : Nat) (H : Hd) (Z : Nat → Prop) (S S0 : WS) (ms : List Nat) (h : WebAt w wb H Z S) (hg : Goes S0 S) (hm : S0.marks = ms ++ [S0.trail.length]) (hb : S.trail.length ≤ 9000000) (hl : ms.length ≤ 1000) :
    Calls Tryz.prog 64 #[.pointer (some ⟨wb, 0, none⟩)] w fun e w' => e = .returned (.bool true) ∧ ∃ H', WebAt w' wb H' Z { S0 with marks := ms } ∧ Upd (H.blocks wb) w w' ∧ H'.blocks wb = H.blocks wb := by
  have hms := hg.marks
  have hlen : S.marks.length = ms.length + 1 := by rw [hms, hm]; simp
  have HB := hide (backTo_any w wb H Z S S0 h hg hb)
  have htl : S0.trail.length ≤ 9000000 := by
    obtain ⟨n, hn, _⟩ := hg
    omega
  obtain ⟨g, cap, hd, hc1, hc2, hgs⟩ := marks_slice h
  rw [hlen] at hd hc1 hgs
  obtain ⟨b, rfl⟩ := hgs (by omega)
  have cm := h.cm
  rw [hd] at cm
  have hrow := h.rm
  rw [hd, hlen, hms, hm] at hrow
  have hcell : w.cell? ⟨b, ms.length, none⟩ = some (.int .i64 S0.trail.length) := by
    have := hrow.cellAt ms.length (by omega)
    rw [this]
    simp [intsOf]
  unfold maxLen at hc2
  clear hrow hd hms hg
  have HF := hide (fun (w2 : World) (H2 : Hd) (hw2 : WebAt w2 wb H2 Z S0) => marks_slice hw2)
  have HCut := hide (fun (w2 : World) (H2 : Hd) (hw2 : WebAt w2 wb H2 Z S0) (g2 cap2 : Nat) (hd2 : H2.marks = .slice (some ⟨g2, 0, none⟩) S0.marks.length cap2) => hw2.cut_marks (m := ms.length) hd2 (by rw [hm]; simp))
  have Htake : Hid (S0.marks.take ms.length = ms) := by show _ = _; rw [hm]; simp
  have Hl0 : Hid (S0.marks.length = ms.length + 1) := by show _ = _; rw [hm]; simp
  have Hh := hide h
  clear h hm
  go_enter Tryz.func64, Tryz.ntmps64
  go_upto_region 5 with (go_at_call 59; refine HB.out.mono ?_; rintro e w2 ⟨rfl, H2, hw2, hu2, hH2⟩; have Hw2 := hide hw2; have Hu2 := hide hu2; have HH2 := hide hH2; clear hw2 hu2 hH2)
  obtain ⟨g2, cap2, hd2, hc3, hc4, hgs2⟩ := HF.out w2 H2 Hw2.out
  have hl0 := Hl0.out
  obtain ⟨b2, rfl⟩ := hgs2 (by omega)
  have cm2 := Hw2.out.cm
  have hf2 := Hw2.out.free
  have hlt2 := Hw2.out.lt
  have HC2 := hide (HCut.out w2 H2 Hw2.out b2 cap2 hd2)
  have HHd := hide hd2
  rw [hd2, hl0] at cm2
  unfold maxLen at hc4
  have hcap2 : (ms.length : Int) < (cap2 : Int) := by omega
  clear hd2 hl0 hgs2 hc3 HF HCut
  go_wp2
  go_ret
  refine ⟨rfl, _, by have := HC2.out; rw [Htake.out] at this; exact this, (Hu2.out.setCell (p := ⟨wb, 1, none⟩) (.inl (H.mem_wb wb)) _), ?_⟩
  rw [blocks_marks (g := b2) (by rw [HHd.out]; rfl)]
  exact HH2.out
end Go.Proofs.YtmfkpllnmmfpiaaGreatDoor

/-
  A Book's Mark and Back, walked.
-/
namespace Go.Proofs.YtmfkpllnmmfpiaaGreatDoor
open Go.RowKit

theorem Fine.marks {S : WS} (h : Fine S) (m : List Nat) : Fine { S with marks := m } := by
  have hr : ∀ k, reps { S with marks := m } k = reps S k := fun k => reps_congr k fun _ _ => Iff.rfl
  refine ⟨⟨⟨⟨h.web.base.inv.len, h.web.base.inv.nums, h.web.base.inv.cl, h.web.base.inv.al, h.web.base.inv.nu⟩, h.web.base.good, h.web.base.num, h.web.base.rep, h.web.base.saidLt, fun R hR => h.web.base.cls R ⟨hR.refl, hR.symm, hR.trans, hR.said, hR.cong⟩, fun R hR => h.web.base.alk R ⟨hR.refl, hR.symm, hR.trans, hR.said, hR.cong⟩⟩, h.web.eqs, fun i s hi => ?_⟩, ⟨?_, ?_⟩⟩
  · rw [key_same (S := { S with marks := m }) (T := S) rfl]
    exact h.web.stable i s hi
  · rw [hr]
    exact h.pot.trail
  · rw [hr]
    exact h.pot.files

set_option maxHeartbeats 1000000 in
set_option maxRecDepth 100000 in
theorem bookMark_any (w : World) (bb : Nat) (Z : Nat → Prop) (S : WS) (h : BookAt w bb Z S) (hm : S.marks.length < 10) :
    Calls Tryz.prog 28 #[.pointer (some ⟨bb, 0, none⟩)] w fun e w' => e = .returned (.int .i64 0) ∧ BookAt w' bb (fun k => (Z k ∨ w.heap.size ≤ k) ∧ k < w'.heap.size) (markM S) ∧ ∃ L, (∀ k ∈ L, Z k) ∧ Upd L w w' := by
  obtain ⟨wb, H, hc1, hw⟩ := h.ex
  have HCl := hide (closed_made bb w h.self)
  have HMs := hide (marks_any w wb H _ S hw)
  have HM := hide (trailMark_any w wb H _ S hw (by omega))
  have hmI : (S.marks.length : Int) < 10 := by omega
  have Hh := hide h
  have Hw := hide hw
  clear h hw hm
  go_enter Tryz.func28, Tryz.ntmps28
  go_wp2_with (first
    | (go_at_call 44; refine HCl.out.mono ?_; rintro e w2 ⟨rfl, hw2⟩; rw [hw2]; clear hw2 w2)
    | (go_at_call 62; refine HMs.out.mono ?_; rintro e w2 ⟨rfl, hw2⟩; rw [hw2]; clear hw2 w2)
    | (go_at_call 63; refine HM.out.mono ?_; rintro e w3 ⟨mk, rfl, hw3, hu3, hH3⟩; have Hw3 := hide hw3; have Hu3 := hide hu3; clear hw3 hu3 hH3))
  go_ret
  exact ⟨rfl, WebAt.book Hh.out hc1 Hw.out.inZ Hu3.out Hw3.out (Hh.out.fine.marks _) Hh.out.terms Hh.out.saids, H.blocks wb, fun k hk => (Hw.out.inZ k hk).1, Hu3.out⟩
set_option maxHeartbeats 1000000 in
set_option maxRecDepth 100000 in
theorem bookMark_many (w : World) (bb : Nat) (Z : Nat → Prop) (S : WS) (h : BookAt w bb Z S) (hm : 10 ≤ S.marks.length) :
    Calls Tryz.prog 28 #[.pointer (some ⟨bb, 0, none⟩)] w fun e w' => e = .returned (.int .i64 4) ∧ w' = w := by
  obtain ⟨wb, H, hc1, hw⟩ := h.ex
  have HCl := hide (closed_made bb w h.self)
  have HMs := hide (marks_any w wb H _ S hw)
  have hmI : (10 : Int) ≤ (S.marks.length : Int) := by omega
  clear h hw hm
  go_enter Tryz.func28, Tryz.ntmps28
  go_wp2_with (first
    | (go_at_call 44; refine HCl.out.mono ?_; rintro e w2 ⟨rfl, hw2⟩; rw [hw2]; clear hw2 w2)
    | (go_at_call 62; refine HMs.out.mono ?_; rintro e w2 ⟨rfl, hw2⟩; rw [hw2]; clear hw2 w2))
  go_ret
  exact ⟨rfl, rfl⟩
set_option maxHeartbeats 1000000 in
set_option maxRecDepth 100000 in
theorem bookBack_none (w : World) (bb : Nat) (Z : Nat → Prop) (S : WS) (h : BookAt w bb Z S) (hm : S.marks = []) :
    Calls Tryz.prog 29 #[.pointer (some ⟨bb, 0, none⟩)] w fun e w' => e = .returned (.int .i64 5) ∧ w' = w := by
  obtain ⟨wb, H, hc1, hw⟩ := h.ex
  have HCl := hide (closed_made bb w h.self)
  have HB := hide (backToMark_none w wb H _ S hw hm)
  clear h hw hm
  go_enter Tryz.func29, Tryz.ntmps29
  go_wp2_with (first
    | (go_at_call 44; refine HCl.out.mono ?_; rintro e w2 ⟨rfl, hw2⟩; rw [hw2]; clear hw2 w2)
    | (go_at_call 64; refine HB.out.mono ?_; rintro e w2 ⟨rfl, hw2⟩; rw [hw2]; clear hw2 w2))
  go_ret
  exact ⟨rfl, rfl⟩
set_option maxHeartbeats 1000000 in
set_option maxRecDepth 100000 in
theorem bookBack_some (w : World) (bb : Nat) (Z : Nat → Prop) (S S0 : WS) (ms : List Nat) (h : BookAt w bb Z S) (hg : Goes S0 S) (hm : S0.marks = ms ++ [S0.trail.length]) (hl : ms.length ≤ 1000) (hf : Fine S0) (ht : S0.shapes.length ≤ 100) (hs : S0.said.length ≤ 40) :
    Calls Tryz.prog 29 #[.pointer (some ⟨bb, 0, none⟩)] w fun e w' => e = .returned (.int .i64 0) ∧ BookAt w' bb (fun k => (Z k ∨ w.heap.size ≤ k) ∧ k < w'.heap.size) { S0 with marks := ms } ∧ ∃ L, (∀ k ∈ L, Z k) ∧ Upd L w w' := by
  obtain ⟨wb, H, hc1, hw⟩ := h.ex
  have htr := (h.fine.trail (by have := h.terms; omega) (by have := h.saids; omega)).1
  have HCl := hide (closed_made bb w h.self)
  have HB := hide (backToMark_some w wb H _ S S0 ms hw hg hm (by omega) hl)
  have Hh := hide h
  have Hw := hide hw
  have Hf := hide (hf.marks ms)
  clear h hw hm hg hf htr
  go_enter Tryz.func29, Tryz.ntmps29
  go_wp2_with (first
    | (go_at_call 44; refine HCl.out.mono ?_; rintro e w2 ⟨rfl, hw2⟩; rw [hw2]; clear hw2 w2)
    | (go_at_call 64; refine HB.out.mono ?_; rintro e w3 ⟨rfl, H3, hw3, hu3, hH3⟩; have Hw3 := hide hw3; have Hu3 := hide hu3; clear hw3 hu3 hH3))
  go_ret
  exact ⟨rfl, WebAt.book Hh.out hc1 Hw.out.inZ Hu3.out (Hw3.out.mono fun k hk _ => .inl hk) Hf.out ht hs, H.blocks wb, fun k hk => (Hw.out.inZ k hk).1, Hu3.out⟩
end Go.Proofs.YtmfkpllnmmfpiaaGreatDoor
