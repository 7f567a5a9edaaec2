/-
  'filled': a Book with the sentences of some raw numbers.
-/
import Derived.Test.YtmfkpllnmmfpiaaDoorPowersH
import Derived.Test.YtmfkpllnmmfpiaaDoorRawRowH
namespace Go.Proofs.YtmfkpllnmmfpiaaDoor
open Go.RowKit

theorem One.look {w wk w' : World} {bb : Nat} {S : WS} (h : One w wk bb S) (U : Upd [] wk w') : One w w' bb S := h.next (h.book.wider U) ⟨[], fun k hk => (by cases hk), U⟩

set_option maxHeartbeats 4000000 in
set_option maxRecDepth 100000 in
theorem filled_any (ao : Option Addr) (zs : List Int) (cap : Nat) (w : World) (hE : ErrTab w) (hR : RawIs w ao zs) :
    Calls Tryd.prog 20 #[.slice ao zs.length cap] w fun e w' => ∃ bb, e = .returned (.pointer (some ⟨bb, 0, none⟩)) ∧ One w w' bb (fillM noWS (zs.take 12)) := by
  have HOp := hide (opened_any w hE)
  have h0 := hE.1
  have HE := hide hE
  have HR := hide hR
  clear hE hR
  go_enter Tryd.func20, Tryd.ntmps20
  go_upto_region 2 with (go_at_call 12; refine HOp.out.mono ?_; rintro e w1 ⟨bb, rfl, hb1, hu1⟩; have H1 := hide (⟨HE.out.later hu1 (by simp), hb1, hu1, h0⟩ : One w w1 bb noWS); clear hb1 hu1)
  clear HOp HE
  go_wp2
  go_loopw [4] (fun i wr => ∃ j : Nat, j ≤ 12 ∧ j ≤ zs.length ∧ i = .int .i64 j ∧ Hid (One w wr bb (fillM noWS (zs.take j)))) (fun i _ => 12 - (intOf i).toNat)
  case atStart => exact ⟨0, by omega, by omega, rfl, H1.out⟩
  case round =>
    obtain ⟨j, hj, hjl, rfl, HO⟩ := hrel
    clear H1
    by_cases hgo : j < zs.length ∧ j < 12
    · have hg1 : (j : Int) < (zs.length : Int) := by omega
      have hg2 : (j : Int) < 12 := by omega
      obtain ⟨rb, ro, rfl, hz⟩ := HR.out.cells j hgo.1
      have hzf : Fits64 (zs.getD j 0) := HR.out.fits j
      have hrl : rb < w.heap.size := World.block_lt_of_cell? _ _ hz
      have hzr : wr.cell? ⟨rb, ro + j, none⟩ = some (.int .i64 (zs.getD j 0)) := (HO.out.upd.cell (p := ⟨rb, ro + j, none⟩) hrl (by simp)).trans hz
      have htk : zs.take (j + 1) = zs.take j ++ [zs.getD j 0] := by
        rw [List.take_succ_eq_append_getElem hgo.1, List.getD_eq_getElem?_getD, List.getElem?_eq_getElem hgo.1]
        rfl
      have hW := fillM_w3 (zs.take j) noWS 0 W3.none (by simp; omega)
      have hlj : 0 + (zs.take j).length = j := by simp; omega
      rw [hlj] at hW
      have hS := hW.say (by omega) (s3Of_ok (zs.getD j 0))
      have HN : Hid (fillM noWS (zs.take (j + 1)) = (sayOf (fillM noWS (zs.take j)) (s3Of (zs.getD j 0)).text).2) := by show _ = _; rw [htk, fillM_snoc]
      have HSe := hide (fun w' : World => keepSentence_any (zs.getD j 0) w' hzf)
      have hsz := S3.size (s3Of_ok (zs.getD j 0))
      have HSay := hide (fun (w5 : World) (h : One w w5 bb (fillM noWS (zs.take j))) => say_any (s3Of (zs.getD j 0)).text w5 bb _ _ (by unfold maxLen; omega) h.book h.err)
      rw [hS.1] at HSay
      simp only [Int.natCast_zero] at HSay
      generalize zs.getD j 0 = z at *
      generalize fillM noWS (zs.take j) = S at *
      generalize (sayOf S (s3Of z).text).2 = S' at *
      generalize (s3Of z).text = t at *
      clear hz hzf hrl htk hW hS hlj
      go_wp2_with (first
        | (go_at_call 21; refine (HSe.out _).mono ?_; rintro e w2 ⟨rfl, hu2⟩; have H2 := hide (HO.out.look hu2); clear hu2)
        | (go_at_call 14; refine (HSay.out _ H2.out).mono ?_; rintro e w3 ⟨rfl, hb3, hL3⟩; have H3 := hide (H2.out.next hb3 hL3); clear hb3 hL3))
      refine ⟨⟨j + 1, by omega, by omega, by go_num, ?_⟩, by simp [intOf]; omega⟩
      rw [HN.out]
      exact H3.out
    · have htk : zs.take 12 = zs.take j := by
        by_cases h1 : j < zs.length
        · obtain rfl : j = 12 := by omega
          rfl
        · rw [List.take_of_length_le (by omega), List.take_of_length_le (by omega)]
      have HT : Hid (fillM noWS (zs.take 12) = fillM noWS (zs.take j)) := by show _ = _; rw [htk]
      clear htk
      by_cases h1 : j < zs.length
      · have hg1 : (j : Int) < (zs.length : Int) := by omega
        have hg2 : ¬ (j : Int) < 12 := by omega
        clear hgo
        go_wp2
        go_ret
        refine ⟨bb, rfl, ?_⟩
        rw [HT.out]
        exact HO.out
      · have hg1 : ¬ (j : Int) < (zs.length : Int) := by omega
        clear hgo
        go_wp2
        go_ret
        refine ⟨bb, rfl, ?_⟩
        rw [HT.out]
        exact HO.out
end Go.Proofs.YtmfkpllnmmfpiaaDoor
