/-
  'Sound', walked: it answers true.
-/
import Derived.Test.YtmfkpllnmmfpiaaDoorSoundLawH
import Derived.Deep.CutBlock
namespace Go.Proofs.YtmfkpllnmmfpiaaDoor
open Go.RowKit

set_option maxHeartbeats 8000000 in
set_option maxRecDepth 100000 in
theorem sound_any (ao : Option Addr) (zs : List Int) (cap : Nat) (c : Int) (w : World) (hE : ErrTab w) (hR : RawIs w ao zs) (hc : Fits64 c) :
    Calls Tryd.prog 6 #[.slice ao zs.length cap, .int .i64 c] w fun e w' => e = .returned (.bool true) ∧ Upd [] w w' := by
  have hl12 : (zs.take 12).length ≤ 12 := by simp; omega
  obtain ⟨hbk, hgd⟩ := fill_ok (zs.take 12) (by omega)
  obtain ⟨x, hx, hex, hfo, hiff, hnx, hzx⟩ := fill_follows (zs.take 12) (by omega) c
  have HF1 := hide (filled_any ao zs cap w hE hR)
  have hpos := hE.1
  have HSe := hide (fun w' : World => keepSentence_any c w' hc)
  have hsz := S3.size (s3Of_ok c)
  have hterms : (fillM noWS (zs.take 12)).shapes.length ≤ 100 := by have := hgd.w3.len; omega
  have HAsk := hide (fun (w5 : World) (bb : Nat) (h : One w w5 bb (fillM noWS (zs.take 12))) => keepFollows_any (s3Of c).text w5 bb _ _ (by unfold maxLen; omega) h.book h.err hfo)
  have hcI : -9223372036854775808 ≤ c ∧ c ≤ 9223372036854775807 := hc
  cases hfm : followsM (fillM noWS (zs.take 12)) x with
  | false =>
    have HWn := hide (fun (w5 : World) (bb : Nat) (h : One w w5 bb (fillM noWS (zs.take 12))) => bookWhy_no (s3Of c).text w5 bb _ _ (by unfold maxLen; omega) h.book h.err hx hfm)
    rw [hfm] at HAsk
    clear hfm hiff hbk hgd hE hR hfo hx
    generalize fillM noWS (zs.take 12) = S at *
    generalize (s3Of c).text = t at *
    go_enter Tryd.func6, Tryd.ntmps6
    go_wp2_with (first
      | (go_at_call 20; refine HF1.out.mono ?_; rintro e w1 ⟨bb, rfl, h1⟩; have H1 := hide h1; clear h1)
      | (go_at_call 21; refine (HSe.out _).mono ?_; rintro e w2 ⟨rfl, hu2⟩; have H2 := hide (H1.out.look hu2); clear hu2)
      | (go_at_call 16; refine (HAsk.out _ bb H2.out).mono ?_; rintro e w3 ⟨rfl, hb3, hL3⟩; have H3 := hide (H2.out.next hb3 hL3); clear hb3 hL3)
      | (go_at_call 22; refine (HWn.out _ bb H3.out).mono ?_; rintro e w4 ⟨rfl, hb4, hL4⟩; have H4 := hide (H3.out.next hb4 hL4); clear hb4 hL4))
    go_ret
    exact ⟨rfl, H4.out.upd⟩
  | true =>
    have hcl := hiff.1 hfm
    have hwi := hbk.holds.why_is hbk.small hnx (by omega) hterms
    rw [hex] at hwi
    have HWy := hide (fun (w5 : World) (bb : Nat) (h : One w w5 bb (fillM noWS (zs.take 12))) => bookWhy_yes (s3Of c).text w5 bb _ _ _ (by unfold maxLen; omega) h.book h.err hbk hx hfm)
    rw [hfm] at HAsk
    generalize whyL (otherM ⟨_, contra x⟩ (sentsX (fillM noWS (zs.take 12)))) (sentsX (fillM noWS (zs.take 12))) = N at *
    have HOut := hide (fun (out : Int) (h1 : -1 ≤ out) (h2 : out < N.length) => sound_out hwi hcl out h1 h2)
    have hNl : N.length ≤ 12 := by
      have h1 := nodup_below 12 N (hwi.rise.imp (fun h => Nat.ne_of_lt h)) (fun k hk => by have := hwi.lt k hk; simp at this; omega)
      exact h1
    have HNlt : Hid (∀ i, i < N.length → N.getD i 0 < zs.length ∧ N.getD i 0 < 12) := fun i hi => by
      have := hwi.lt _ (getD_mem hi)
      rw [List.length_map, List.length_take] at this
      omega
    have HRise : Hid (∀ p, p + 1 < N.length → N.getD p 0 < N.getD (p + 1) 0) := fun p hp => rise_step hwi.rise hp
    have HAskX := hide (fun (l : List Int) (hl : l.length ≤ 12) (w0 w5 : World) (xb : Nat) (h : One w0 w5 xb (fillM noWS l)) (f : Bool) (hf : f = true ↔ ClashT (l.map stOf ++ [contraT (stOf c)])) => by
      obtain ⟨y, hy, hey, hfy, hiy, _, _⟩ := fill_follows l (by omega) c
      have e : followsM (fillM noWS l) y = f := by
        cases f with
        | true => exact hiy.2 (hf.1 rfl)
        | false =>
          cases hq : followsM (fillM noWS l) y with
          | false => rfl
          | true => exact absurd (hf.2 (hiy.1 hq)) (by simp)
      rw [e] at hfy
      exact keepFollows_any (s3Of c).text w5 xb _ _ (by unfold maxLen; omega) h.book h.err hfy)
    have HR := hide hR
    have HE := hide hE
    clear hfm hiff hbk hgd hE hR hfo hx hcl hwi
    generalize fillM noWS (zs.take 12) = S at *
    generalize htt : (s3Of c).text = t at *
    go_enter Tryd.func6, Tryd.ntmps6
    go_upto_region 11 with (first
      | (go_at_call 20; refine HF1.out.mono ?_; rintro e w1 ⟨bb, rfl, h1⟩; have H1 := hide h1; clear h1)
      | (go_at_call 21; refine (HSe.out _).mono ?_; rintro e w2 ⟨rfl, hu2⟩; have H2 := hide (H1.out.look hu2); clear hu2)
      | (go_at_call 16; refine (HAsk.out _ bb H2.out).mono ?_; rintro e w3 ⟨rfl, hb3, hL3⟩; have H3 := hide (H2.out.next hb3 hL3); clear hb3 hL3)
      | (go_at_call 22; refine (HWy.out _ bb H3.out).mono ?_; rintro e w4 ⟨v4, m4, rfl, hm4, hb4, hL4, hr4⟩; have HL4 := hide hL4; have Hr4 := hide hr4; clear hm4 hb4 hL4 hr4))
    have U4 : Upd [] w w4 := by
      obtain ⟨L, hL, U⟩ := HL4.out
      exact H3.out.upd.trans' U (fun k hk hl => by have := (hL k hk).1; omega)
    have HU4 := hide U4
    have hE4 := hide (HE.out.later U4 (by simp))
    have hR4 := hide (HR.out.later U4)
    obtain ⟨gv, capv, hv⟩ := slice_len Hr4.out
    subst hv
    clear HF1 HAsk HWy H1 H2 H3 HL4 HE HR U4
    have hNI : (N.length : Int) ≤ 12 := by omega
    have hcapv : N.length ≤ capv ∨ N.length = 0 := by
      rcases ownsRow_slice Hr4.out with ⟨_, h0⟩ | ⟨b, cp, h1, h2, _⟩
      · exact .inr h0
      · cases h1; exact .inl h2
    have HCell : Hid (∀ (wr : World), Upd [] w4 wr → ∀ i, i < N.length → ∃ b, gv = some ⟨b, 0, none⟩ ∧ wr.cell? ⟨b, i, none⟩ = some (.int .i64 (N.getD i 0 : Nat))) := fun wr hu i hi => by
      rcases ownsRow_slice Hr4.out with ⟨_, h0⟩ | ⟨b, cp, h1, _, _⟩
      · omega
      · have hr := hu.ownsRow Hr4.out (fun _ _ => by simp)
        rw [h1] at hr
        cases h1
        exact ⟨b, rfl, row1_cell hr hi⟩
    clear Hr4
    go_wp2_with fail
    go_loopw [12] (fun q wr => ∃ o : Nat, o ≤ N.length + 1 ∧ q = .int .i64 ((o : Int) - 1) ∧ Hid (Upd [] w4 wr)) (fun q _ => (N.length - intOf q).toNat)
    case atStart => exact ⟨0, by omega, rfl, Upd.refl _ _⟩
    case round =>
      obtain ⟨o, ho, rfl, HU⟩ := hrel
      obtain ⟨w0, hw0⟩ : ∃ w0, w0 = wr := ⟨_, rfl⟩
      subst hw0
      obtain ⟨out, hout⟩ : ∃ out : Int, (o : Int) - 1 = out := ⟨_, rfl⟩
      have hlo : -1 ≤ out := by omega
      have hout1 : out = (o : Int) - 1 := by omega
      by_cases hgo : o < N.length + 1
      · have hhi : out < (N.length : Int) := by omega
        rw [hout]
        have HO1 := hide hout1
        clear hout hout1
        have hE5 := hide (hE4.out.later HU.out (by simp))
        have HNew := hide (new_any w0)
        have HB := hide (HOut.out out hlo hhi)
        have hpr : 0 < w0.heap.size := hE5.out.1
        go_upto_region 15 with (go_at_call 23; refine HNew.out.mono ?_; rintro e w5 ⟨xb, rfl, hb5, hu5⟩; have H5 := hide (⟨hE5.out.later hu5 (by simp), hb5, hu5, hpr⟩ : One w0 w5 xb noWS); clear hb5 hu5)
        clear HNew hE5
        go_wp2_with fail
        go_loopw [14] (fun q wq => ∃ i : Nat, i ≤ N.length ∧ q = .int .i64 i ∧ Hid (One w0 wq xb (fillM noWS ((pickL N out i).map (fun j => zs.getD j 0))))) (fun q _ => N.length - (intOf q).toNat)
        case atStart => exact ⟨0, Nat.zero_le _, rfl, H5.out⟩
        case round =>
          obtain ⟨i, hi, rfl, HI⟩ := hrel
          clear H5
          by_cases hiN : i < N.length
          · have hiI : (i : Int) < (N.length : Int) := by omega
            have UI := HU.out.trans HI.out.upd
            obtain ⟨b, hgv, hcell⟩ := HCell.out wr UI i hiN
            subst hgv
            obtain ⟨hn1, hn2⟩ := HNlt.out i hiN
            have hPrev : ∀ p, i = p + 1 → wr.cell? ⟨b, p, none⟩ = some (.int .i64 (N.getD p 0 : Nat)) ∧ N.getD p 0 < N.getD i 0 := fun p hp => by
              obtain ⟨b', hb', hc'⟩ := HCell.out wr UI p (by omega)
              cases hb'
              refine ⟨hc', ?_⟩
              subst hp
              exact HRise.out p hiN
            obtain ⟨rb, ro, rfl, hz⟩ := (hR4.out.later UI).cells (N.getD i 0) hn1
            have hzf : Fits64 (zs.getD (N.getD i 0) 0) := hR4.out.fits _
            have hkl := pickL_length N out i
            have hfok := fill_ok ((pickL N out i).map (fun j => zs.getD j 0)) (by rw [List.length_map]; omega)
            have HSay := hide (fun (w6 : World) (h : One w0 w6 xb (fillM noWS ((pickL N out i).map (fun j => zs.getD j 0)))) => say_any (s3Of (zs.getD (N.getD i 0) 0)).text w6 xb _ _ (by have := S3.size (s3Of_ok (zs.getD (N.getD i 0) 0)); unfold maxLen; omega) h.book h.err)
            have HSt := hide (fun w' : World => keepSentence_any (zs.getD (N.getD i 0) 0) w' hzf)
            have HKeep : Hid ((i : Int) ≠ out → (sayOf (fillM noWS ((pickL N out i).map (fun j => zs.getD j 0))) (s3Of (zs.getD (N.getD i 0) 0)).text).2 = fillM noWS ((pickL N out (i + 1)).map (fun j => zs.getD j 0))) := fun hne => by
              rw [pickL_take hne, List.map_append, List.map_cons, List.map_nil, fillM_snoc]
            have HSkip : Hid ((i : Int) = out → fillM noWS ((pickL N out i).map (fun j => zs.getD j 0)) = fillM noWS ((pickL N out (i + 1)).map (fun j => zs.getD j 0))) := fun he => by rw [pickL_skip he]
            have hzI : -9223372036854775808 ≤ zs.getD (N.getD i 0) 0 ∧ zs.getD (N.getD i 0) 0 ≤ 9223372036854775807 := hzf
            have hnI1 : ((N.getD i 0 : Nat) : Int) < (zs.length : Int) := by omega
            have hnI2 : ((N.getD i 0 : Nat) : Int) < 12 := by omega
            generalize hS2 : fillM noWS ((pickL N out (i + 1)).map (fun j => zs.getD j 0)) = S2 at *
            have HS2 := hide hS2
            clear hS2
            generalize fillM noWS ((pickL N out i).map (fun j => zs.getD j 0)) = S1 at *
            generalize zs.getD (N.getD i 0) 0 = z at *
            generalize hnn : N.getD i 0 = nn at *
            clear hfok hkl hzf hn1 hn2
            by_cases hie : (i : Int) = out
            · have HS := hide (HSkip.out hie)
              have HIN : Hid (∀ wq, Upd [] wr wq → One w0 wq xb S2) := fun wq hu => by rw [← HS.out]; exact HI.out.look hu
              clear HSay HSt HKeep HSkip HS HI UI HCell hR4 hz
              have Hie := hide hie
              have hie' : ((i : Int) != out) = false := by simp [hie]
              cases i with
              | zero =>
                clear hPrev hie
                go_wp2_with fail
                have hg0 : ¬ ((nn : Int) < 0) := by omega
                have hg1 : ¬ ((zs.length : Int) ≤ (nn : Int)) := by omega
                have hg2 : ¬ ((12 : Int) ≤ (nn : Int)) := by omega
                go_big_quiet (fail)
                go_wp2
                exact ⟨⟨0 + 1, by omega, by go_num, (by show One _ _ _ _; rw [HS2.out]; exact HIN.out _ ((Upd.refl [] wr).drewN nq))⟩, by simp [intOf]; omega⟩
              | succ p =>
                obtain ⟨hpc, hpl⟩ := hPrev p rfl
                have hpl' : ((N.getD p 0 : Nat) : Int) < (nn : Int) := by omega
                generalize N.getD p 0 = np at *
                clear hPrev hpl hie
                go_wp2_with fail
                have hg0 : ¬ ((nn : Int) < 0) := by omega
                have hg1 : ¬ ((zs.length : Int) ≤ (nn : Int)) := by omega
                have hg2 : ¬ ((12 : Int) ≤ (nn : Int)) := by omega
                have hg3 : ¬ ((nn : Int) ≤ (np : Int)) := by omega
                have hg4 : (0 : Int) < (p : Int) + 1 := by omega
                have hg5 : (p : Int) < (N.length : Int) := by omega
                go_big_quiet (fail)
                go_wp2
                exact ⟨⟨p + 1 + 1, by omega, by go_num, (by show One _ _ _ _; rw [HS2.out]; exact HIN.out _ ((Upd.refl [] wr).drewN nq))⟩, by simp [intOf]; omega⟩
            · have HS := hide (HKeep.out hie)
              have HIl : Hid (∀ wq, Upd [] wr wq → One w0 wq xb S1) := fun wq hu => HI.out.look hu
              clear HKeep HSkip HI UI HCell hR4
              have hie' : ((i : Int) != out) = true := by simpa using hie
              have hzs := S3.size (s3Of_ok z)
              have HRz : Hid (∀ nq, (wr.drewN nq).cell? ⟨rb, ro + nn, none⟩ = some (.int .i64 z)) := fun nq => by simpa using hz
              cases i with
              | zero =>
                clear hPrev
                go_wp2_with fail
                have hg0 : ¬ ((nn : Int) < 0) := by omega
                have hg1 : ¬ ((zs.length : Int) ≤ (nn : Int)) := by omega
                have hg2 : ¬ ((12 : Int) ≤ (nn : Int)) := by omega
                go_big_quiet (fail)
                go_wp2_with (first
                  | (go_at_call 21; refine (HSt.out _).mono ?_; rintro e w6 ⟨rfl, hu6⟩; have H6 := hide (HIl.out w6 (((Upd.refl [] wr).drewN nq).trans hu6)); clear hu6)
                  | (go_at_call 14; refine (HSay.out _ H6.out).mono ?_; rintro e w7 ⟨rfl, hb7, hL7⟩; have H7 := hide (H6.out.next hb7 hL7); clear hb7 hL7))
                exact ⟨⟨0 + 1, by omega, by go_num, (by show One _ _ _ _; rw [HS2.out, ← HS.out]; exact H7.out)⟩, by simp [intOf]; omega⟩
              | succ p =>
                obtain ⟨hpc, hpl⟩ := hPrev p rfl
                have hpl' : ((N.getD p 0 : Nat) : Int) < (nn : Int) := by omega
                generalize N.getD p 0 = np at *
                clear hPrev hpl
                go_wp2_with fail
                have hg0 : ¬ ((nn : Int) < 0) := by omega
                have hg1 : ¬ ((zs.length : Int) ≤ (nn : Int)) := by omega
                have hg2 : ¬ ((12 : Int) ≤ (nn : Int)) := by omega
                have hg3 : ¬ ((nn : Int) ≤ (np : Int)) := by omega
                have hg4 : (0 : Int) < (p : Int) + 1 := by omega
                have hg5 : (p : Int) < (N.length : Int) := by omega
                go_big_quiet (fail)
                go_wp2_with (first
                  | (go_at_call 21; refine (HSt.out _).mono ?_; rintro e w6 ⟨rfl, hu6⟩; have H6 := hide (HIl.out w6 (((Upd.refl [] wr).drewN nq).trans hu6)); clear hu6)
                  | (go_at_call 14; refine (HSay.out _ H6.out).mono ?_; rintro e w7 ⟨rfl, hb7, hL7⟩; have H7 := hide (H6.out.next hb7 hL7); clear hb7 hL7))
                exact ⟨⟨p + 1 + 1, by omega, by go_num, (by show One _ _ _ _; rw [HS2.out, ← HS.out]; exact H7.out)⟩, by simp [intOf]; omega⟩
          · obtain rfl : i = N.length := by omega
            have hge : ¬ (N.length : Int) < (N.length : Int) := by omega
            have hkl := pickL_length N out N.length
            by_cases hneg : out < 0
            · have HAs := hide (HAskX.out _ (by rw [List.length_map]; omega) w0 wr xb HI.out true (by rw [HB.out]; simp [hneg]))
              clear HAskX HCell hR4 HNlt HRise HOut
              go_wp2_with (go_at_call 16; refine HAs.out.mono ?_; rintro e w8 ⟨rfl, hb8, hL8⟩; have H8 := hide (HI.out.next hb8 hL8); clear hb8 hL8)
              refine ⟨⟨o + 1, by omega, ?_, HU.out.trans H8.out.upd⟩, ?_⟩
              · have := HO1.out
                congr 1
                omega
              · have := HO1.out
                simp only [intOf]
                omega
            · have HAs := hide (HAskX.out _ (by rw [List.length_map]; omega) w0 wr xb HI.out false (by rw [HB.out]; simp; omega))
              clear HAskX HCell hR4 HNlt HRise HOut
              go_wp2_with (go_at_call 16; refine HAs.out.mono ?_; rintro e w8 ⟨rfl, hb8, hL8⟩; have H8 := hide (HI.out.next hb8 hL8); clear hb8 hL8)
              refine ⟨⟨o + 1, by omega, ?_, HU.out.trans H8.out.upd⟩, ?_⟩
              · have := HO1.out
                congr 1
                omega
              · have := HO1.out
                simp only [intOf]
                omega
      · have hge : ¬ (out : Int) < (N.length : Int) := by omega
        rw [hout]
        clear HAskX HCell hR4 HNlt HRise HOut hout hout1
        go_wp2
        go_ret
        exact ⟨rfl, HU4.out.trans HU.out⟩
end Go.Proofs.YtmfkpllnmmfpiaaDoor
