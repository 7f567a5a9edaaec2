/-
  'Taken', walked: it answers true.
-/
import Derived.Test.YtmfkpllnmmfpiaaDoorPairH
import Derived.Deep.CutBlock
namespace Go.Proofs.YtmfkpllnmmfpiaaDoor
open Go.RowKit

theorem pairSay {w0 w : World} {b x : Nat} {Sb Sx : WS} (h : Pair w0 w b x Sb Sx) {k : Nat} {m : List Nat} (hg : Good Sb k m) (hk : k ≤ 23) {s : S3} (hs : s.ok) :
    Calls Tryd.prog 14 #[.pointer (some ⟨b, 0, none⟩), .string s.text] w fun e w' => e = .returned (.tuple #[.int .i64 (k : Int), .int .i64 0, .int .i64 0]) ∧ Pair w0 w' b x (sayOf Sb s.text).2 Sx := by
  refine h.step fun Z hb => ?_
  have hz := S3.size hs
  have := say_any s.text w b Z Sb (by unfold maxLen; omega) hb h.err
  rw [(hg.say hk hs).1] at this
  exact this
theorem pairFollows {w0 w : World} {b x : Nat} {Sb Sx : WS} (h : Pair w0 w b x Sb Sx) {s : S3} (hs : s.ok) {f : Bool} (hf : followsOf Sb s.text = (f, 0, 0)) :
    Calls Tryd.prog 25 #[.pointer (some ⟨b, 0, none⟩), .string s.text] w fun e w' => e = .returned (.tuple #[.bool f, .int .i64 0, .int .i64 0]) ∧ Pair w0 w' b x Sb Sx := by
  refine h.step fun Z hb => ?_
  have hz := S3.size hs
  have := follows_any s.text w b Z Sb (by unfold maxLen; omega) hb h.err
  rw [hf] at this
  exact this
theorem pairAsk {w0 w : World} {b x : Nat} {Sb Sx : WS} (h : Pair w0 w b x Sb Sx) {s : S3} (hs : s.ok) {f : Bool} (hf : followsOf Sb s.text = (f, 0, 0)) :
    Calls Tryd.prog 16 #[.pointer (some ⟨b, 0, none⟩), .string s.text] w fun e w' => e = .returned (.tuple #[.bool f, .bool true]) ∧ Pair w0 w' b x Sb Sx := by
  refine h.step fun Z hb => ?_
  have hz := S3.size hs
  exact keepFollows_any s.text w b Z Sb (by unfold maxLen; omega) hb h.err hf
theorem pairMark {w0 w : World} {b x : Nat} {Sb Sx : WS} (h : Pair w0 w b x Sb Sx) (hm : Sb.marks.length < 10) :
    Calls Tryd.prog 24 #[.pointer (some ⟨b, 0, none⟩)] w fun e w' => e = .returned (.int .i64 0) ∧ Pair w0 w' b x (markM Sb) Sx :=
  h.step fun Z hb => bookMark_any w b Z Sb hb hm
theorem pairBack {w0 w : World} {b x : Nat} {Sb Sx S0 : WS} (h : Pair w0 w b x Sb Sx) {k : Nat} (hg : Good S0 k []) (hk : k ≤ 12) (hgo : Goes (markM S0) Sb) :
    Calls Tryd.prog 26 #[.pointer (some ⟨b, 0, none⟩)] w fun e w' => e = .returned (.int .i64 0) ∧ Pair w0 w' b x S0 Sx := by
  refine h.step fun Z hb => ?_
  have hl := hg.w3.len
  have := bookBack_some w b Z Sb (markM S0) [] hb hgo (by show S0.marks ++ [_] = _; rw [hg.marks]; rfl) (by simp) (hg.w3.fine.marks _) (by show S0.shapes.length ≤ 100; omega) (by show S0.said.length ≤ 40; rw [hg.w3.said]; omega)
  rw [unmark hg.marks] at this
  exact this
theorem pairBackNone {w0 w : World} {b x : Nat} {Sb Sx : WS} (h : Pair w0 w b x Sb Sx) (hm : Sb.marks = []) :
    Calls Tryd.prog 26 #[.pointer (some ⟨b, 0, none⟩)] w fun e w' => e = .returned (.int .i64 5) ∧ w' = w := by
  obtain ⟨Z, hb⟩ := h.book
  exact bookBack_none w b Z Sb hb hm
theorem pairClash {w0 w : World} {b x : Nat} {Sb Sx : WS} (h : Pair w0 w b x Sb Sx) :
    Calls Tryd.prog 17 #[.pointer (some ⟨b, 0, none⟩)] w fun e w' => e = .returned (.bool (clashM Sb)) ∧ Pair w0 w' b x Sb Sx := by
  obtain ⟨Z, hb⟩ := h.book
  exact (clash_any w b Z Sb hb).mono fun e w' hw => ⟨hw.1, h.look hw.2⟩
theorem pairSaid {w0 w : World} {b x : Nat} {Sb Sx : WS} (h : Pair w0 w b x Sb Sx) {k : Nat} {m : List Nat} (hg : Good Sb k m) :
    Calls Tryd.prog 27 #[.pointer (some ⟨b, 0, none⟩)] w fun e w' => ∃ g cap, e = .returned (.slice g (saidOf Sb).length cap) ∧ Pair w0 w' b x Sb Sx := by
  obtain ⟨Z, hb⟩ := h.book
  refine (bookSaid_any w b Z Sb hb hg.tag hg.text).mono fun e w' hw => ?_
  obtain ⟨v, he, hu, hr⟩ := hw
  obtain ⟨g, cap, hv⟩ := slice_len hr
  exact ⟨g, cap, by rw [he, hv], h.look hu⟩
theorem pairClasses {w0 w : World} {b x : Nat} {Sb Sx : WS} (h : Pair w0 w b x Sb Sx) {k : Nat} {m : List Nat} (hg : Good Sb k m) :
    Calls Tryd.prog 28 #[.pointer (some ⟨b, 0, none⟩)] w fun e w' => ∃ g cap rs, e = .returned (.slice g (classesOf Sb).length cap) ∧ Pair w0 w' b x Sb Sx ∧ Upd [] w w' ∧ ListsAt w' 0 (.slice g (classesOf Sb).length cap) rs (classesOf Sb) := by
  obtain ⟨Z, hb⟩ := h.book
  refine (bookClasses_any w b Z Sb hb hg.text).mono fun e w' hw => ?_
  obtain ⟨v, rs, he, hu, hl⟩ := hw
  obtain ⟨g, cap, hv⟩ := slice_len hl.row
  subst hv
  exact ⟨g, cap, rs, he, h.look hu, hu, own_base hl.row (Nat.zero_le _), hl.len, fun p r l h1 h2 => own_base (hl.all p r l h1 h2) (Nat.zero_le _), hl.out, hl.sep⟩

/-- One list of two tellings, and a text of it. -/
theorem told_at {w14 wr : World} {v : Value} {rs : List Value} {ls : List (List ByteArray)} (h : ListsAt w14 0 v rs ls) (U : Upd [] w14 wr) {b i cap : Nat} {l : List ByteArray} (hv : v = .slice (some ⟨b, 0, none⟩) ls.length cap) (hi : ls[i]? = some l) :
    ∃ gr cr, wr.cell? ⟨b, i, none⟩ = some (.slice gr l.length cr) ∧ l.length ≤ 9223372036854775807 ∧ ∀ (q : Nat) (t : ByteArray), l[q]? = some t → ∃ d, gr = some ⟨d, 0, none⟩ ∧ wr.cell? ⟨d, q, none⟩ = some (.string t) := by
  have h2 := h.later U (fun k hk => by cases hk)
  have hlt := (List.getElem?_eq_some_iff.1 hi).1
  obtain ⟨r, hr⟩ : ∃ r, rs[i]? = some r := ⟨_, List.getElem?_eq_getElem (by rw [h.len]; exact hlt)⟩
  have hrow := h2.row
  rw [hv] at hrow
  have hs := h2.all i r l hr hi
  obtain ⟨gr, cr, hre⟩ := slice_len hs
  have hlm : l.length ≤ 9223372036854775807 := by
    rcases ownsRow_slice hs with ⟨_, h0⟩ | ⟨d, c2, _, h2, h3⟩
    · omega
    · unfold maxLen at h3; omega
  refine ⟨gr, cr, by rw [hrow.cellAt i (by omega), hr, hre], hlm, fun q t hq => ?_⟩
  have hql := (List.getElem?_eq_some_iff.1 hq).1
  rcases ownsRow_slice hs with ⟨_, h0⟩ | ⟨d, c2, h1, _, _⟩
  · omega
  · rw [hre] at h1
    cases h1
    have hs' : wr.ownsRow 0 9 1 (.slice (some ⟨d, 0, none⟩) l.length cr) l.length (l.map Value.string) := by rw [← hre]; exact hs
    exact ⟨d, rfl, by rw [hs'.cellAt q (by omega), List.getElem?_map, hq]; rfl⟩
theorem told_some {w : World} {v : Value} {rs : List Value} {ls : List (List ByteArray)} {g : Option Addr} {cap i : Nat} (h : ListsAt w 0 v rs ls) (hv : v = .slice g ls.length cap) (hi : i < ls.length) : ∃ b, g = some ⟨b, 0, none⟩ ∧ ls.length ≤ 9223372036854775807 := by
  rcases ownsRow_slice h.row with ⟨_, h0⟩ | ⟨b, c2, h1, h2, h3⟩
  · omega
  · rw [hv] at h1
    cases h1
    unfold maxLen at h3
    exact ⟨b, rfl, by omega⟩

set_option maxHeartbeats 8000000 in
set_option maxRecDepth 100000 in
theorem taken_any (ao : Option Addr) (zs : List Int) (cap : Nat) (ao2 : Option Addr) (ms : List Int) (cap2 : Nat) (c : Int) (w : World) (hE : ErrTab w) (hR : RawIs w ao zs) (hM : RawIs w ao2 ms) (hc : Fits64 c) :
    Calls Tryd.prog 7 #[.slice ao zs.length cap, .slice ao2 ms.length cap2, .int .i64 c] w fun e w' => e = .returned (.bool true) ∧ Upd [] w w' := by
  obtain ⟨hG0, _⟩ := Good.fill (zs.take 12) noWS 0 [] Good.none (by simp; omega)
  obtain ⟨k0, hk0, hk12⟩ : ∃ k0, 0 + (zs.take 12).length = k0 ∧ k0 ≤ 12 := ⟨_, rfl, by simp; omega⟩
  rw [hk0] at hG0
  have HF1 := hide (filled_any ao zs cap w hE hR)
  have HF2 := hide (fun (w1 : World) (b : Nat) (h : One w w1 b (fillM noWS (zs.take 12))) => filled_any ao zs cap w1 h.err (hR.later h.upd))
  generalize fillM noWS (zs.take 12) = S0 at *
  clear hk0 hE hR
  have HMk := hide (fun (w2 : World) (b x : Nat) (h : Pair w w2 b x S0 S0) => pairMark h (by rw [hG0.marks]; simp))
  have HG0 := hide hG0
  have HMr := hide hM
  clear hM hG0
  go_enter Tryd.func7, Tryd.ntmps7
  go_upto_region 2 with (go_at_call 20; refine HF1.out.mono ?_; rintro e w1 ⟨bb, rfl, h1⟩; have H1 := hide h1; clear h1)
  go_upto_region 3 with (go_at_call 20; refine (HF2.out w1 bb H1.out).mono ?_; rintro e w2 ⟨xb, rfl, h2⟩; have H2 := hide (Pair.begin H1.out h2); clear h2)
  clear HF1 HF2 H1
  go_upto_region 7 with (go_at_call 24; refine (HMk.out w2 bb xb H2.out).mono ?_; rintro e w3 ⟨rfl, h3⟩; have H3 := hide h3; clear h3)
  clear HMk H2
  go_upto_block 0 with (fail)
  go_cut [] (fun wx => Pair w wx bb xb (fillM (markM S0) (ms.take 12)) S0)
  case first =>
    go_wp2_with fail
    go_loopw [9] (fun i wr => ∃ j : Nat, j ≤ 12 ∧ j ≤ ms.length ∧ i = .int .i64 j ∧ Hid (Pair w wr bb xb (fillM (markM S0) (ms.take j)) S0)) (fun i _ => 12 - (intOf i).toNat)
    case atStart => exact ⟨0, by omega, by omega, rfl, H3.out⟩
    case round =>
      obtain ⟨j, hj, hjl, rfl, HO⟩ := hrel
      clear H3
      by_cases hgo : j < ms.length ∧ j < 12
      · have hg1 : (j : Int) < (ms.length : Int) := by omega
        have hg2 : (j : Int) < 12 := by omega
        obtain ⟨rb, ro, rfl, hz⟩ := HMr.out.cells j hgo.1
        have hzf : Fits64 (ms.getD j 0) := HMr.out.fits j
        have hrl : rb < w.heap.size := World.block_lt_of_cell? _ _ hz
        have hzr : wr.cell? ⟨rb, ro + j, none⟩ = some (.int .i64 (ms.getD j 0)) := (HO.out.upd.cell (p := ⟨rb, ro + j, none⟩) hrl (by simp)).trans hz
        have Hkeep : Hid (∀ w', Pair w w' bb xb (sayOf (fillM (markM S0) (ms.take j)) (s3Of (ms.getD j 0)).text).2 S0 → w'.cell? ⟨rb, ro + j, none⟩ = some (.int .i64 (ms.getD j 0))) := fun w' h => (h.upd.cell (p := ⟨rb, ro + j, none⟩) hrl (by simp)).trans hz
        have htk : ms.take (j + 1) = ms.take j ++ [ms.getD j 0] := by
          rw [List.take_succ_eq_append_getElem hgo.1, List.getD_eq_getElem?_getD, List.getElem?_eq_getElem hgo.1]
          rfl
        have hlj : (ms.take j).length = j := by simp; omega
        have hW := (Good.fill (ms.take j) (markM S0) k0 (markM S0).marks (HG0.out.mark _) (by omega)).1
        rw [hlj] at hW
        have HN : Hid (fillM (markM S0) (ms.take (j + 1)) = (sayOf (fillM (markM S0) (ms.take j)) (s3Of (ms.getD j 0)).text).2) := by show _ = _; rw [htk, fillM_snoc]
        obtain ⟨z7, e7⟩ : ∃ z7, (ms.getD j 0).tdiv 7 = z7 := ⟨_, rfl⟩
        have hz7 : Fits64 z7 := e7 ▸ tdiv_in hzf (by omega)
        have HSe := hide (fun w' : World => keepSentence_any (ms.getD j 0) w' hzf)
        have HSe7 := hide (fun w' : World => keepSentence_any z7 w' hz7)
        have HSay := hide (fun (w5 : World) (h : Pair w w5 bb xb (fillM (markM S0) (ms.take j)) S0) => pairSay h hW (by omega) (s3Of_ok (ms.getD j 0)))
        obtain ⟨f, hf⟩ := W3.follows (S := (sayOf (fillM (markM S0) (ms.take j)) (s3Of (ms.getD j 0)).text).2) (s3Of_ok z7)
        have HFo := hide (fun (w5 : World) (h : Pair w w5 bb xb (sayOf (fillM (markM S0) (ms.take j)) (s3Of (ms.getD j 0)).text).2 S0) => pairFollows h (s3Of_ok z7) hf)
        have hzI : -9223372036854775808 ≤ (ms.getD j 0) ∧ (ms.getD j 0) ≤ 9223372036854775807 := hzf
        have hz7I : -9223372036854775808 ≤ z7 ∧ z7 ≤ 9223372036854775807 := hz7
        generalize ms.getD j 0 = z at *
        generalize fillM (markM S0) (ms.take j) = S at *
        generalize (sayOf S (s3Of z).text).2 = S' at *
        generalize (s3Of z).text = t at *
        generalize (s3Of z7).text = t7 at *
        clear hz hzf hrl htk hW hlj hz7 hf
        go_wp2_with (first
          | (go_at_call_of 21 (Value.int .i64 z); refine (HSe.out _).mono ?_; rintro e w4 ⟨rfl, hu4⟩; have H4 := hide (HO.out.look hu4); clear hu4)
          | (go_at_call 14; refine (HSay.out _ H4.out).mono ?_; rintro e w5 ⟨rfl, h5⟩; have hz5 := Hkeep.out w5 h5; have H5 := hide h5; clear h5)
          | (go_at_call_of 21 (Value.int .i64 z7); refine (HSe7.out _).mono ?_; rintro e w6 ⟨rfl, hu6⟩; have H6 := hide (H5.out.look hu6); clear hu6)
          | (go_at_call 25; refine (HFo.out _ H6.out).mono ?_; rintro e w7 ⟨rfl, h7⟩; have H7 := hide h7; clear h7))
        refine ⟨⟨j + 1, by omega, by omega, by go_num, ?_⟩, by simp [intOf]; omega⟩
        rw [HN.out]
        exact H7.out
      · have htk : ms.take 12 = ms.take j := by
          by_cases h1 : j < ms.length
          · obtain rfl : j = 12 := by omega
            rfl
          · rw [List.take_of_length_le (by omega), List.take_of_length_le (by omega)]
        have HT : Hid (fillM (markM S0) (ms.take 12) = fillM (markM S0) (ms.take j)) := by show _ = _; rw [htk]
        clear htk
        by_cases h1 : j < ms.length
        · have hg1 : (j : Int) < (ms.length : Int) := by omega
          have hg2 : ¬ (j : Int) < 12 := by omega
          clear hgo
          go_wp2_with fail
          go_meet
          case rel => rw [HT.out]; exact HO.out
        · have hg1 : ¬ (j : Int) < (ms.length : Int) := by omega
          clear hgo
          go_wp2_with fail
          go_meet
          case rel => rw [HT.out]; exact HO.out
  case rest =>
    have HBk := hide (pairBack hcut HG0.out hk12 ((Good.fill (ms.take 12) (markM S0) k0 (markM S0).marks (HG0.out.mark _) (by simp; omega)).2 _ (Goes.refl _)))
    clear hcut H3
    go_upto_region 16 with (go_at_call 26; refine HBk.out.mono ?_; rintro e w4 ⟨rfl, h4⟩; have H4 := hide h4; clear h4)
    have HC : Hid (∀ t, t ≤ 4 → Good (againM S0 c t) (k0 + t) []) := fun t ht => HG0.out.again hk12 c t ht
    have HSe := hide (fun w' : World => keepSentence_any c w' hc)
    have hcI : -9223372036854775808 ≤ c ∧ c ≤ 9223372036854775807 := hc
    clear HBk
    go_wp2_with fail
    go_loopw [16] (fun i wr => ∃ t : Nat, t ≤ 2 ∧ i = .int .i64 t ∧ Hid (Pair w wr bb xb (againM S0 c t) (againM S0 c t))) (fun i _ => 2 - (intOf i).toNat)
    case atStart => exact ⟨0, by omega, rfl, H4.out⟩
    case round =>
      obtain ⟨t, ht, rfl, HO⟩ := hrel
      clear H4
      have hG := HC.out t (by omega)
      by_cases ht2 : t < 2
      · have ht2' : (t : Int) < 2 := by omega
        obtain ⟨f, hf⟩ := W3.follows (S := againM S0 c t) (s3Of_ok c)
        have HAb := hide (fun (w5 : World) (h : Pair w w5 bb xb (againM S0 c t) (againM S0 c t)) => pairAsk h (s3Of_ok c) hf)
        have HAx := hide (fun (w5 : World) (h : Pair w w5 bb xb (againM S0 c t) (againM S0 c t)) => pairAsk h.swap (s3Of_ok c) hf)
        have HCb := hide (fun (w5 : World) (h : Pair w w5 bb xb (againM S0 c t) (againM S0 c t)) => pairClash h)
        have HCx := hide (fun (w5 : World) (h : Pair w w5 bb xb (againM S0 c t) (againM S0 c t)) => pairClash h.swap)
        have HSb := hide (fun (w5 : World) (h : Pair w w5 bb xb (againM S0 c t) (againM S0 c t)) => pairSaid h hG)
        have HSx := hide (fun (w5 : World) (h : Pair w w5 bb xb (againM S0 c t) (againM S0 c t)) => pairSaid h.swap hG)
        have HLb := hide (fun (w5 : World) (h : Pair w w5 bb xb (againM S0 c t) (againM S0 c t)) => pairClasses h hG)
        have HLx := hide (fun (w5 : World) (h : Pair w w5 bb xb (againM S0 c t) (againM S0 c t)) => pairClasses h.swap hG)
        have HYb := hide (fun (w5 : World) (h : Pair w w5 bb xb (againM S0 c t) (againM S0 c t)) => pairSay h hG (by omega) (s3Of_ok c))
        have HYx := hide (fun (w5 : World) (h : Pair w w5 bb xb (sayOf (againM S0 c t) (s3Of c).text).2 (againM S0 c t)) => pairSay h.swap hG (by omega) (s3Of_ok c))
        have HN : Hid (againM S0 c (t + 1) = (sayOf (againM S0 c t) (s3Of c).text).2) := by show _ = _; rfl
        generalize againM S0 c t = S1 at *
        generalize (sayOf S1 (s3Of c).text).2 = S2 at *
        generalize (s3Of c).text = tx at *
        generalize clashM S1 = cl at *
        generalize (saidOf S1).length = sl at *
        clear hf hG
        go_upto_region 20 with (first
          | (go_at_call 21; refine (HSe.out _).mono ?_; rintro e w5 ⟨rfl, hu5⟩; have H5 := hide (HO.out.look hu5); clear hu5)
          | (go_at_call 16; refine (HAb.out _ H5.out).mono ?_; rintro e w6 ⟨rfl, h6⟩; have H6 := hide h6; clear h6))
        go_upto_region 21 with (first
          | (go_at_call 21; refine (HSe.out _).mono ?_; rintro e w7 ⟨rfl, hu7⟩; have H7 := hide (H6.out.look hu7); clear hu7)
          | (go_at_call 16; refine (HAx.out _ H7.out).mono ?_; rintro e w8 ⟨rfl, h8⟩; have H8 := hide h8.swap; clear h8))
        clear HAb HAx H5 H6 H7 HO
        go_upto_region 23 with (first
          | (go_at_call_of 17 (Value.pointer (some ⟨bb, 0, none⟩)); refine (HCb.out _ H8.out).mono ?_; rintro e w9 ⟨rfl, h9⟩; have H9 := hide h9; clear h9)
          | (go_at_call_of 17 (Value.pointer (some ⟨xb, 0, none⟩)); refine (HCx.out _ H9.out).mono ?_; rintro e w10 ⟨rfl, h10⟩; have H10 := hide h10.swap; clear h10)
          | (go_at_call_of 27 (Value.pointer (some ⟨bb, 0, none⟩)); refine (HSb.out _ H10.out).mono ?_; rintro e w11 ⟨g11, c11, rfl, h11⟩; have H11 := hide h11; clear h11)
          | (go_at_call_of 27 (Value.pointer (some ⟨xb, 0, none⟩)); refine (HSx.out _ H11.out).mono ?_; rintro e w12 ⟨g12, c12, rfl, h12⟩; have H12 := hide h12.swap; clear h12))
        clear HCb HCx HSb HSx H8 H9 H10 H11
        go_upto_region 24 with (go_at_call 28; refine (HLb.out _ H12.out).mono ?_; rintro e w13 ⟨g13, c13, rs13, rfl, h13, hu13, hl13⟩; have H13 := hide h13; have HL13 := hide hl13; clear h13 hu13 hl13)
        go_upto_region 25 with (go_at_call 28; refine (HLx.out _ H13.out).mono ?_; rintro e w14 ⟨g14, c14, rs14, rfl, h14, hu14, hl14⟩; have H14 := hide h14.swap; have HL14 := hide hl14; have HM13 := hide (HL13.out.later hu14 (fun k hk => by cases hk)); clear h14 hu14 hl14)
        clear HLb HLx H12 H13 HL13
        generalize classesOf S1 = ls at *
        go_wp2_with fail
        go_loopw [23] (fun i wr => ∃ q : Nat, q ≤ ls.length ∧ i = .int .i64 q ∧ Hid (Upd [] w14 wr)) (fun i _ => ls.length - (intOf i).toNat)
        case atStart => exact ⟨0, Nat.zero_le _, rfl, Upd.refl _ _⟩
        case round =>
          obtain ⟨i, hi, rfl, HU⟩ := hrel
          by_cases hil : i < ls.length
          · have hil' : (i : Int) < (ls.length : Int) := by omega
            obtain ⟨l, hl⟩ : ∃ l, ls[i]? = some l := ⟨_, List.getElem?_eq_getElem hil⟩
            obtain ⟨b13, rfl, hlsm⟩ := told_some HM13.out rfl hil
            obtain ⟨b14, rfl, _⟩ := told_some HL14.out rfl hil
            obtain ⟨x1, y1, k1, hlm, _⟩ := told_at HM13.out HU.out rfl hl
            obtain ⟨x2, y2, k2, _, _⟩ := told_at HL14.out HU.out rfl hl
            have HA1 := hide (fun (wr2 : World) (hu : Upd [] w14 wr2) => told_at HM13.out hu (i := i) rfl hl)
            have HA2 := hide (fun (wr2 : World) (hu : Upd [] w14 wr2) => told_at HL14.out hu (i := i) rfl hl)
            go_wp2_with fail
            go_quiet (fail)
            go_wp2_with fail
            have HU2 := hide (HU.out.drewN nq)
            clear k1 k2 HU
            go_loopw [24] (fun k wr2 => ∃ q : Nat, q ≤ l.length ∧ k = .int .i64 q ∧ Hid (Upd [] w14 wr2)) (fun k _ => l.length - (intOf k).toNat)
            case atStart => exact ⟨0, Nat.zero_le _, rfl, HU2.out⟩
            case round =>
              obtain ⟨q, hq, rfl, HV⟩ := hrel
              clear HU2
              obtain ⟨x1, y1, k1, _, a1⟩ := HA1.out _ HV.out
              obtain ⟨x2, y2, k2, _, a2⟩ := HA2.out _ HV.out
              by_cases hql : q < l.length
              · have hql' : (q : Int) < (l.length : Int) := by omega
                obtain ⟨tt, htt⟩ : ∃ tt, l[q]? = some tt := ⟨_, List.getElem?_eq_getElem hql⟩
                obtain ⟨d1, rfl, e1⟩ := a1 q tt htt
                obtain ⟨d2, rfl, e2⟩ := a2 q tt htt
                clear a1 a2 htt hl
                go_wp2_with fail
                go_quiet (fail)
                go_wp2_with fail
                exact ⟨⟨q + 1, by omega, by go_num, HV.out.drewN _⟩, by simp [intOf]; omega⟩
              · obtain rfl : q = l.length := by omega
                have hge : ¬ ((l.length : Nat) : Int) < (l.length : Int) := by omega
                clear a1 a2 hl
                go_wp2_with fail
                exact ⟨⟨i + 1, by omega, by go_num, HV.out⟩, by simp [intOf]; omega⟩
          · obtain rfl : i = ls.length := by omega
            have hge : ¬ ((ls.length : Nat) : Int) < (ls.length : Int) := by omega
            have H15 := hide (H14.out.look HU.out)
            clear HU HL14 HM13 H14
            go_upto_region 38 with (first
              | (go_at_call 21; refine (HSe.out _).mono ?_; rintro e w16 ⟨rfl, hu16⟩; have H16 := hide (H15.out.look hu16); clear hu16)
              | (go_at_call 14; refine (HYb.out _ H16.out).mono ?_; rintro e w17 ⟨rfl, h17⟩; have H17 := hide h17; clear h17))
            go_wp2_with (first
              | (go_at_call 21; refine (HSe.out _).mono ?_; rintro e w18 ⟨rfl, hu18⟩; have H18 := hide (H17.out.look hu18); clear hu18)
              | (go_at_call 14; refine (HYx.out _ H18.out).mono ?_; rintro e w19 ⟨rfl, h19⟩; have H19 := hide h19.swap; clear h19))
            refine ⟨⟨t + 1, by omega, by go_num, ?_⟩, by simp [intOf]; omega⟩
            have h := H19.out
            rw [← HN.out] at h
            exact h
      · obtain rfl : t = 2 := by omega
        have hge : ¬ (2 : Int) < 2 := by omega
        have HBn := hide (pairBackNone HO.out hG.marks)
        have Hu := hide HO.out.upd
        clear hG HO
        go_wp2_with (go_at_call 26; refine HBn.out.mono ?_; rintro e w5 ⟨rfl, hw5⟩; rw [hw5]; clear hw5 w5)
        go_ret
        exact ⟨rfl, Hu.out⟩
end Go.Proofs.YtmfkpllnmmfpiaaDoor
