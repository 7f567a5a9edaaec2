/- RefWhyWalk, WebSents, RangeLaw, Backward -/
import Derived.Test.YtmfkpllnmmfpiaaGreatDoorRefWhyH
import Derived.Test.YtmfkpllnmmfpiaaGreatDoorTellH
import Derived.Test.YtmfkpllnmmfpiaaGreatDoorSaidH
import Derived.RangeFuncNested
import Derived.RangeFuncBound
import Derived.RangeFuncCalls
import Derived.RangeFuncLeaves
import Derived.Test.YtmfkpllnmmfpiaaGreatDoorWebHeapH
import Derived.Test.YtmfkpllnmmfpiaaGreatDoorReadSizeH
import Derived.Shelf.Abstract
import Derived.Shelf.RegionOpen
import Derived.OwnWalkIn
import Derived.TacticsInMore
import Derived.LoopNIn
import Derived.LoopIn
namespace Go.Proofs.YtmfkpllnmmfpiaaGreatDoor
open Go.RowKit
theorem info_boolL : (Tryz.prog.info? 4).map (fun i => (i.zero, i.size, i.bytes)) = some (some (.bool false), 1, 1) := by kernel_rfl
set_option maxHeartbeats 8000000 in
set_option maxRecDepth 100000 in
theorem refWhy_any (s : ByteArray) (w : World) (rb : Nat) (Z : Nat → Prop) (L : List ST) (M : List Nat) (h : RBAt w rb Z L M) (hok : ∀ x ∈ L, STOK x) (hsm : SmallL L) (hL : L.length ≤ 40) :
  Calls Tryz.prog 70 #[.pointer (some ⟨rb, 0, none⟩), .string s] w fun e w' => ∃ v, e = .returned (.tuple #[v, .int .i64 (whyRB L s).2.1, .int .i64 (whyRB L s).2.2]) ∧ Upd [] w w' ∧ w'.ownsRow w.heap.size 3 1 v (whyRB L s).1.length (intsOf (whyRB L s).1) := by
 have HRd := hide (refRead_any s w)
 obtain ⟨i0, hi, hz0, hz1, hz2⟩ := info_parts info_refSentP
 obtain ⟨j0, hj0, hy0, hy1, hy2⟩ := info_parts info_int
 cases hr : (refRead s).1 with
 | none =>
  obtain ⟨k, p, hkp⟩ : ∃ k p, refRead s = (none, k, p) := ⟨(refRead s).2.1, (refRead s).2.2, by rw [← hr]⟩
  have HF : Hid (whyRB L s = ([], k, p)) := by show _ = _; unfold whyRB; rw [hkp]
  have hne : (k != 0) = true := by have := refRead_err hr; rw [hkp] at this; exact this
  unfold RefReadDone at HRd
  rw [hkp] at HRd
  clear h hr hkp
  go_enter Tryz.func70, Tryz.ntmps70
  go_wp2_with (go_at_call 75; refine HRd.out.mono ?_; rintro e w2 ⟨hu2, rfl⟩; have Hu2 := hide hu2; clear hu2)
  go_ret3
  exact ⟨.slice none 0 0, by rw [HF.out]; rfl, Hu2.out, by rw [HF.out]; exact ⟨rfl, .inl ⟨rfl, rfl⟩⟩⟩
 | some x =>
  have hkp := refRead_fine hr
  obtain ⟨hox, hsx⟩ := refRead_small hr
  unfold RefReadDone at HRd
  rw [hkp] at HRd
  obtain ⟨sv, cs, c0, hrow⟩ := h.said
  have hlt := h.lt
  have HFo := hide (fun (w2 : World) (v : Value) (L' : List ST) (cs' : List Nat) (yb : Nat) (hr' : RSRow w2 (fun k => k < w2.heap.size) v L' cs') (hy : IsRS w2 (fun k => k < w2.heap.size) x yb) (hm : ∀ y ∈ L', y ∈ L) (hl : L'.length ≤ 99) => refFollows_any w2 L' v cs' x yb hr' hy (fun y hy => hok y (hm y hy)) hox (fun y hy => by have := hsm y (hm y hy); omega) (by omega) hl)
  cases hf : clashR (L ++ [contraT x]) with
  | false =>
   have HF : Hid (whyRB L s = ([], 5, 0)) := by show _ = _; unfold whyRB; rw [hkp]; simp only [hf]; rfl
   have HC := hide (fun (w2 : World) (yb : Nat) (hu : Upd [] w w2) (hy : IsRS w2 (fun k => w.heap.size ≤ k ∧ k < w2.heap.size) x yb) => HFo.out w2 sv L cs yb ((hrow.later hu (fun _ _ => by simp)).mono fun k _ hl => hl) (hy.mono fun k _ hl => hl) (fun y hy => hy) (by omega))
   rw [hf] at HC
   clear h hr hkp hrow HFo hf
   go_enter Tryz.func70, Tryz.ntmps70
   go_wp2_with (first
    | (go_at_call 75; refine HRd.out.mono ?_; rintro e w2 ⟨hu2, yb, rfl, hy⟩; have c2 := (hu2.cell (p := ⟨rb, 0, none⟩) hlt (by simp)).trans c0; have HC2 := hide (HC.out w2 yb hu2 hy); have Hu2 := hide hu2; clear hu2 hy)
    | (go_at_call 104; refine HC2.out.mono ?_; rintro e w3 ⟨rfl, hu3⟩; have Hu3 := hide hu3; clear hu3))
   go_ret3
   exact ⟨.slice none 0 0, by rw [HF.out]; rfl, Hu2.out.trans Hu3.out, by rw [HF.out]; exact ⟨rfl, .inl ⟨rfl, rfl⟩⟩⟩
  | true =>
   have HF : Hid (whyRB L s = (whyDoc L (contraT x), 0, 0)) := by show _ = _; unfold whyRB; rw [hkp]; simp only [hf]; rfl
   have HC := hide (fun (w2 : World) (yb : Nat) (hu : Upd [] w w2) (hy : IsRS w2 (fun k => w.heap.size ≤ k ∧ k < w2.heap.size) x yb) => HFo.out w2 sv L cs yb ((hrow.later hu (fun _ _ => by simp)).mono fun k _ hl => hl) (hy.mono fun k _ hl => hl) (fun y hy => hy) (by omega))
   rw [hf] at HC
   have Hrow := hide hrow
   obtain ⟨a, cap, hv, hc1, hc2, hform⟩ := hrow.row.form
   subst hv
   obtain ⟨n, hn⟩ : ∃ n, cs.length = n := ⟨_, rfl⟩
   have hnL : L.length = n := by rw [← hn, hrow.len]
   rw [hn] at hc1 hform c0 HC
   rw [hnL] at hL
   have Hform := hide hform
   have Hn := hide hn
   have HnL := hide hnL
   have HC0 := hide c0
   unfold maxLen at hc2
   clear h hr hkp hrow hf hform hn hnL
   go_enter Tryz.func70, Tryz.ntmps70
   go_upto_region 7 with (first
    | (go_at_call 75; refine HRd.out.mono ?_; rintro e w2 ⟨hu2, yb, rfl, hy⟩; have c2 := (hu2.cell (p := ⟨rb, 0, none⟩) hlt (by simp)).trans HC0.out; have HC2 := hide (HC.out w2 yb hu2 hy); have Hu2 := hide hu2; have Hy := hide hy; clear hu2 hy)
    | (go_at_call 104; refine HC2.out.mono ?_; rintro e w3 ⟨rfl, hu3⟩; have Hu3 := hide hu3; clear hu3))
   have hUw3 := Hu2.out.trans Hu3.out
   have c3 := (hUw3.cell (p := ⟨rb, 0, none⟩) hlt (by simp)).trans HC0.out
   have hrow3 : RSRow w3 (fun k => k < w3.heap.size) (.slice a n cap) L cs := by
    have := (Hrow.out.later hUw3 (fun _ _ => by simp)).mono (Z' := fun k => k < w3.heap.size) fun k _ hl => hl
    rw [Hn.out] at this
    exact this
   have hy3 : IsRS w3 (fun k => k < w3.heap.size) x yb := (Hy.out.later Hu3.out (fun _ _ => by simp)).mono fun k _ hl => hl
   have HR3 := hide hrow3
   have HY3 := hide hy3
   have HU3 := hide hUw3
   have hrl3 : rb < w3.heap.size := Nat.lt_of_lt_of_le hlt hUw3.size
   have Hc3 := hide c3
   clear c2 hrow3 hy3 hUw3 HC2 Hu2 Hu3 Hy HC HRd c0
   have hK0 : Keeps w3 (w3.alloc (.cells (madeCells #[.bool false] n) 4)) w3.heap.size n (List.replicate n false) := ⟨falses_own w3 _ n (Nat.le_refl _) (by unfold maxLen; omega), by simp, (Upd.refl [] w3).alloc _⟩
   have HK0 := hide hK0
   have hmk := run_make_row' (P := Tryz.prog) 176 4 (.bool false) 1 Tryz.underlying176 info_boolL rfl .i64 .i64 n (by omega) (by omega) w3
   clear hK0
   go_wp2
   clear hmk
   go_loopw [12] (fun i wr => ∃ j : Nat, j ≤ n ∧ i = .int .i64 j ∧ Hid (Keeps w3 wr w3.heap.size n (List.replicate j true ++ List.replicate (n - j) false))) (fun i _ => n - (intOf i).toNat)
   case atStart => exact ⟨0, Nat.zero_le _, rfl, HK0.out⟩
   case round =>
    obtain ⟨j, hj, rfl, HJ⟩ := hrel
    clear HK0
    by_cases hjn : j < n
    ·have hjI : (j : Int) < (n : Int) := by omega
     have q0 := HJ.out.at hjn
     have qf := HJ.out.free
     have HN : Hid ((List.replicate j true ++ List.replicate (n - j) false).set j true = List.replicate (j + 1) true ++ List.replicate (n - (j + 1)) false) := true_set n j hjn
     go_wp2
     refine ⟨⟨j + 1, by omega, by simp, by rw [← HN.out]; exact HJ.out.set j true⟩, ?_⟩
     simp [intOf]
     omega
    ·have hjI : ¬ (j : Int) < (n : Int) := by omega
     have hK1 : Keeps w3 wr w3.heap.size n (keepTo L (contraT x) 0) := by
      have hk := HJ.out
      obtain rfl : j = n := by omega
      rw [Nat.sub_self, List.replicate_zero, List.append_nil] at hk
      unfold keepTo
      rw [HnL.out]
      exact hk
     have HK1 := hide hK1
     clear hK1 HJ
     go_wp2
     go_loopw [13] (fun i wr => ∃ d : Nat, d ≤ n ∧ i = .int .i64 ((n : Int) - 1 - (d : Int)) ∧ Hid (Keeps w3 wr w3.heap.size n (keepTo L (contraT x) d))) (fun i _ => (intOf i + 1).toNat)
     case atStart => exact ⟨0, Nat.zero_le _, by simp, HK1.out⟩
     case round =>
      clear HK1
      obtain ⟨w4, hw4⟩ : ∃ w4, w4 = wr := ⟨_, rfl⟩
      rw [← hw4] at hrel ⊢
      clear hw4
      obtain ⟨d, hd, rfl, HD⟩ := hrel
      by_cases hdn : d < n
      ·obtain ⟨ii, hii⟩ : ∃ ii : Nat, ii + d + 1 = n := ⟨n - d - 1, by omega⟩
       have eii : (n : Int) - 1 - (d : Int) = (ii : Int) := by omega
       rw [eii]
       have hge : (0 : Int) ≤ (ii : Int) := by omega
       have hiI : (ii : Int) < (n : Int) := by omega
       have q0 := HD.out.at (i := ii) (by omega)
       have qf := HD.out.free
       obtain ⟨K, hK⟩ : ∃ K, (keepTo L (contraT x) d).set ii false = K := ⟨_, rfl⟩
       have hKs := HD.out.set ii false
       rw [hK] at hKs
       have HNx : Hid (keepTo L (contraT x) (d + 1) = K.set ii (!clashR (pickTo K L n ++ [contraT x]))) := by
        show _ = _
        have e : L.length - 1 - d = ii := by rw [HnL.out]; omega
        conv => lhs; unfold keepTo
        rw [e, hK, HnL.out]
       go_upto_region 16 with fail
       obtain ⟨w5, hw5⟩ : ∃ w5, w5 = w4.setCell ⟨w3.heap.size, ii, none⟩ (.bool false) := ⟨_, rfl⟩
       rw [← hw5] at hKs
       rw [← hw5]
       have HKs := hide hKs
       have HR5 := hide (HR3.out.later hKs.upd (fun _ _ => by simp))
       have HY5 := hide (HY3.out.later hKs.upd (fun _ _ => by simp))
       have hs5 := hKs.upd.size
       clear hw5 hKs q0 qf HD hK
       go_wp2
       go_loopw [14, 15] (fun lv k wr => ∃ (q : Nat) (cs' : List Nat), q ≤ n ∧ k = .int .i64 q ∧ Hid (Picked w5 wr lv L K q cs')) (fun _ k _ => n - (intOf k).toNat)
       case atStart => exact ⟨0, [], Nat.zero_le _, rfl, ⟨rfl, .inl ⟨rfl, rfl⟩⟩, rfl, fun i c y hc => by simp at hc, Upd.refl _ _⟩
       case round =>
        obtain ⟨w6, hw6⟩ : ∃ w6, w6 = wr := ⟨_, rfl⟩
        rw [← hw6] at hrel ⊢
        clear hw6
        obtain ⟨q, cs', hq, rfl, HQ⟩ := hrel
        have hpl := pickTo_len K L q
        have hcl : cs'.length ≤ q := by rw [HQ.out.len]; exact hpl
        by_cases hqn : q < n
        ·have hqI : (q : Int) < (n : Int) := by omega
         have z0 := (HQ.out.upd.cell (p := ⟨w3.heap.size, q, none⟩) (ownsRow_lt HKs.out.row rfl) (by simp)).trans (HKs.out.at hqn)
         cases hkq : K.getD q false with
         | false =>
          rw [hkq] at z0
          have HN := hide (HQ.out.skip hkq)
          clear hkq hpl HQ
          go_wp2
          refine ⟨⟨q + 1, cs', by omega, by simp, HN.out⟩, ?_⟩
          simp [intOf]
          omega
         | true =>
          rw [hkq] at z0
          obtain ⟨y, hy⟩ : ∃ y, L[q]? = some y := ⟨_, List.getElem?_eq_getElem (by rw [HnL.out]; exact hqn)⟩
          obtain ⟨c, hc⟩ : ∃ c, cs[q]? = some c := ⟨_, List.getElem?_eq_getElem (by rw [Hn.out]; exact hqn)⟩
          obtain ⟨g, rfl, hg1, _, hg3⟩ := Hform.out (by omega)
          have hU6 := (HU3.out.trans HKs.out.upd).trans HQ.out.upd
          have z1 := (hU6.cell (p := ⟨rb, 0, none⟩) hlt (by simp)).trans HC0.out
          have z2 := (hU6.cell (p := ⟨g, q, none⟩) hg1 (by simp)).trans (hg3 q c hc)
          have hyc : IsRS w5 (fun k => k < w5.heap.size) y c := (HR5.out.kids q c y hc hy).mono fun k _ hl => hl
          have hrw := ((Upd.refl [] w6).alloc (.cells #[.pointer (some ⟨c, 0, none⟩)] 117)).ownsRow HQ.out.row (fun _ _ => by simp)
          obtain ⟨m, hm⟩ : ∃ m, cs'.length = m := ⟨_, rfl⟩
          have Hfin : Hid (∀ g1 cp w7, (w6.alloc (.cells #[.pointer (some ⟨c, 0, none⟩)] 117)).grownBy w7 u14.ownBlock → w7.ownsRow w5.heap.size 117 1 (.slice (some ⟨g1, 0, none⟩) (m + 1) cp) (m + 1) (ptrs cs' ++ [.pointer (some ⟨c, 0, none⟩)]) → Picked w5 w7 (.slice (some ⟨g1, 0, none⟩) (m + 1) cp) L K (q + 1) (cs' ++ [c])) := fun g1 cp w7 hg7 ho7 => by
           have := HQ.out.take hkq hy hyc ((Upd.refl [] w6).alloc _) hg7 (by rw [hm]; exact ho7)
           rw [hm] at this
           exact this
          rw [hm] at hrw
          have Hrw := hide hrw
          have Hnews : Hid (∀ j u, [Value.pointer (some ⟨c, 0, none⟩)][j]? = some u → (w6.alloc (.cells #[.pointer (some ⟨c, 0, none⟩)] 117)).cell? ((⟨w6.heap.size, 0, none⟩ : Addr).add j) = some u) := World.news_of_block (heap_alloc_new _ _)
          have hone : Hid (∀ u ∈ [Value.pointer (some ⟨c, 0, none⟩)], u.oneCell' = true) := (fun u hu' => by simp at hu'; subst hu'; rfl)
          have hlm : m + 1 ≤ maxLen := by unfold maxLen; omega
          have hlb : (m + 1) * 8 ≤ 140737488355328 := by omega
          have hb6 := HQ.out.upd.size
          clear hkq hpl hy hc hg3 hg1 hU6 hyc hrw hm HQ
          go_wp2_with (at_builtin; go_must (refine wpList_append_lies _ rfl _ _ 92 rfl w5.heap.size 117 i0 (.pointer none) 1 8 Tryz.underlying92 hi hz0 hz1 hz2 rfl (by decide) _ _ _ rfl Hrw.out ⟨w6.heap.size, 0, none⟩ 1 1 [.pointer (some ⟨c, 0, none⟩)] rfl rfl Hnews.out hone.out (by decide) hlm hlb (by simp; omega) _ rfl ?_); intro g7 cap7 w7 hown7 hgrow7 hat7 hlt7)
          refine ⟨⟨q + 1, cs' ++ [c], by omega, by simp, Hfin.out g7 cap7 w7 hgrow7 hown7⟩, ?_⟩
          simp [intOf]
          omega
        ·have hqI : ¬ (q : Int) < (n : Int) := by omega
         have hqe : q = n := by omega
         rw [hqe] at HQ hpl
         have hK6 := HKs.out.later HQ.out.upd
         have HCf := hide (HFo.out w6 u14 (pickTo K L n) cs' yb HQ.out.rs ((HY5.out.later HQ.out.upd (fun _ _ => by simp)).mono fun k _ hl => hl) (fun y hy => by obtain ⟨j, _, _, e⟩ := pickTo_mem.1 hy; exact List.mem_of_getElem? e) (by omega))
         obtain ⟨fb, hfb⟩ : ∃ fb, clashR (pickTo K L n ++ [contraT x]) = fb := ⟨_, rfl⟩
         rw [hfb] at HCf HNx
         have HK6 := hide hK6
         clear hqe hK6 hpl hfb HQ
         go_wp2_with (go_at_call 104; refine HCf.out.mono ?_; rintro e w7 ⟨rfl, hu7⟩; have HK7 := hide (HK6.out.later hu7); have r0 := HK7.out.at (i := ii) (by omega); have rf := HK7.out.free; clear hu7)
         refine ⟨⟨d + 1, by omega, by simp; omega, by rw [HNx.out]; exact HK7.out.set ii (!fb)⟩, ?_⟩
         simp [intOf]
      ·have hneg : ¬ (0 : Int) ≤ (n : Int) - 1 - (d : Int) := by omega
       have hde : d = n := by omega
       obtain ⟨K, hK⟩ : ∃ K, keepTo L (contraT x) n = K := ⟨_, rfl⟩
       rw [hde, hK] at HD
       have HW : Hid (whyDoc L (contraT x) = numsTo K n) := by show _ = _; unfold whyDoc numsTo; rw [HnL.out, hK]
       have hs4 := HD.out.upd.size
       clear hde hK hdn
       go_wp2
       go_loopw [16, 17] (fun ov k wr => ∃ q : Nat, q ≤ n ∧ k = .int .i64 q ∧ Hid (Upd [] w4 wr ∧ wr.ownsRow w4.heap.size 3 1 ov (numsTo K q).length (intsOf (numsTo K q)))) (fun _ k _ => n - (intOf k).toNat)
       case atStart => exact ⟨0, Nat.zero_le _, rfl, Upd.refl _ _, ⟨rfl, .inl ⟨rfl, rfl⟩⟩⟩
       case round =>
        obtain ⟨w6, hw6⟩ : ∃ w6, w6 = wr := ⟨_, rfl⟩
        rw [← hw6] at hrel ⊢
        clear hw6
        obtain ⟨q, hq, rfl, HQ⟩ := hrel
        obtain ⟨hU6, hO6⟩ := HQ.out
        have hnl := numsTo_len K q
        by_cases hqn : q < n
        ·have hqI : (q : Int) < (n : Int) := by omega
         have z0 := (hU6.cell (p := ⟨w3.heap.size, q, none⟩) (ownsRow_lt HD.out.row rfl) (by simp)).trans (HD.out.at hqn)
         have hsu := numsTo_succ K q
         cases hkq : K.getD q false with
         | false =>
          rw [hkq] at z0 hsu
          simp only [Bool.false_eq_true, if_false, List.append_nil] at hsu
          have HN : Hid (Upd [] w4 w6 ∧ w6.ownsRow w4.heap.size 3 1 u16 (numsTo K (q + 1)).length (intsOf (numsTo K (q + 1)))) := by show _ ∧ _; rw [hsu]; exact ⟨hU6, hO6⟩
          clear hkq hsu hU6 hO6 hnl HQ
          go_wp2
          refine ⟨⟨q + 1, by omega, by simp, HN.out⟩, ?_⟩
          simp [intOf]
          omega
         | true =>
          rw [hkq] at z0 hsu
          simp only [if_true] at hsu
          have hrw := ((Upd.refl [] w6).alloc (.cells #[.int .i64 q] 3)).ownsRow hO6 (fun _ _ => by simp)
          obtain ⟨m, hm⟩ : ∃ m, (numsTo K q).length = m := ⟨_, rfl⟩
          have Hfin : Hid (∀ g1 cp w7, (w6.alloc (.cells #[.int .i64 q] 3)).grownBy w7 u16.ownBlock → w7.ownsRow w4.heap.size 3 1 (.slice (some ⟨g1, 0, none⟩) (m + 1) cp) (m + 1) (intsOf (numsTo K q) ++ [.int .i64 q]) → Upd [] w4 w7 ∧ w7.ownsRow w4.heap.size 3 1 (.slice (some ⟨g1, 0, none⟩) (m + 1) cp) (numsTo K (q + 1)).length (intsOf (numsTo K (q + 1)))) := fun g1 cp w7 hg7 ho7 => by
           refine ⟨(hU6.alloc _).trans' (Upd.of_grown hg7) (fun k hk hl => ?_), ?_⟩
           ·have := own_geT hO6 (show u16.ownBlock = some k by simpa using hk)
            omega
           ·rw [hsu, List.length_append, hm]
            simpa [intsOf] using ho7
          rw [hm] at hrw
          have Hrw := hide hrw
          have Hnews : Hid (∀ j u, [Value.int .i64 q][j]? = some u → (w6.alloc (.cells #[.int .i64 q] 3)).cell? ((⟨w6.heap.size, 0, none⟩ : Addr).add j) = some u) := World.news_of_block (heap_alloc_new _ _)
          have hone : Hid (∀ u ∈ [Value.int .i64 q], u.oneCell' = true) := (fun u hu' => by simp at hu'; subst hu'; rfl)
          have hlm : m + 1 ≤ maxLen := by unfold maxLen; omega
          have hlb : (m + 1) * 8 ≤ 140737488355328 := by omega
          have hb6 := hU6.size
          clear hkq hsu hU6 hO6 hnl hrw hm HQ
          go_wp2_with (at_builtin; go_must (refine wpList_append_lies _ rfl _ _ 44 rfl w4.heap.size 3 j0 (.int .i64 0) 1 8 Tryz.underlying44 hj0 hy0 hy1 hy2 rfl (by decide) _ _ _ rfl Hrw.out ⟨w6.heap.size, 0, none⟩ 1 1 [.int .i64 q] rfl rfl Hnews.out hone.out (by decide) hlm hlb (by simp; omega) _ rfl ?_); intro g7 cap7 w7 hown7 hgrow7 hat7 hlt7)
          refine ⟨⟨q + 1, by omega, by simp, Hfin.out g7 cap7 w7 hgrow7 hown7⟩, ?_⟩
          simp [intOf]
          omega
        ·have hqI : ¬ (q : Int) < (n : Int) := by omega
         have hqe : q = n := by omega
         rw [hqe] at hO6
         have HU6 := hide hU6
         have HO6 := hide hO6
         clear hqe hU6 hO6 hnl HQ
         go_wp2
         go_ret3
         have hU := (HU3.out.trans HD.out.upd).trans HU6.out
         have h03 := HU3.out.size
         refine ⟨_, by rw [HF.out]; rfl, hU, ?_⟩
         rw [HF.out]
         show w6.ownsRow _ _ _ _ _ _
         rw [HW.out]
         exact ownsRow_base HO6.out fun k hk => by have := own_geT HO6.out hk; omega
end Go.Proofs.YtmfkpllnmmfpiaaGreatDoor

namespace Go.Proofs.YtmfkpllnmmfpiaaGreatDoor
open Go.RowKit
theorem info_readSent : (Tryz.prog.info? 101).map (fun i => (i.zero, i.size, i.bytes)) = some (some (.agg #[.string ⟨#[]⟩, .int .i64 0, .slice none 0 0, .int .i64 0, .string ⟨#[]⟩, .int .i64 0, .slice none 0 0]), 7, 104) := by kernel_rfl
theorem flat7_append (a b : List V7) : flat7 (a ++ b) = flat7 a ++ flat7 b := by
 induction a with
 | nil => rfl
 | cons c a ih => simp [flat7, ih]
structure Senting (w wr : World) (wb : Nat) (H : Hd) (Z : Nat → Prop) (S : WS) (v : Value) (j : Nat) : Prop where
 web : WebAt wr wb H Z S
 row : ∃ cs : List V7, wr.ownsRow w.heap.size 101 7 v j (flat7 cs) ∧ AllIs (IsX wr (fun k => w.heap.size ≤ k ∧ v.ownBlock ≠ some k)) cs ((sentsX S).take j)
 upd : Upd [] w wr
theorem Senting.next {w wr w2 w3 : World} {wb j g' cap : Nat} {H : Hd} {Z : Nat → Prop} {S : WS} {v : Value} {cs : List V7} {c : V7} {x : SntX} {X : Obj} (h : Senting w wr wb H Z S v j) (hZ : ∀ k, Z k → k < w.heap.size) (hx : (sentsX S)[j]? = some x)
  (hrow : wr.ownsRow w.heap.size 101 7 v j (flat7 cs)) (hall : AllIs (IsX wr (fun k => w.heap.size ≤ k ∧ v.ownBlock ≠ some k)) cs ((sentsX S).take j))
  (hu2 : Upd [] wr w2) (hc : IsX w2 (fun k => wr.heap.size ≤ k) c x)
  (hown : w3.ownsRow w.heap.size 101 7 (.slice (some ⟨g', 0, none⟩) (j + 1) cap) (j + 1) (flat7 cs ++ v7 c)) (hgrow : (w2.alloc X).grownBy w3 v.ownBlock) (hat : v.ownBlock = some g' ∨ g' = (w2.alloc X).heap.size) :
  Senting w w3 wb H Z S (.slice (some ⟨g', 0, none⟩) (j + 1) cap) (j + 1) := by
 have hge : ∀ q, v.ownBlock = some q → w.heap.size ≤ q ∧ q < wr.heap.size := fun q hq => ⟨own_ge hrow hq, ownsRow_lt hrow hq⟩
 have U1 : Upd v.ownBlock.toList w2 w3 := ((Upd.refl v.ownBlock.toList w2).alloc X).trans (Upd.of_grown hgrow)
 have U : Upd v.ownBlock.toList wr w3 := (hu2.mono (fun x hx _ => by cases hx)).trans U1
 have hz2 := hu2.size
 refine ⟨h.web.later U (fun k hk hm => ?_), ⟨cs ++ [c], ?_, ?_⟩, h.upd.trans' U (fun k hk hl => ?_)⟩
 ·have := (hge k (by simpa using hm)).1
  have := hZ k hk
  omega
 ·rw [flat7_append]
  simpa [flat7] using hown
 ·have hlt := (List.getElem?_eq_some_iff.1 hx).1
  rw [List.getElem?_eq_getElem hlt] at hx
  rw [List.take_succ_eq_append_getElem hlt, Option.some.inj hx]
  have hfr : ∀ q, (w.heap.size ≤ q ∧ v.ownBlock ≠ some q) ∧ q < wr.heap.size → w.heap.size ≤ q ∧ (Value.slice (some ⟨g', 0, none⟩) (j + 1) cap).ownBlock ≠ some q := fun q hq => ⟨hq.1.1, fun e => by
   simp only [own_slice, Option.some.injEq] at e
   subst e
   rcases hat with hat | hat
   ·exact hq.1.2 hat
   ·simp at hat; omega⟩
  refine AllIs.snoc ?_ ?_
  ·have h1 : IsX w2 (fun k => wr.heap.size ≤ k ∧ k < w2.heap.size) c x := hc.mono fun q hq hl => ⟨hq, hl⟩
   have h2 := h1.later U1 (fun q hq hm => by have := hge q (by simpa using hm); omega)
   have hs := h.upd.size
   refine h2.mono (fun q hq _ => ⟨by omega, fun e => ?_⟩)
   simp only [own_slice, Option.some.injEq] at e
   subst e
   rcases hat with hat | hat
   ·have := hge _ hat; omega
   ·simp at hat; omega
  ·refine hall.mono fun a b hab => ?_
   have h1 : IsX wr (fun k => (w.heap.size ≤ k ∧ v.ownBlock ≠ some k) ∧ k < wr.heap.size) a b := hab.mono fun q hq hl => ⟨hq, hl⟩
   have h2 := h1.later U (fun q hq hm => hq.1.2 (by simpa using hm))
   exact h2.mono (fun q hq _ => hfr q hq)
 ·have := (hge k (by simpa using hk)).1
  omega
set_option maxHeartbeats 4000000 in
set_option maxRecDepth 100000 in
theorem webSents_any (w : World) (wb : Nat) (H : Hd) (Z : Nat → Prop) (S : WS) (h : WebAt w wb H Z S) (hB : Base S) (hZ : ∀ k, Z k → k < w.heap.size) (hsd : S.said.length ≤ 1000) (htag : ∀ x ∈ S.said, x.1 ≤ 1) :
  Calls Tryz.prog 99 #[.pointer (some ⟨wb, 0, none⟩)] w fun e w' => ∃ v cs, e = .returned v ∧ Upd [] w w' ∧ w'.ownsRow w.heap.size 101 7 v (sentsX S).length (flat7 cs) ∧ AllIs (IsX w' (fun k => w.heap.size ≤ k ∧ v.ownBlock ≠ some k)) cs (sentsX S) := by
 obtain ⟨i1, hi1, hy0, hy1, hy2⟩ := info_parts info_readSent
 obtain ⟨w1, hmk, hown1, hgr1⟩ := run_make_own (P := Tryz.prog) w w.heap.size 163 101 i1 _ 7 Tryz.underlying163 hi1 hy0 hy1 .i64 .i64 S.said.length (by rw [hy2]; omega) (by unfold maxLen; omega) (Nat.le_refl _)
 have U1 : Upd [] w w1 := Upd.of_grown hgr1
 obtain ⟨g0, cap0, hv0⟩ := slice_len h.rd
 have c5 := h.c5
 rw [hv0] at c5
 have c5' := (U1.cell (p := ⟨wb, 6, none⟩) h.lt (by simp)).trans c5
 have hstart : Senting w w1 wb H Z S (.slice (some ⟨w.heap.size, 0, none⟩) 0 S.said.length) 0 := ⟨h.later U1 (fun _ _ => by simp), ⟨[], hown1, trivial⟩, U1⟩
 have HZ := hide hZ
 have HP := hide (fun (W : World) (hu : Upd [] w W) (i : Nat) (hi : i < S.shapes.length) => webTerm_ok S wb H Z hB S.shapes.length i (by omega) hi W (h.later hu (fun _ _ => by simp)) W (Upd.refl [] W))
 have Hlt := hide hB.saidLt
 have hcl := hB.inv.len
 have Hcl := hide hcl
 have Htag := hide htag
 have Hrd := hide h.rd
 have Hv0 := hide hv0
 have hlt := h.lt
 have HlT : Hid ((sentsX S).length = S.said.length) := by show _ = _; simp [sentsX]
 have Hg0 : Hid (0 < S.said.length → ∃ b, g0 = some ⟨b, 0, none⟩ ∧ b < w.heap.size ∧ S.said.length ≤ cap0 ∧ cap0 ≤ maxLen) := fun hp => by
  rcases ownsRow_slice h.rd with ⟨_, h2⟩ | ⟨g', cap', h1, h2, h3⟩
  ·omega
  ·have hl := ownsRow_lt h.rd (k := g') (by rw [h1]; rfl)
   rw [hv0] at h1
   cases h1
   exact ⟨g', rfl, hl, h2, h3⟩
 clear h hB hown1 hgr1 hv0 hZ hcl htag
 go_enter Tryz.func99, Tryz.ntmps99
 go_wp2
 go_loopw [3, 17] (fun v i wr => ∃ j : Nat, j ≤ S.said.length ∧ i = .int .i64 j ∧ Hid (Senting w wr wb H Z S v j)) (fun _ i _ => S.said.length - (intOf i).toNat)
 case atStart => exact ⟨0, Nat.zero_le _, rfl, hstart⟩
 case round =>
  obtain ⟨j, hj, rfl, HT⟩ := hrel
  clear hstart hmk c5 c5' U1
  by_cases hjn : j < S.said.length
  ·have hjn' : (j : Int) < (S.said.length : Int) := by omega
   obtain ⟨b, rfl, hbl, hc1, hc2⟩ := Hg0.out (by omega)
   obtain ⟨x, hx⟩ : ∃ x, S.said[j]? = some x := ⟨_, List.getElem?_eq_getElem hjn⟩
   have hxm := List.mem_of_getElem? hx
   obtain ⟨l1, l2⟩ := Hlt.out x hxm
   rw [← Hcl.out] at l1 l2
   have ht1 := Htag.out x hxm
   have hrd := Hrd.out
   rw [Hv0.out] at hrd
   obtain ⟨f0, f1, f2⟩ := flatSaid_get hx
   have q0 := (hrd.cellAt (j * 3) (by omega)).trans f0
   have q1 := (hrd.cellAt (j * 3 + 1) (by omega)).trans f1
   have q2 := (hrd.cellAt (j * 3 + 2) (by omega)).trans f2
   have k0 := (HT.out.upd.cell (p := ⟨b, j * 3, none⟩) hbl (by simp)).trans q0
   have k1 := (HT.out.upd.cell (p := ⟨b, j * 3 + 1, none⟩) hbl (by simp)).trans q1
   have k2 := (HT.out.upd.cell (p := ⟨b, j * 3 + 2, none⟩) hbl (by simp)).trans q2
   obtain ⟨W, hW⟩ : ∃ W, W = wr.alloc (.cells #[.int .i64 x.1, .int .i64 x.2.1, .int .i64 x.2.2] 134) := ⟨_, rfl⟩
   have UW : Upd [] wr W := hW ▸ (Upd.refl [] wr).alloc _
   have hWsz : wr.heap.size < W.heap.size := by rw [hW]; simp
   have b0 : W.cell? ⟨wr.heap.size, 0, none⟩ = some (.int .i64 x.1) := by rw [hW]; go_simp
   have b1 : W.cell? ⟨wr.heap.size, 1, none⟩ = some (.int .i64 x.2.1) := by rw [hW]; go_simp
   have b2 : W.cell? ⟨wr.heap.size, 2, none⟩ = some (.int .i64 x.2.2) := by rw [hW]; go_simp
   have Hu0 := hide (HT.out.upd.trans UW)
   have HPl := hide (fun (W' : World) (hu : Upd [] W W') => HP.out W' (Hu0.out.trans hu) x.2.1 l1)
   have HPr := hide (fun (W' : World) (hu : Upd [] W W') => HP.out W' (Hu0.out.trans hu) x.2.2 l2)
   have Hst : Hid ((sentsX S)[j]? = some (sentX S x)) := by
    show _ = _
    unfold sentsX
    rw [List.getElem?_map, hx]
    rfl
   have Hsg : Hid ((x.1 : Int) = signInt (x.1 == 0)) := by
    show _ = _
    match x.1, ht1 with
    | 0, _ => rfl
    | 1, _ => rfl
    | n + 2, h => omega
   have HK := hide (fun (w3 : World) (hu3 : Upd [] W w3) => (⟨(hu3.cell (p := ⟨wr.heap.size, 0, none⟩) hWsz (by simp)).trans b0, (hu3.cell (p := ⟨wr.heap.size, 1, none⟩) hWsz (by simp)).trans b1, (hu3.cell (p := ⟨wr.heap.size, 2, none⟩) hWsz (by simp)).trans b2⟩ : w3.cell? ⟨wr.heap.size, 0, none⟩ = some (.int .i64 x.1) ∧ w3.cell? ⟨wr.heap.size, 1, none⟩ = some (.int .i64 x.2.1) ∧ w3.cell? ⟨wr.heap.size, 2, none⟩ = some (.int .i64 x.2.2)))
   obtain ⟨cs, hrow, hall⟩ := HT.out.row
   have HKg : Hid (∀ (w4 w6 : World) (X : Obj), Upd [] W w4 → (w4.alloc X).grownBy w6 u3.ownBlock → w6.cell? ⟨wr.heap.size, 0, none⟩ = some (.int .i64 x.1) ∧ w6.cell? ⟨wr.heap.size, 1, none⟩ = some (.int .i64 x.2.1) ∧ w6.cell? ⟨wr.heap.size, 2, none⟩ = some (.int .i64 x.2.2)) := fun w4 w6 X hu4 hg => by
    have U : Upd u3.ownBlock.toList W w6 := ((hu4.alloc _).mono (fun x hx _ => by cases hx)).trans (Upd.of_grown hg)
    have hn : wr.heap.size ∉ u3.ownBlock.toList := fun hm => by
     have := ownsRow_lt hrow (by simpa using hm)
     omega
    exact ⟨(U.cell (p := ⟨wr.heap.size, 0, none⟩) hWsz hn).trans b0, (U.cell (p := ⟨wr.heap.size, 1, none⟩) hWsz hn).trans b1, (U.cell (p := ⟨wr.heap.size, 2, none⟩) hWsz hn).trans b2⟩
   have HW := hide hW
   have HUW := hide UW
   have Hrow := hide hrow
   have Hall := hide hall
   unfold maxLen at hc2
   have hcI : (j : Int) < (cap0 : Int) := by omega
   have hlm : j + 1 ≤ maxLen := by unfold maxLen; omega
   have hlb : (j + 1) * 104 ≤ 140737488355328 := by omega
   have HR : Hid (∀ (w4 : World) (X : Obj) (hu : Upd [] W w4), (w4.alloc X).ownsRow w.heap.size 101 7 u3 j (flat7 cs) ∧ w.heap.size ≤ (w4.alloc X).heap.size) := fun w4 X hu => ⟨((UW.trans hu).alloc _).ownsRow hrow (fun _ _ => by simp), Nat.le_trans Hu0.out.size (hu.alloc _).size⟩
   clear hx hxm l1 l2 ht1 hrd f0 f1 f2 q0 q1 q2 hW UW Hrd Hv0 Hlt Hcl Htag HP Hg0 hrow hall
   go_upto_region 5 with (fail)
   rw [← HW.out]
   clear k0 k1 k2
   go_region_held3 (fun w' => w'.cell? ⟨wr.heap.size, 0, none⟩ = some (.int .i64 x.1) ∧ w'.cell? ⟨wr.heap.size, 1, none⟩ = some (.int .i64 x.2.1) ∧ w'.cell? ⟨wr.heap.size, 2, none⟩ = some (.int .i64 x.2.2)) ((first | go_keep | (refine ⟨?_, ?_, ?_⟩ <;> go_simp)))
    (first
     | (refine step_append_lies _ (by rfl) _ _ 163 (by rfl) w.heap.size 101 i1 (.agg #[.string ⟨#[]⟩, .int .i64 0, .slice none 0 0, .int .i64 0, .string ⟨#[]⟩, .int .i64 0, .slice none 0 0]) 7 104 Tryz.underlying163 hi1 hy0 hy1 hy2 (by rfl) (by decide) u3 j (flat7 cs) (by rfl) hrow4 ⟨w4.heap.size, 0, none⟩ 1 1 [.string a2, .int .i64 p2, .slice g2 l2 d2, .int .i64 x.1, .string a5, .int .i64 p5, .slice g5 l5 d5] (by rfl) (by rfl) hnews4 hone (by decide) hlm hlb hbase4 _ (by rfl) ?_; intro g6 cap6 w6 hown6 hgrow6 hat6 hlt6; obtain ⟨x0, x1, x2⟩ := HKg.out w4 w6 _ Hu4.out hgrow6)
     | (go_at_call_of 130 (Value.int .i64 x.2.1); refine (HPl.out _ (Upd.refl [] W).drew).mono ?_; rintro e w3 ⟨a2, p2, g2, l2, d2, rfl, hu3, ht3⟩; have Hu3 := hide ((Upd.refl [] W).drew.trans hu3); have Ht3 := hide ht3; obtain ⟨y0, y1, y2⟩ := HK.out w3 Hu3.out; clear hu3 ht3)
     | (go_at_call_of 130 (Value.int .i64 x.2.2); refine (HPr.out _ Hu3.out).mono ?_; rintro e w4 ⟨a5, p5, g5, l5, d5, rfl, hu4, ht4⟩; have Hu34 := hide hu4; have Ht4 := hide ht4; have Hu4 := hide (Hu3.out.trans hu4); obtain ⟨x0, x1, x2⟩ := HK.out w4 Hu4.out; obtain ⟨hrow4, hbase4⟩ := HR.out w4 (.cells #[.string a2, .int .i64 p2, .slice g2 l2 d2, .int .i64 x.1, .string a5, .int .i64 p5, .slice g5 l5 d5] 101) Hu4.out; have hnews4 := World.news_of_block (heap_alloc_new w4 (.cells #[.string a2, .int .i64 p2, .slice g2 l2 d2, .int .i64 x.1, .string a5, .int .i64 p5, .slice g5 l5 d5] 101)); have hone : ∀ u ∈ [Value.string a2, .int .i64 p2, .slice g2 l2 d2, .int .i64 x.1, .string a5, .int .i64 p5, .slice g5 l5 d5], u.oneCell' = true := (by intro u hu'; simp at hu'; rcases hu' with rfl | rfl | rfl | rfl | rfl | rfl | rfl <;> rfl); clear hu4 ht4))
   go_wp2
   refine ⟨⟨j + 1, by omega, by go_num, ?_⟩, by simp [intOf]; omega⟩
   have s1 := HUW.out.size
   have s3 := Hu3.out.size
   refine HT.out.next (c := ((.string a2, .int .i64 p2, .slice g2 l2 d2), x.1, (.string a5, .int .i64 p5, .slice g5 l5 d5))) HZ.out Hst.out Hrow.out Hall.out (HUW.out.trans Hu4.out) ⟨?_, Hsg.out, ?_⟩ hown6 hgrow6 hat6
   ·exact (Ht3.out.later Hu34.out (fun _ _ => by simp)).mono (fun k hk _ => by simp at hk; omega)
   ·exact Ht4.out.mono (fun k hk _ => by omega)
  ·obtain rfl : j = S.said.length := by omega
   have hge : ¬ ((S.said.length : Nat) : Int) < (S.said.length : Int) := by omega
   obtain ⟨cs, hrow, hall⟩ := HT.out.row
   rw [List.take_of_length_le (by rw [HlT.out]; exact Nat.le_refl _)] at hall
   rw [← HlT.out] at hrow
   have Hrow := hide hrow
   have Hall := hide hall
   have Hu := hide HT.out.upd
   clear HT HP Hg0 Hrd Hv0 hrow hall
   go_wp2
   go_ret
   exact ⟨_, rfl, Hu.out, cs, Hrow.out, Hall.out⟩
end Go.Proofs.YtmfkpllnmmfpiaaGreatDoor

namespace Go.Proofs.YtmfkpllnmmfpiaaGreatDoor
open Go.RowKit
def goesOn (J : World → Prop) : Exit → Act → World → Prop
 | .normal, _, W' => J W'
 | .ret, _, _ => False
 | .exit _, _, _ => False
 | .goto _, _, _ => False
 | .panic _, _, _ => False
 | .outgrown, _, _ => False
def Two2 (B : Nat) (A A' : World) : Prop := A'.heap[B + 1]? = A.heap[B + 1]? ∧ A'.heap[B]? = A.heap[B]?
theorem Two2.of_upd {B : Nat} {L : List Nat} {A A' : World} (U : Upd L A A') (h : B + 1 < A.heap.size) (h1 : B + 1 ∉ L) (h0 : B ∉ L) : Two2 B A A' := ⟨U.block _ h h1, U.block _ (by omega) h0⟩
theorem range_law {α : Type} {F : Fence} {n : Nat} {P : Program} {g : Operand} {ps : Array Tmp} {assign body : Code} {Q : Exit → Act → World → Prop} {a : Act} {w : World}
  (hro : F.round = none) (h1 : 1 ≤ n) {gf : Nat} {lb : Array Value} (hg : a.eval g = .func (.func gf) #[] lb) (hFg : F.fn gf) (eg : ∀ args w, (callFunc gf args).run P w = .ok (.enter gf args) w)
  {encs : α → Array Value} {N : Nat} {nth : Nat → α} (RD : World → Prop)
  (hseq : ∀ (l : Nat) (J : Nat → World → Prop) (W : World), (∀ k W1, J k W1 → RD W1) → (∀ k W1, k < N → J k W1 → YieldAt F (n - 1 - 1) P l (encs (nth k)) W1 fun e W' => e = .returned (.bool true) ∧ J (k + 1) W') → J 0 W →
   CallsIn F (n - 1) P gf (#[.func (.yield l) #[] #[]] ++ lb) W fun e W' => (∃ v, e = .returned v) ∧ J N W')
  (hps : ∀ x, (encs x).size = ps.size)
  (I : Nat → World → Prop) (hRD : ∀ k W, I k W → RD W) (hput : ∀ k W o, w.heap.size + 1 < W.heap.size → I k W → I k (W.putObj (w.heap.size + 1) o))
  (h0 : ∀ o, I 0 ((w.alloc (.deferred (some []))).alloc o))
  (hround : ∀ k W, k < N → I k W → w.heap.size + 1 < W.heap.size →
   assign.wpIn (F.inRound (w.heap.size + 1)) (n - 1 - 1) P (Exit.then (fun a1 W1 => Two2 w.heap.size W W1 ∧ ∀ o, body.wpIn (F.inRound (w.heap.size + 1)) (n - 1 - 1) P (goesOn fun W2 => Two2 w.heap.size (W1.putObj (w.heap.size + 1) o) W2 ∧ I (k + 1) W2) a1 (W1.putObj (w.heap.size + 1) o)) (fun _ _ _ => False))
    { tmps := (ps.zip (encs (nth k))).foldl (fun t (p, v) => t.setIfInBounds p v) a.tmps, defers := [] } W)
  (hdone : ∀ W, I N W → w.heap.size + 1 < W.heap.size → W.heap[w.heap.size]? = some (.deferred (some [])) → Q .normal { a with defers := { target := .collected w.heap.size, args := #[] } :: a.defers } W) :
  (Code.rangeFunc g ps assign body).wpIn F n P Q a w := by
 refine wpIn_rangeFunc ?_
 intro fn hfn
 rw [hro]
 obtain ⟨rec, hrec⟩ : ∃ rec : LoopState → Option Code → Loop, rec = fun st pe => { state := st, pending := pe, fn, tmps := a.tmps, params := ps, assign, body, defers := w.heap.size } := ⟨_, rfl⟩
 obtain ⟨W1, hW1⟩ : ∃ W1, (w.alloc (.deferred (some []))).alloc (.loop (rec .ready none)) = W1 := ⟨_, rfl⟩
 have hL1 : W1.heap[w.heap.size + 1]? = some (.loop (rec .ready none)) := by
  rw [← hW1]
  have := World.alloc_heap_new (w.alloc (.deferred (some []))) (.loop (rec .ready none))
  rwa [World.size_alloc] at this
 have hK1 : W1.heap[w.heap.size]? = some (.deferred (some [])) := by
  rw [← hW1]
  exact (Below.heap_alloc _ _ _ (by simp)).trans (World.alloc_heap_new w _)
 have hI1 : I 0 W1 := by rw [← hW1]; exact h0 _
 refine ⟨w.heap.size + 1, [{ target := .collected w.heap.size, args := #[] }], W1, { target := .fn (.func gf) lb, args := #[.func (.yield (w.heap.size + 1)) #[] #[]] }, W1, gf, #[.func (.yield (w.heap.size + 1)) #[] #[]] ++ lb, W1, ?_, ?_, ?_, ?_, fun _ => h1, ?_⟩
 ·rw [← hW1, hrec]
  exact run_enterLoop_outer _ _ _ _ _
 ·simp only [resolve, hg]
  simp [go_sem]
 ·intro f' hf'
  simp [Target.leads] at hf'
  subst hf'
  exact hFg
 ·simp [invoke, go_sem, eg]
 ·refine (hseq (w.heap.size + 1) (fun k W => I k W ∧ W.heap[w.heap.size + 1]? = some (.loop (rec .ready none)) ∧ W.heap[w.heap.size]? = some (.deferred (some []))) W1 (fun k W h => hRD k W h.1) ?_ ⟨hI1, hL1, hK1⟩).mono ?_
  ·rintro k W hk ⟨hi, hl, hd⟩
   have hlt : w.heap.size + 1 < W.heap.size := (Array.getElem?_eq_some_iff.1 hl).1
   have hy := run_yield (P := P) (args := encs (nth k)) hl (by rw [hrec]; exact hps _)
   rw [hrec] at hy
   refine ⟨fn, _, assign, body, hy, roundIn_of_wpIn hfn (wpIn_mono (hround k W hk hi hlt) ?_)⟩
   rintro e a1 W2 hp
   cases e with
   | normal =>
    obtain ⟨ht, hb⟩ := hp
    have hl2 := ht.1.trans hl
    have hd2 := ht.2.trans hd
    have hlt2 : w.heap.size + 1 < W2.heap.size := (Array.getElem?_eq_some_iff.1 hl2).1
    refine ⟨_, run_beginRound hl2 (by rw [hrec]), wpIn_mono (hb _) ?_⟩
    rintro e2 a3 W3 hp3
    cases e2 with
    | normal =>
     obtain ⟨ht3, hi3⟩ := hp3
     have hl3 := ht3.1.trans (World.putObj_heap_same hlt2)
     have hd3 := ht3.2.trans ((World.putObj_heap_other (by omega)).trans hd2)
     have hlt3 : w.heap.size + 1 < W3.heap.size := (Array.getElem?_eq_some_iff.1 hl3).1
     have hr := run_endRound (P := P) none hl3
     refine ⟨_, _, hr, rfl, hput _ _ _ hlt3 hi3, ?_, (World.putObj_heap_other (by omega)).trans hd3⟩
     rw [World.putObj_heap_same hlt3, hrec]
     rfl
    | ret => exact hp3.elim
    | exit id => exact hp3.elim
    | goto t => exact hp3.elim
    | panic ch => exact hp3.elim
    | outgrown => exact hp3.elim
   | ret => exact hp.elim
   | exit id => exact hp.elim
   | goto t => exact hp.elim
   | panic ch => exact hp.elim
   | outgrown => exact hp.elim
  ·rintro e W2 ⟨⟨v, rfl⟩, hi, hl, hd⟩
   have hlt : w.heap.size + 1 < W2.heap.size := (Array.getElem?_eq_some_iff.1 hl).1
   refine ⟨none, _, by have := run_endLoop (P := P) hl (by rw [hrec]; simp); rw [hrec] at this; exact this, hdone _ (hput _ _ _ hlt hi) (by simpa using hlt) ((World.putObj_heap_other (by omega)).trans hd)⟩
end Go.Proofs.YtmfkpllnmmfpiaaGreatDoor

namespace Go.Proofs.YtmfkpllnmmfpiaaGreatDoor
open Go.RowKit Go.Shelf
attribute [local go_sem] Oper.semAt_some
set_option maxHeartbeats 400000 in
theorem backward_any (g : Option Addr) (len cap : Nat) (w : World) : Calls Tryz.prog 100 #[.slice g len cap] w fun e w' => e = .returned (.func (.func 131) #[] #[.pointer (some ⟨w.heap.size, 0, none⟩)]) ∧ w' = w.alloc (.cells #[.slice g len cap] 163) := by
 go_enter Tryz.func100, Tryz.ntmps100
 go_wp2
 go_ret
 exact ⟨rfl, rfl⟩
def Form7 (c : V7) : Prop := ∃ (a : ByteArray) (p : Int) (g : Option Addr) (l d : Nat) (a' : ByteArray) (p' : Int) (g' : Option Addr) (l' d' : Nat), c.1 = (.string a, .int .i64 p, .slice g l d) ∧ c.2.2 = (.string a', .int .i64 p', .slice g' l' d')
def agg7 (c : V7) : Value := .agg #[c.1.1, c.1.2.1, c.1.2.2, .int .i64 c.2.1, c.2.2.1, c.2.2.2.1, c.2.2.2.2]
structure RowRead (Bs : Nat) (g : Option Addr) (N cap : Nat) (c : Nat → V7) (W : World) : Prop where
 box : W.cell? ⟨Bs, 0, none⟩ = some (.slice g N cap)
 cells : ∀ i, i < N → ∃ b, g = some ⟨b, 0, none⟩ ∧ ∀ o, o < 7 → W.cell? ⟨b, i * 7 + o, none⟩ = (v7 (c i))[o]?
set_option maxRecDepth 100000 in
set_option maxHeartbeats 2000000 in
theorem backward1_in (F : Fence) (n : Nat) (hfn : F.fn 131) (hro : F.round = none) (hn : 1 ≤ n) (l Bs : Nat) (gs : Option Addr) (N cap : Nat) (c : Nat → V7) (hf : ∀ i, i < N → Form7 (c i)) (hN : N ≤ 1000) (J : Nat → World → Prop) (W : World)
  (hRD : ∀ k W1, J k W1 → RowRead Bs gs N cap c W1)
  (hY : ∀ k W1, k < N → J k W1 → YieldAt F (n - 1) Tryz.prog l #[.int .i64 ((N - 1 - k : Nat) : Int), agg7 (c (N - 1 - k))] W1 fun e W' => e = .returned (.bool true) ∧ J (k + 1) W') (h0 : J 0 W) :
  CallsIn F n Tryz.prog 131 (#[.func (.yield l) #[] #[]] ++ #[.pointer (some ⟨Bs, 0, none⟩)]) W fun e W' => (∃ v, e = .returned v) ∧ J N W' := by
 have hb0 := (hRD 0 W h0).box
 refine callsIn_of_wp Tryz.func131 rfl hfn ?_ hro
 simp only [Tryz.ntmps131, List.size_toArray, List.length_cons, List.length_nil, Nat.reduceAdd, Nat.reduceSub, Array.replicate_succ, Array.replicate_zero, List.push_toArray, List.append_toArray, List.nil_append, List.cons_append]
 gi_wp2
 clear hb0
 gi_loopw [3] (fun i wr => ∃ j : Nat, j ≤ N ∧ i = .int .i64 ((j : Int) - 1) ∧ J (N - j) wr) (fun i _ => (intOf i + 1).toNat)
 case atStart => exact ⟨N, Nat.le_refl _, rfl, by rw [Nat.sub_self]; exact h0⟩
 case round =>
  obtain ⟨j, hj, rfl, hJ⟩ := hrel
  clear h0
  cases j with
  | zero =>
   gi_wp2
   go_end0
   exact ⟨⟨_, rfl⟩, hJ⟩
  | succ m =>
   have e : (((m + 1 : Nat) : Int) - 1) = (m : Int) := by omega
   rw [e]
   have ek : N - 1 - (N - (m + 1)) = m := by omega
   obtain ⟨fn, tmps, assign, body, hy, hR⟩ := hY (N - (m + 1)) wr (by omega) hJ
   rw [ek] at hy
   have hrd := hRD _ _ hJ
   obtain ⟨b, rfl, hcs⟩ := hrd.cells m (by omega)
   obtain ⟨a, p, g, ll, d, a', p', g', ll', d', hc1, hc2⟩ := hf m (by omega)
   generalize c m = q at *
   obtain ⟨q1, k, q3⟩ := q
   simp only at hc1 hc2
   subst hc1 hc2
   have m0 : wr.cell? ⟨b, m * 7, none⟩ = some (.string a) := hcs 0 (by omega)
   have m1 : wr.cell? ⟨b, m * 7 + 1, none⟩ = some (.int .i64 p) := hcs 1 (by omega)
   have m2 : wr.cell? ⟨b, m * 7 + 2, none⟩ = some (.slice g ll d) := hcs 2 (by omega)
   have m3 : wr.cell? ⟨b, m * 7 + 3, none⟩ = some (.int .i64 k) := hcs 3 (by omega)
   have m4 : wr.cell? ⟨b, m * 7 + 4, none⟩ = some (.string a') := hcs 4 (by omega)
   have m5 : wr.cell? ⟨b, m * 7 + 5, none⟩ = some (.int .i64 p') := hcs 5 (by omega)
   have m6 : wr.cell? ⟨b, m * 7 + 6, none⟩ = some (.slice g' ll' d') := hcs 6 (by omega)
   have hbx := hrd.box
   unfold agg7 at hy
   simp only at hy
   have hm1 : (m : Int) < (N : Int) := by omega
   clear hcs hrd ek e
   gi_wp2
   refine hR.mono ?_
   rintro e W3 ⟨rfl, hJ3⟩
   gi_wp2
   go_roundw
   case rel =>
    refine ⟨m, by omega, by go_num, ?_⟩
    have e : N - (m + 1) + 1 = N - m := by omega
    rw [← e]
    exact hJ3
   case measure => simp [intOf]
end Go.Proofs.YtmfkpllnmmfpiaaGreatDoor
