/-
  'sentences' of a Web, walked: all that is said, as it may be said elsewhere.
-/
import Derived.Test.YtmfkpllnmmfpiaaDoorWhyOtherH
import Derived.Test.YtmfkpllnmmfpiaaDoorSaidH
namespace Go.Proofs.YtmfkpllnmmfpiaaDoor
open Go.RowKit

theorem info_readSent : (Tryd.prog.info? 74).map (fun i => (i.zero, i.size, i.bytes)) = some (some (.agg #[.string ⟨#[]⟩, .int .i64 0, .slice none 0 0, .int .i64 0, .string ⟨#[]⟩, .int .i64 0, .slice none 0 0]), 7, 104) := by kernel_rfl
theorem flat7_append (a b : List V7) : flat7 (a ++ b) = flat7 a ++ flat7 b := by
  induction a with
  | nil => rfl
  | cons c a ih => simp [flat7, ih]
/-- Where the loop of 'sentences' stands. -/
structure Senting (w wr : World) (wb : Nat) (H : Hd) (Z : Nat → Prop) (S : WS) (v : Value) (j : Nat) : Prop where
  web : WebAt wr wb H Z S
  row : ∃ cs : List V7, wr.ownsRow w.heap.size 74 7 v j (flat7 cs) ∧ AllIs (IsX wr (fun k => w.heap.size ≤ k ∧ v.ownBlock ≠ some k)) cs ((sentsX S).take j)
  upd : Upd [] w wr

theorem Senting.next {w wr w2 w3 : World} {wb j g' cap : Nat} {H : Hd} {Z : Nat → Prop} {S : WS} {v : Value} {cs : List V7} {c : V7} {x : SntX} {X : Obj} (h : Senting w wr wb H Z S v j) (hZ : ∀ k, Z k → k < w.heap.size) (hx : (sentsX S)[j]? = some x)
    (hrow : wr.ownsRow w.heap.size 74 7 v j (flat7 cs)) (hall : AllIs (IsX wr (fun k => w.heap.size ≤ k ∧ v.ownBlock ≠ some k)) cs ((sentsX S).take j))
    (hu2 : Upd [] wr w2) (hc : IsX w2 (fun k => wr.heap.size ≤ k) c x)
    (hown : w3.ownsRow w.heap.size 74 7 (.slice (some ⟨g', 0, none⟩) (j + 1) cap) (j + 1) (flat7 cs ++ v7 c)) (hgrow : (w2.alloc X).grownBy w3 v.ownBlock) (hat : v.ownBlock = some g' ∨ g' = (w2.alloc X).heap.size) :
    Senting w w3 wb H Z S (.slice (some ⟨g', 0, none⟩) (j + 1) cap) (j + 1) := by
  have hge : ∀ q, v.ownBlock = some q → w.heap.size ≤ q ∧ q < wr.heap.size := fun q hq => ⟨own_ge hrow hq, ownsRow_lt hrow hq⟩
  have U1 : Upd v.ownBlock.toList w2 w3 := ((Upd.refl v.ownBlock.toList w2).alloc X).trans (Upd.of_grown hgrow)
  have U : Upd v.ownBlock.toList wr w3 := (hu2.mono (fun x hx _ => by cases hx)).trans U1
  have hz2 := hu2.size
  refine ⟨h.web.later U (fun k hk hm => ?_), ⟨cs ++ [c], ?_, ?_⟩, h.upd.trans' U (fun k hk hl => ?_)⟩
  · have := (hge k (by simpa using hm)).1
    have := hZ k hk
    omega
  · rw [flat7_append]
    simpa [flat7] using hown
  · have hlt := (List.getElem?_eq_some_iff.1 hx).1
    rw [List.getElem?_eq_getElem hlt] at hx
    rw [List.take_succ_eq_append_getElem hlt, Option.some.inj hx]
    have hfr : ∀ q, (w.heap.size ≤ q ∧ v.ownBlock ≠ some q) ∧ q < wr.heap.size → w.heap.size ≤ q ∧ (Value.slice (some ⟨g', 0, none⟩) (j + 1) cap).ownBlock ≠ some q := fun q hq => ⟨hq.1.1, fun e => by
      simp only [own_slice, Option.some.injEq] at e
      subst e
      rcases hat with hat | hat
      · exact hq.1.2 hat
      · simp at hat; omega⟩
    refine AllIs.snoc ?_ ?_
    · have h1 : IsX w2 (fun k => wr.heap.size ≤ k ∧ k < w2.heap.size) c x := hc.mono fun q hq hl => ⟨hq, hl⟩
      have h2 := h1.later U1 (fun q hq hm => by have := hge q (by simpa using hm); omega)
      have hs := h.upd.size
      refine h2.mono (fun q hq _ => ⟨by omega, fun e => ?_⟩)
      simp only [own_slice, Option.some.injEq] at e
      subst e
      rcases hat with hat | hat
      · have := hge _ hat; omega
      · simp at hat; omega
    · refine hall.mono fun a b hab => ?_
      have h1 : IsX wr (fun k => (w.heap.size ≤ k ∧ v.ownBlock ≠ some k) ∧ k < wr.heap.size) a b := hab.mono fun q hq hl => ⟨hq, hl⟩
      have h2 := h1.later U (fun q hq hm => hq.1.2 (by simpa using hm))
      exact h2.mono (fun q hq _ => hfr q hq)
  · have := (hge k (by simpa using hk)).1
    omega

set_option maxHeartbeats 4000000 in
set_option maxRecDepth 100000 in
theorem webSents_any (w : World) (wb : Nat) (H : Hd) (Z : Nat → Prop) (S : WS) (h : WebAt w wb H Z S) (hB : Base S) (hZ : ∀ k, Z k → k < w.heap.size) (hsd : S.said.length ≤ 1000) (htag : ∀ x ∈ S.said, x.1 ≤ 1) :
    Calls Tryd.prog 60 #[.pointer (some ⟨wb, 0, none⟩)] w fun e w' => ∃ v cs, e = .returned v ∧ Upd [] w w' ∧ w'.ownsRow w.heap.size 74 7 v (sentsX S).length (flat7 cs) ∧ AllIs (IsX w' (fun k => w.heap.size ≤ k ∧ v.ownBlock ≠ some k)) cs (sentsX S) := by
  obtain ⟨i1, hi1, hy0, hy1, hy2⟩ := info_parts info_readSent
  obtain ⟨w1, hmk, hown1, hgr1⟩ := run_make_own (P := Tryd.prog) w w.heap.size 123 74 i1 _ 7 Tryd.underlying123 hi1 hy0 hy1 .i64 .i64 S.said.length (by rw [hy2]; omega) (by unfold maxLen; omega) (Nat.le_refl _)
  have U1 : Upd [] w w1 := Upd.of_grown hgr1
  obtain ⟨g0, cap0, hv0⟩ := slice_len h.rd
  have c5 := h.c5
  rw [hv0] at c5
  have c5' := (U1.cell (p := ⟨wb, 6, none⟩) h.lt (by simp)).trans c5
  have hstart : Senting w w1 wb H Z S (.slice (some ⟨w.heap.size, 0, none⟩) 0 S.said.length) 0 := ⟨h.later U1 (fun _ _ => by simp), ⟨[], hown1, trivial⟩, U1⟩
  have HZ := hide hZ
  have HP := hide (fun (W : World) (hu : Upd [] w W) (i : Nat) (hi : i < S.shapes.length) => webTerm_ok S wb H Z hB S.shapes.length i (by omega) hi W (h.later hu (fun _ _ => by simp)) W (Upd.refl [] W))
  have Hlt := hide hB.saidLt
  have hcl := hB.inv.len
  have Hcl := hide hcl
  have Htag := hide htag
  have Hrd := hide h.rd
  have Hv0 := hide hv0
  have hlt := h.lt
  have HlT : Hid ((sentsX S).length = S.said.length) := by show _ = _; simp [sentsX]
  have Hg0 : Hid (0 < S.said.length → ∃ b, g0 = some ⟨b, 0, none⟩ ∧ b < w.heap.size ∧ S.said.length ≤ cap0 ∧ cap0 ≤ maxLen) := fun hp => by
    rcases ownsRow_slice h.rd with ⟨_, h2⟩ | ⟨g', cap', h1, h2, h3⟩
    · omega
    · have hl := ownsRow_lt h.rd (k := g') (by rw [h1]; rfl)
      rw [hv0] at h1
      cases h1
      exact ⟨g', rfl, hl, h2, h3⟩
  clear h hB hown1 hgr1 hv0 hZ hcl htag
  go_enter Tryd.func60, Tryd.ntmps60
  go_wp2
  go_loopw [3, 17] (fun v i wr => ∃ j : Nat, j ≤ S.said.length ∧ i = .int .i64 j ∧ Hid (Senting w wr wb H Z S v j)) (fun _ i _ => S.said.length - (intOf i).toNat)
  case atStart => exact ⟨0, Nat.zero_le _, rfl, hstart⟩
  case round =>
    obtain ⟨j, hj, rfl, HT⟩ := hrel
    clear hstart hmk c5 c5' U1
    by_cases hjn : j < S.said.length
    · have hjn' : (j : Int) < (S.said.length : Int) := by omega
      obtain ⟨b, rfl, hbl, hc1, hc2⟩ := Hg0.out (by omega)
      obtain ⟨x, hx⟩ : ∃ x, S.said[j]? = some x := ⟨_, List.getElem?_eq_getElem hjn⟩
      have hxm := List.mem_of_getElem? hx
      obtain ⟨l1, l2⟩ := Hlt.out x hxm
      rw [← Hcl.out] at l1 l2
      have ht1 := Htag.out x hxm
      have hrd := Hrd.out
      rw [Hv0.out] at hrd
      obtain ⟨f0, f1, f2⟩ := flatSaid_get hx
      have q0 := (hrd.cellAt (j * 3) (by omega)).trans f0
      have q1 := (hrd.cellAt (j * 3 + 1) (by omega)).trans f1
      have q2 := (hrd.cellAt (j * 3 + 2) (by omega)).trans f2
      have k0 := (HT.out.upd.cell (p := ⟨b, j * 3, none⟩) hbl (by simp)).trans q0
      have k1 := (HT.out.upd.cell (p := ⟨b, j * 3 + 1, none⟩) hbl (by simp)).trans q1
      have k2 := (HT.out.upd.cell (p := ⟨b, j * 3 + 2, none⟩) hbl (by simp)).trans q2
      obtain ⟨W, hW⟩ : ∃ W, W = wr.alloc (.cells #[.int .i64 x.1, .int .i64 x.2.1, .int .i64 x.2.2] 121) := ⟨_, rfl⟩
      have UW : Upd [] wr W := hW ▸ (Upd.refl [] wr).alloc _
      have hWsz : wr.heap.size < W.heap.size := by rw [hW]; simp
      have b0 : W.cell? ⟨wr.heap.size, 0, none⟩ = some (.int .i64 x.1) := by rw [hW]; go_simp
      have b1 : W.cell? ⟨wr.heap.size, 1, none⟩ = some (.int .i64 x.2.1) := by rw [hW]; go_simp
      have b2 : W.cell? ⟨wr.heap.size, 2, none⟩ = some (.int .i64 x.2.2) := by rw [hW]; go_simp
      have Hu0 := hide (HT.out.upd.trans UW)
      have HPl := hide (fun (W' : World) (hu : Upd [] W W') => HP.out W' (Hu0.out.trans hu) x.2.1 l1)
      have HPr := hide (fun (W' : World) (hu : Upd [] W W') => HP.out W' (Hu0.out.trans hu) x.2.2 l2)
      have Hst : Hid ((sentsX S)[j]? = some (sentX S x)) := by
        show _ = _
        unfold sentsX
        rw [List.getElem?_map, hx]
        rfl
      have Hsg : Hid ((x.1 : Int) = signInt (x.1 == 0)) := by
        show _ = _
        match x.1, ht1 with
        | 0, _ => rfl
        | 1, _ => rfl
        | n + 2, h => omega
      have HK := hide (fun (w3 : World) (hu3 : Upd [] W w3) => (⟨(hu3.cell (p := ⟨wr.heap.size, 0, none⟩) hWsz (by simp)).trans b0, (hu3.cell (p := ⟨wr.heap.size, 1, none⟩) hWsz (by simp)).trans b1, (hu3.cell (p := ⟨wr.heap.size, 2, none⟩) hWsz (by simp)).trans b2⟩ : w3.cell? ⟨wr.heap.size, 0, none⟩ = some (.int .i64 x.1) ∧ w3.cell? ⟨wr.heap.size, 1, none⟩ = some (.int .i64 x.2.1) ∧ w3.cell? ⟨wr.heap.size, 2, none⟩ = some (.int .i64 x.2.2)))
      obtain ⟨cs, hrow, hall⟩ := HT.out.row
      have HKg : Hid (∀ (w4 w6 : World) (X : Obj), Upd [] W w4 → (w4.alloc X).grownBy w6 u3.ownBlock → w6.cell? ⟨wr.heap.size, 0, none⟩ = some (.int .i64 x.1) ∧ w6.cell? ⟨wr.heap.size, 1, none⟩ = some (.int .i64 x.2.1) ∧ w6.cell? ⟨wr.heap.size, 2, none⟩ = some (.int .i64 x.2.2)) := fun w4 w6 X hu4 hg => by
        have U : Upd u3.ownBlock.toList W w6 := ((hu4.alloc _).mono (fun x hx _ => by cases hx)).trans (Upd.of_grown hg)
        have hn : wr.heap.size ∉ u3.ownBlock.toList := fun hm => by
          have := ownsRow_lt hrow (by simpa using hm)
          omega
        exact ⟨(U.cell (p := ⟨wr.heap.size, 0, none⟩) hWsz hn).trans b0, (U.cell (p := ⟨wr.heap.size, 1, none⟩) hWsz hn).trans b1, (U.cell (p := ⟨wr.heap.size, 2, none⟩) hWsz hn).trans b2⟩
      have HW := hide hW
      have HUW := hide UW
      have Hrow := hide hrow
      have Hall := hide hall
      unfold maxLen at hc2
      have hcI : (j : Int) < (cap0 : Int) := by omega
      have hlm : j + 1 ≤ maxLen := by unfold maxLen; omega
      have hlb : (j + 1) * 104 ≤ 140737488355328 := by omega
      have HR : Hid (∀ (w4 : World) (X : Obj) (hu : Upd [] W w4), (w4.alloc X).ownsRow w.heap.size 74 7 u3 j (flat7 cs) ∧ w.heap.size ≤ (w4.alloc X).heap.size) := fun w4 X hu => ⟨((UW.trans hu).alloc _).ownsRow hrow (fun _ _ => by simp), Nat.le_trans Hu0.out.size (hu.alloc _).size⟩
      clear hx hxm l1 l2 ht1 hrd f0 f1 f2 q0 q1 q2 hW UW Hrd Hv0 Hlt Hcl Htag HP Hg0 hrow hall
      go_upto_region 5 with (fail)
      rw [← HW.out]
      clear k0 k1 k2
      go_region_held3 (fun w' => w'.cell? ⟨wr.heap.size, 0, none⟩ = some (.int .i64 x.1) ∧ w'.cell? ⟨wr.heap.size, 1, none⟩ = some (.int .i64 x.2.1) ∧ w'.cell? ⟨wr.heap.size, 2, none⟩ = some (.int .i64 x.2.2)) ((first | go_keep | (refine ⟨?_, ?_, ?_⟩ <;> go_simp)))
        (first
          | (refine step_append_lies _ (by rfl) _ _ 123 (by rfl) w.heap.size 74 i1 (.agg #[.string ⟨#[]⟩, .int .i64 0, .slice none 0 0, .int .i64 0, .string ⟨#[]⟩, .int .i64 0, .slice none 0 0]) 7 104 Tryd.underlying123 hi1 hy0 hy1 hy2 (by rfl) (by decide) u3 j (flat7 cs) (by rfl) hrow4 ⟨w4.heap.size, 0, none⟩ 1 1 [.string a2, .int .i64 p2, .slice g2 l2 d2, .int .i64 x.1, .string a5, .int .i64 p5, .slice g5 l5 d5] (by rfl) (by rfl) hnews4 hone (by decide) hlm hlb hbase4 _ (by rfl) ?_; intro g6 cap6 w6 hown6 hgrow6 hat6 hlt6; obtain ⟨x0, x1, x2⟩ := HKg.out w4 w6 _ Hu4.out hgrow6)
          | (go_at_call_of 85 (Value.int .i64 x.2.1); refine (HPl.out _ (Upd.refl [] W).drew).mono ?_; rintro e w3 ⟨a2, p2, g2, l2, d2, rfl, hu3, ht3⟩; have Hu3 := hide ((Upd.refl [] W).drew.trans hu3); have Ht3 := hide ht3; obtain ⟨y0, y1, y2⟩ := HK.out w3 Hu3.out; clear hu3 ht3)
          | (go_at_call_of 85 (Value.int .i64 x.2.2); refine (HPr.out _ Hu3.out).mono ?_; rintro e w4 ⟨a5, p5, g5, l5, d5, rfl, hu4, ht4⟩; have Hu34 := hide hu4; have Ht4 := hide ht4; have Hu4 := hide (Hu3.out.trans hu4); obtain ⟨x0, x1, x2⟩ := HK.out w4 Hu4.out; obtain ⟨hrow4, hbase4⟩ := HR.out w4 (.cells #[.string a2, .int .i64 p2, .slice g2 l2 d2, .int .i64 x.1, .string a5, .int .i64 p5, .slice g5 l5 d5] 74) Hu4.out; have hnews4 := World.news_of_block (heap_alloc_new w4 (.cells #[.string a2, .int .i64 p2, .slice g2 l2 d2, .int .i64 x.1, .string a5, .int .i64 p5, .slice g5 l5 d5] 74)); have hone : ∀ u ∈ [Value.string a2, .int .i64 p2, .slice g2 l2 d2, .int .i64 x.1, .string a5, .int .i64 p5, .slice g5 l5 d5], u.oneCell' = true := (by intro u hu'; simp at hu'; rcases hu' with rfl | rfl | rfl | rfl | rfl | rfl | rfl <;> rfl); clear hu4 ht4))
      go_wp2
      refine ⟨⟨j + 1, by omega, by go_num, ?_⟩, by simp [intOf]; omega⟩
      have s1 := HUW.out.size
      have s3 := Hu3.out.size
      refine HT.out.next (c := ((.string a2, .int .i64 p2, .slice g2 l2 d2), x.1, (.string a5, .int .i64 p5, .slice g5 l5 d5))) HZ.out Hst.out Hrow.out Hall.out (HUW.out.trans Hu4.out) ⟨?_, Hsg.out, ?_⟩ hown6 hgrow6 hat6
      · exact (Ht3.out.later Hu34.out (fun _ _ => by simp)).mono (fun k hk _ => by simp at hk; omega)
      · exact Ht4.out.mono (fun k hk _ => by omega)
    · obtain rfl : j = S.said.length := by omega
      have hge : ¬ ((S.said.length : Nat) : Int) < (S.said.length : Int) := by omega
      obtain ⟨cs, hrow, hall⟩ := HT.out.row
      rw [List.take_of_length_le (by rw [HlT.out]; exact Nat.le_refl _)] at hall
      rw [← HlT.out] at hrow
      have Hrow := hide hrow
      have Hall := hide hall
      have Hu := hide HT.out.upd
      clear HT HP Hg0 Hrd Hv0 hrow hall
      go_wp2
      go_ret
      exact ⟨_, rfl, Hu.out, cs, Hrow.out, Hall.out⟩
end Go.Proofs.YtmfkpllnmmfpiaaDoor
