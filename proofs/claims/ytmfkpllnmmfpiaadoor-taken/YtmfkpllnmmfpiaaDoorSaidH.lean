/-
  'Said' of a Web, walked.
-/
import Derived.Test.YtmfkpllnmmfpiaaDoorClassesH
import Derived.Test.YtmfkpllnmmfpiaaDoorClashH
namespace Go.Proofs.YtmfkpllnmmfpiaaDoor
open Go.RowKit

/-- What is said, plain. -/
def sayT (S : WS) (x : Nat × Nat × Nat) : ByteArray := plainT S x.2.1 ++ (⟨#[32]⟩ : ByteArray) ++ signB (x.1 == 0) ++ (⟨#[32]⟩ : ByteArray) ++ plainT S x.2.2
def saidOf (S : WS) : List ByteArray := S.said.map (sayT S)
theorem plainT_size {S : WS} (h : ∀ g j, (plainF S g j).length ≤ 1000) (i : Nat) : (plainT S i).size ≤ 1000 := by
  have := h (i + 1) i
  show (plainF S (i + 1) i).toArray.size ≤ 1000
  simpa using this

/-- Where the loop of 'Said' stands. -/
structure Telling (w wr : World) (wb : Nat) (H : Hd) (Z : Nat → Prop) (S : WS) (v : Value) (j : Nat) : Prop where
  web : WebAt wr wb H Z S
  row : wr.ownsRow w.heap.size 9 1 v j (((saidOf S).take j).map Value.string)
  upd : Upd [] w wr
theorem Telling.next {w wr w2 w3 : World} {wb j g cap : Nat} {H : Hd} {Z : Nat → Prop} {S : WS} {v : Value} {t : ByteArray} {X : Obj} (h : Telling w wr wb H Z S v j) (hZ : ∀ k, Z k → k < w.heap.size) (hu2 : Upd [] wr w2) (ht : (saidOf S)[j]? = some t)
    (hown : w3.ownsRow w.heap.size 9 1 (.slice (some ⟨g, 0, none⟩) (j + 1) cap) (j + 1) (((saidOf S).take j).map Value.string ++ [.string t])) (hgrow : (w2.alloc X).grownBy w3 v.ownBlock) : Telling w w3 wb H Z S (.slice (some ⟨g, 0, none⟩) (j + 1) cap) (j + 1) := by
  have U : Upd v.ownBlock.toList wr w3 := ((hu2.alloc X).mono (fun x hx _ => by cases hx)).trans (Upd.of_grown hgrow)
  have hge : ∀ k, v.ownBlock = some k → w.heap.size ≤ k := fun k hk => own_ge h.row hk
  refine ⟨h.web.later U (fun k hk hm => ?_), ?_, h.upd.trans' U (fun x hx hl => ?_)⟩
  · have := hge k (by simpa using hm)
    have := hZ k hk
    omega
  · have hlt := (List.getElem?_eq_some_iff.1 ht).1
    rw [List.getElem?_eq_getElem hlt] at ht
    rw [List.take_succ_eq_append_getElem hlt, Option.some.inj ht, List.map_append]
    exact hown
  · have := hge x (by simpa using hx)
    omega

set_option maxHeartbeats 4000000 in
set_option maxRecDepth 100000 in
theorem webSaid_any (w : World) (wb : Nat) (H : Hd) (Z : Nat → Prop) (S : WS) (h : WebAt w wb H Z S) (hB : Base S) (hZ : ∀ k, Z k → k < w.heap.size) (hn : S.shapes.length ≤ 1000) (hsd : S.said.length ≤ 1000) (htag : ∀ x ∈ S.said, x.1 ≤ 1) (hsm : ∀ g j, (plainF S g j).length ≤ 1000) :
    Calls Tryd.prog 49 #[.pointer (some ⟨wb, 0, none⟩)] w fun e w' => ∃ v, e = .returned v ∧ Upd [] w w' ∧ StrRow w' w.heap.size v (saidOf S) := by
  obtain ⟨i1, hi1, hy0, hy1, hy2⟩ := info_parts info_str
  obtain ⟨w1, hmk, hown1, hgr1⟩ := run_make_own (P := Tryd.prog) w w.heap.size 26 9 i1 _ 1 Tryd.underlying26 hi1 hy0 hy1 .i64 .i64 S.said.length (by rw [hy2]; omega) (by unfold maxLen; omega) (Nat.le_refl _)
  have U1 : Upd [] w w1 := Upd.of_grown hgr1
  obtain ⟨g0, cap0, hv0⟩ := slice_len h.rd
  have c5 := h.c5
  rw [hv0] at c5
  have c5' := (U1.cell (p := ⟨wb, 6, none⟩) h.lt (by simp)).trans c5
  have hstart : Telling w w1 wb H Z S (.slice (some ⟨w.heap.size, 0, none⟩) 0 S.said.length) 0 := ⟨h.later U1 (fun _ _ => by simp), hown1, U1⟩
  have HZ := hide hZ
  have HP := hide (fun (W : World) (hu : Upd [] w W) (i : Nat) (hi : i < S.shapes.length) => plain_any W wb H Z S i (h.later hu (fun _ _ => by simp)) hB (fun k hk => Nat.lt_of_lt_of_le (hZ k hk) hu.size) hi hn hsm)
  have Hsz := hide (fun i => plainT_size hsm i)
  have Hlt := hide hB.saidLt
  have hcl := hB.inv.len
  have Hcl := hide hcl
  have Htag := hide htag
  have Hrd := hide h.rd
  have Hv0 := hide hv0
  have hlt := h.lt
  have HlT : Hid ((saidOf S).length = S.said.length) := by show _ = _; simp [saidOf]
  have Hg0 : Hid (0 < S.said.length → ∃ b, g0 = some ⟨b, 0, none⟩ ∧ b < w.heap.size ∧ S.said.length ≤ cap0 ∧ cap0 ≤ maxLen) := fun hp => by
    rcases ownsRow_slice h.rd with ⟨_, h2⟩ | ⟨g', cap', h1, h2, h3⟩
    · omega
    · have hl := ownsRow_lt h.rd (k := g') (by rw [h1]; rfl)
      rw [hv0] at h1
      cases h1
      exact ⟨g', rfl, hl, h2, h3⟩
  clear h hB hsm hown1 hgr1 hv0 hZ hcl htag
  go_enter Tryd.func49, Tryd.ntmps49
  go_wp2
  go_loopw [3, 17] (fun v i wr => ∃ j : Nat, j ≤ S.said.length ∧ i = .int .i64 j ∧ Hid (Telling w wr wb H Z S v j)) (fun _ i _ => S.said.length - (intOf i).toNat)
  case atStart => exact ⟨0, Nat.zero_le _, rfl, hstart⟩
  case round =>
    obtain ⟨j, hj, rfl, HT⟩ := hrel
    clear hstart hmk c5 c5' U1
    by_cases hjn : j < S.said.length
    · have hjn' : (j : Int) < (S.said.length : Int) := by omega
      obtain ⟨b, rfl, hbl, hc1, hc2⟩ := Hg0.out (by omega)
      obtain ⟨x, hx⟩ : ∃ x, S.said[j]? = some x := ⟨_, List.getElem?_eq_getElem hjn⟩
      have hxm := List.mem_of_getElem? hx
      obtain ⟨l1, l2⟩ := Hlt.out x hxm
      rw [← Hcl.out] at l1 l2
      have ht1 := Htag.out x hxm
      have hrd := Hrd.out
      rw [Hv0.out] at hrd
      obtain ⟨f0, f1, f2⟩ := flatSaid_get hx
      have q0 := (hrd.cellAt (j * 3) (by omega)).trans f0
      have q1 := (hrd.cellAt (j * 3 + 1) (by omega)).trans f1
      have q2 := (hrd.cellAt (j * 3 + 2) (by omega)).trans f2
      have k0 := (HT.out.upd.cell (p := ⟨b, j * 3, none⟩) hbl (by simp)).trans q0
      have k1 := (HT.out.upd.cell (p := ⟨b, j * 3 + 1, none⟩) hbl (by simp)).trans q1
      have k2 := (HT.out.upd.cell (p := ⟨b, j * 3 + 2, none⟩) hbl (by simp)).trans q2
      obtain ⟨W, hW⟩ : ∃ W, W = wr.alloc (.cells #[.int .i64 x.1, .int .i64 x.2.1, .int .i64 x.2.2] 121) := ⟨_, rfl⟩
      have UW : Upd [] wr W := hW ▸ (Upd.refl [] wr).alloc _
      have hWsz : wr.heap.size < W.heap.size := by rw [hW]; simp
      have b0 : W.cell? ⟨wr.heap.size, 0, none⟩ = some (.int .i64 x.1) := by rw [hW]; go_simp
      have b1 : W.cell? ⟨wr.heap.size, 1, none⟩ = some (.int .i64 x.2.1) := by rw [hW]; go_simp
      have b2 : W.cell? ⟨wr.heap.size, 2, none⟩ = some (.int .i64 x.2.2) := by rw [hW]; go_simp
      have Hu0 := hide (HT.out.upd.trans UW)
      have HPl := hide (fun (W' : World) (hu : Upd [] W W') => HP.out W' (Hu0.out.trans hu) x.2.1 l1)
      have HPr := hide (fun (W' : World) (hu : Upd [] W W') => HP.out W' (Hu0.out.trans hu) x.2.2 l2)
      have HSg := hide (fun (W' : World) => signString_any x.1 W' ht1)
      have z1 := Hsz.out x.2.1
      have z2 := Hsz.out x.2.2
      have z3 : (signB (x.1 == 0)).size ≤ 2 := by unfold signB; split <;> decide
      have Hst : Hid ((saidOf S)[j]? = some (plainT S x.2.1 ++ (⟨#[32]⟩ : ByteArray) ++ signB (x.1 == 0) ++ (⟨#[32]⟩ : ByteArray) ++ plainT S x.2.2)) := by
        show _ = _
        unfold saidOf
        rw [List.getElem?_map, hx]
        rfl
      have HK := hide (fun (w3 : World) (hu3 : Upd [] W w3) => (⟨(hu3.cell (p := ⟨wr.heap.size, 0, none⟩) hWsz (by simp)).trans b0, (hu3.cell (p := ⟨wr.heap.size, 1, none⟩) hWsz (by simp)).trans b1, (hu3.cell (p := ⟨wr.heap.size, 2, none⟩) hWsz (by simp)).trans b2⟩ : w3.cell? ⟨wr.heap.size, 0, none⟩ = some (.int .i64 x.1) ∧ w3.cell? ⟨wr.heap.size, 1, none⟩ = some (.int .i64 x.2.1) ∧ w3.cell? ⟨wr.heap.size, 2, none⟩ = some (.int .i64 x.2.2)))
      have HKg : Hid (∀ (w4 w6 : World), Upd [] W w4 → (w4.alloc (.cells #[.string (plainT S x.2.1 ++ (⟨#[32]⟩ : ByteArray) ++ signB (x.1 == 0) ++ (⟨#[32]⟩ : ByteArray) ++ plainT S x.2.2)] 9)).grownBy w6 u3.ownBlock → w6.cell? ⟨wr.heap.size, 0, none⟩ = some (.int .i64 x.1) ∧ w6.cell? ⟨wr.heap.size, 1, none⟩ = some (.int .i64 x.2.1) ∧ w6.cell? ⟨wr.heap.size, 2, none⟩ = some (.int .i64 x.2.2)) := fun w4 w6 hu4 hg => by
        have U : Upd u3.ownBlock.toList W w6 := ((hu4.alloc _).mono (fun x hx _ => by cases hx)).trans (Upd.of_grown hg)
        have hn : wr.heap.size ∉ u3.ownBlock.toList := fun hm => by
          have := ownsRow_lt HT.out.row (by simpa using hm)
          omega
        exact ⟨(U.cell (p := ⟨wr.heap.size, 0, none⟩) hWsz hn).trans b0, (U.cell (p := ⟨wr.heap.size, 1, none⟩) hWsz hn).trans b1, (U.cell (p := ⟨wr.heap.size, 2, none⟩) hWsz hn).trans b2⟩
      have HW := hide hW
      have HUW := hide UW
      unfold maxLen at hc2
      have hcI : (j : Int) < (cap0 : Int) := by omega
      have hlm : j + 1 ≤ maxLen := by unfold maxLen; omega
      have hlb : (j + 1) * 16 ≤ 140737488355328 := by omega
      generalize plainT S x.2.1 = tl at *
      generalize plainT S x.2.2 = tr at *
      generalize signB (x.1 == 0) = ts at *
      have e1 : (⟨#[32]⟩ : ByteArray).size = 1 := rfl
      have hA1 : ∀ w, (Op.stringOp .add tl ⟨#[32]⟩).run Tryd.prog w = .ok (.string (tl ++ ⟨#[32]⟩)) w := fun w => run_string_add_sum w _ _ (by omega)
      have hA2 : ∀ w, (Op.stringOp .add (tl ++ ⟨#[32]⟩) ts).run Tryd.prog w = .ok (.string (tl ++ ⟨#[32]⟩ ++ ts)) w := fun w => run_string_add_sum w _ _ (by simp only [ByteArray.size_append]; omega)
      have hA3 : ∀ w, (Op.stringOp .add (tl ++ ⟨#[32]⟩ ++ ts) ⟨#[32]⟩).run Tryd.prog w = .ok (.string (tl ++ ⟨#[32]⟩ ++ ts ++ ⟨#[32]⟩)) w := fun w => run_string_add_sum w _ _ (by simp only [ByteArray.size_append]; omega)
      have hA4 : ∀ w, (Op.stringOp .add (tl ++ ⟨#[32]⟩ ++ ts ++ ⟨#[32]⟩) tr).run Tryd.prog w = .ok (.string (tl ++ ⟨#[32]⟩ ++ ts ++ ⟨#[32]⟩ ++ tr)) w := fun w => run_string_add_sum w _ _ (by simp only [ByteArray.size_append]; omega)
      clear e1
      have hone : ∀ u ∈ [Value.string (tl ++ (⟨#[32]⟩ : ByteArray) ++ ts ++ (⟨#[32]⟩ : ByteArray) ++ tr)], u.oneCell' = true := by intro u hu'; simp at hu'; subst hu'; rfl
      have HR : Hid (∀ (w4 : World) (hu : Upd [] W w4), (w4.alloc (.cells #[.string (tl ++ (⟨#[32]⟩ : ByteArray) ++ ts ++ (⟨#[32]⟩ : ByteArray) ++ tr)] 9)).ownsRow w.heap.size 9 1 u3 j (((saidOf S).take j).map Value.string) ∧ w.heap.size ≤ (w4.alloc (.cells #[.string (tl ++ (⟨#[32]⟩ : ByteArray) ++ ts ++ (⟨#[32]⟩ : ByteArray) ++ tr)] 9)).heap.size) := fun w4 hu => ⟨((UW.trans hu).alloc _).ownsRow HT.out.row (fun _ _ => by simp), Nat.le_trans Hu0.out.size (hu.alloc _).size⟩
      clear hx hxm l1 l2 ht1 hrd f0 f1 f2 q0 q1 q2 hW UW Hrd Hv0 Hlt Hcl Htag HP Hsz Hg0
      go_upto_region 5 with (fail)
      rw [← HW.out]
      clear k0 k1 k2
      go_region_held3 (fun w' => w'.cell? ⟨wr.heap.size, 0, none⟩ = some (.int .i64 x.1) ∧ w'.cell? ⟨wr.heap.size, 1, none⟩ = some (.int .i64 x.2.1) ∧ w'.cell? ⟨wr.heap.size, 2, none⟩ = some (.int .i64 x.2.2)) ((first | go_keep | (refine ⟨?_, ?_, ?_⟩ <;> go_simp)))
        (first
          | (refine step_append_lies _ (by rfl) _ _ 26 (by rfl) w.heap.size 9 i1 (.string ⟨#[]⟩) 1 16 Tryd.underlying26 hi1 hy0 hy1 hy2 (by rfl) (by decide) u3 j (((saidOf S).take j).map Value.string) (by rfl) hrow4 ⟨w4.heap.size, 0, none⟩ 1 1 [.string (tl ++ (⟨#[32]⟩ : ByteArray) ++ ts ++ (⟨#[32]⟩ : ByteArray) ++ tr)] (by rfl) (by rfl) hnews4 hone (by decide) hlm hlb hbase4 _ (by rfl) ?_; intro g6 cap6 w6 hown6 hgrow6 hat6 hlt6; obtain ⟨x0, x1, x2⟩ := HKg.out w4 w6 Hu4.out hgrow6)
          | (go_at_call_of 65 (Value.int .i64 x.2.1); refine (HPl.out _ (Upd.refl [] W).drew).mono ?_; rintro e w3 ⟨rfl, hu3⟩; have Hu3 := hide ((Upd.refl [] W).drew.trans hu3); obtain ⟨y0, y1, y2⟩ := HK.out w3 Hu3.out; clear hu3)
          | (go_at_call 66; refine (HSg.out _).mono ?_; rintro e w9 ⟨rfl, hw9⟩; rw [hw9]; clear hw9 w9)
          | (go_at_call_of 65 (Value.int .i64 x.2.2); refine (HPr.out _ Hu3.out).mono ?_; rintro e w4 ⟨rfl, hu4⟩; have Hu4 := hide (Hu3.out.trans hu4); obtain ⟨x0, x1, x2⟩ := HK.out w4 Hu4.out; obtain ⟨hrow4, hbase4⟩ := HR.out w4 Hu4.out; have hnews4 := World.news_of_block (heap_alloc_new w4 (.cells #[.string (tl ++ (⟨#[32]⟩ : ByteArray) ++ ts ++ (⟨#[32]⟩ : ByteArray) ++ tr)] 9)); clear hu4))
      go_wp2
      refine ⟨⟨j + 1, by omega, by go_num, ?_⟩, by simp [intOf]; omega⟩
      exact HT.out.next HZ.out (HUW.out.trans Hu4.out) Hst.out hown6 hgrow6
    · obtain rfl : j = S.said.length := by omega
      have hge : ¬ ((S.said.length : Nat) : Int) < (S.said.length : Int) := by omega
      have HF : Hid (StrRow wr w.heap.size u3 (saidOf S)) := by
        show World.ownsRow _ _ _ _ _ (saidOf S).length ((saidOf S).map Value.string)
        have := HT.out.row
        rw [List.take_of_length_le (by rw [HlT.out]; exact Nat.le_refl _)] at this
        rw [HlT.out]
        exact this
      have Hu := hide HT.out.upd
      clear HT HP Hg0 Hrd Hv0
      go_wp2
      go_ret
      exact ⟨_, rfl, Hu.out, HF.out⟩
end Go.Proofs.YtmfkpllnmmfpiaaDoor
