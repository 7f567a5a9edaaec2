/-
  'Chains', walked: it answers true.
-/
import Derived.Test.YtmfkpllnmmfpiaaDoorChainHeapH
import Derived.Deep.DeepMust
import Derived.Deep.CutBlock
namespace Go.Proofs.YtmfkpllnmmfpiaaDoor
open Go.RowKit

theorem info_ints : (Tryd.prog.info? 29).map (fun i => (i.zero, i.size, i.bytes)) = some (some (.slice none 0 0), 1, 24) := by kernel_rfl

/-- Numbers that came in. -/
structure RawAt (w : World) (ao : Option Addr) (zs : List Int) : Prop where
  cells : ∀ i, i < zs.length → ∃ b off, ao = some ⟨b, off, none⟩ ∧ w.cell? ⟨b, off + i, none⟩ = some (.int .i64 (zs.getD i 0))
  fits : ∀ i, -9223372036854775808 ≤ zs.getD i 0 ∧ zs.getD i 0 ≤ 9223372036854775807

/-- What holds at each round's head. -/
def ChRel (w wr : World) (bb A : Nat) (v : Value) (j : Nat) : Prop :=
  ∃ Z F C L S, L.length = j ∧ Least C (eqsOf L) ∧ ThWeb S L (2 * L.length) ∧ MemAt w wr bb A Z F v C (apOf L) S

theorem sentT_true (x y : Nat) : nT x ++ (⟨#[32, 61, 32]⟩ : ByteArray) ++ nT y = sentT x true y := rfl
theorem sentT_false (x y : Nat) : nT x ++ (⟨#[32, 33, 61, 32]⟩ : ByteArray) ++ nT y = sentT x false y := rfl
theorem nT_size (x : Nat) : (nT x).size = 2 := rfl
theorem pick_small {x : Nat} (h : x < 10) : pickZ (x : Int) 10 = (x : Int) := by
  unfold pickZ
  rw [if_neg (by omega)]
  omega
theorem thing_small (x : Nat) (h : x < 10) (w : World) : Calls Tryd.prog 15 #[.int .i64 x] w fun e w' => e = .returned (.string (nT x)) ∧ Upd [] w w' :=
  thing_any x x w (by omega) (by omega) (pick_small h)

/-- A sentence told: the number is the round's, and all goes on. -/
theorem ch_tell {w wk w' : World} {bb A j x y : Nat} {b : Bool} {Z F : Nat → Prop} {v : Value} {C : Nat → Nat} {L : List (Nat × Nat × Nat)} {S : WS} (hj : L.length = j) (hT : ThWeb S L (2 * L.length)) (hx : x < 10) (hy : y < 10) (hj2 : j < 20)
    (hC : Least C (eqsOf (L ++ [(tagOf b, x, y)]))) (hM : MemAt w wk bb A Z F v C (apOf (L ++ [(tagOf b, x, y)])) S)
    (hb : BookAt w' bb (fun k => (Z k ∨ wk.heap.size ≤ k) ∧ k < w'.heap.size) (sayOf S (sentT x b y)).2) (hL : ∃ l, (∀ k ∈ l, Z k) ∧ Upd l wk w') : ChRel w w' bb A v (j + 1) := by
  obtain ⟨_, hT'⟩ := hT.sayOf hx hy b (by omega) (by omega)
  exact ⟨_, F, C, L ++ [(tagOf b, x, y)], _, by simp [hj], hC, by simpa [Nat.mul_add] using hT', hM.tell hb hL⟩
theorem tdiv_fits {z : Int} {d : Int} (h : -9223372036854775808 ≤ z ∧ z ≤ 9223372036854775807) (hd : 0 < d) : -9223372036854775808 ≤ z.tdiv d ∧ z.tdiv d ≤ 9223372036854775807 := by
  have h1 : (z.tdiv d).natAbs ≤ z.natAbs := by
    rw [Int.natAbs_tdiv]
    exact Nat.div_le_self _ _
  by_cases h2 : 0 ≤ z
  · have h3 := Int.tdiv_nonneg h2 (by omega : 0 ≤ d)
    omega
  · have h3 : z.tdiv d ≤ 0 := by
      have := Int.tdiv_nonneg (a := -z) (b := d) (by omega) (by omega)
      rw [Int.neg_tdiv] at this
      omega
    omega
theorem sent_size (x : Nat) (b : Bool) (y : Nat) : (sentT x b y).size ≤ maxLen := by
  unfold sentT
  simp only [ByteArray.size_append, nT_size]
  cases b
  · show 2 + 4 + 2 ≤ _; simp [maxLen]
  · show 2 + 3 + 2 ≤ _; simp [maxLen]

theorem any_take_succ {α : Type} (l : List α) (f : α → Bool) (q : Nat) (h : q < l.length) : (l.take (q + 1)).any f = ((l.take q).any f || f l[q]) := by
  rw [List.take_succ_eq_append_getElem h, List.any_append]
  simp
theorem nat_beq_int (a b : Nat) : ((a : Int) == (b : Int)) = (a == b) := by
  by_cases h : a = b
  · subst h; simp
  · have h' : ¬ (a : Int) = (b : Int) := by omega
    rw [beq_eq_false_iff_ne.2 h, beq_eq_false_iff_ne.2 h']
theorem pick_ten (c : Int) : ∃ x : Nat, x < 10 ∧ pickZ c 10 = (x : Int) := by
  have h := pickZ_lt (c := c) (n := 10) (by omega)
  exact ⟨(pickZ c 10).toNat, by omega, by omega⟩
theorem splitOf_at (C : Nat → Nat) (x y : Nat) (e : Nat × Nat) : splitOf C x y e = ((C e.1 == x && C e.2 == y) || (C e.1 == y && C e.2 == x)) := rfl
/-- A pair in the list, in memory. -/
theorem ApAt.get {w : World} {B : Nat} {F : Nat → Prop} {gr : Option Addr} {cap n : Nat} {ap : List (Nat × Nat)} (h : ApAt w B F (.slice gr n cap) ap) {q : Nat} (hq : q < ap.length) : ∃ b g, gr = some ⟨b, 0, none⟩ ∧ w.cell? ⟨b, q, none⟩ = some (.slice (some ⟨g, 0, none⟩) 2 2) ∧ w.cell? ⟨g, 0, none⟩ = some (.int .i64 ap[q].1) ∧ w.cell? ⟨g, 1, none⟩ = some (.int .i64 ap[q].2) := by
  obtain ⟨cs, h1, _, h3⟩ := h
  obtain ⟨c, hc, g, _, _, rfl, g4, g5⟩ := h3.get (i := q) (List.getElem?_eq_getElem hq)
  rcases ownsRow_slice h1 with ⟨_, hl⟩ | ⟨b, cap', e, _, _⟩
  · omega
  · cases e
    have := h1.cellAt q (by omega)
    rw [hc] at this
    exact ⟨b, g, rfl, this, g4, g5⟩
theorem ThWeb.ap_lt {S : WS} {L : List (Nat × Nat × Nat)} {sz : Nat} (h : ThWeb S L sz) {e : Nat × Nat} (he : e ∈ apOf L) : e.1 < 10 ∧ e.2 < 10 := by
  unfold apOf at he
  simp only [List.mem_map, List.mem_filter] at he
  obtain ⟨a, ⟨ha, _⟩, rfl⟩ := he
  obtain ⟨x, _, _, h2, h3⟩ := h.said.right a ha
  exact ⟨h2.1, h3.1⟩

set_option maxHeartbeats 8000000 in
set_option maxRecDepth 100000 in
theorem chains_any (ao : Option Addr) (zs : List Int) (cap : Nat) (a c : Int) (w : World) (hE : ErrTab w) (hR : RawAt w ao zs) (ha0 : -9223372036854775808 ≤ a) (ha1 : a ≤ 9223372036854775807) (hc0 : -9223372036854775808 ≤ c) (hc1 : c ≤ 9223372036854775807) :
    Calls Tryd.prog 4 #[.slice ao zs.length cap, .int .i64 a, .int .i64 c] w fun e w' => e = .returned (.bool true) ∧ Upd [] w w' := by
  have HOp := hide (opened_any w hE)
  have h0 := hE.1
  have HE := hide hE
  have HR := hide hR
  clear hE hR
  go_enter Tryd.func4, Tryd.ntmps4
  go_upto_region 4 with (go_at_call 12; refine HOp.out.mono ?_; rintro e w1 ⟨bb, rfl, hb1, hu1⟩; have Hb1 := hide hb1; have Hu1 := hide hu1; clear hb1 hu1)
  clear HOp
  have hs1 := Hu1.out.size
  have hstart : MemAt w (w1.alloc (.cells #[.int .i64 0, .int .i64 0, .int .i64 0, .int .i64 0, .int .i64 0, .int .i64 0, .int .i64 0, .int .i64 0, .int .i64 0, .int .i64 0] 32)) bb w1.heap.size (fun k => w.heap.size ≤ k ∧ k < w1.heap.size) (fun _ => False) (.slice none 0 0) (fun k => if k < 0 then k else 0) [] noWS := by
    have U := (Upd.refl [] w1).alloc (.cells #[.int .i64 0, .int .i64 0, .int .i64 0, .int .i64 0, .int .i64 0, .int .i64 0, .int .i64 0, .int .i64 0, .int .i64 0, .int .i64 0] 32)
    have hcell := fun j => cell_new_row (w := w1) (e := 32) (j := j) (arr := #[.int .i64 0, .int .i64 0, .int .i64 0, .int .i64 0, .int .i64 0, .int .i64 0, .int .i64 0, .int .i64 0, .int .i64 0, .int .i64 0])
    refine ⟨(HE.out.later Hu1.out (by simp)).later U (by simp), Hb1.out.later U (fun _ _ => by simp), ⟨by simp, fun j hj => ?_, fun o => (hcell o).2⟩, ⟨[], World.ownsRow_nil _ _ _ _, fun k hk => by simp [Value.ownBlock] at hk, trivial⟩, fun k hk => ⟨hk.1, by omega, fun h => h⟩, fun k hk => hk.elim, hs1, Hu1.out.trans U, h0⟩
    rw [(hcell j).1]
    match j, hj with
    | 0, _ => rfl
    | 1, _ => rfl
    | 2, _ => rfl
    | 3, _ => rfl
    | 4, _ => rfl
    | 5, _ => rfl
    | 6, _ => rfl
    | 7, _ => rfl
    | 8, _ => rfl
    | 9, _ => rfl
    | j + 10, hj => omega
  clear Hb1 HE
  go_wp2
  generalize w1.alloc (.cells #[.int .i64 0, .int .i64 0, .int .i64 0, .int .i64 0, .int .i64 0, .int .i64 0, .int .i64 0, .int .i64 0, .int .i64 0, .int .i64 0] 32) = W1 at hstart ⊢
  generalize w1.heap.size = A at *
  go_loopw [9] (fun i wr => ∃ j : Nat, j ≤ 10 ∧ i = .int .i64 j ∧ Hid (MemAt w wr bb A (fun k => w.heap.size ≤ k ∧ k < A) (fun _ => False) (.slice none 0 0) (fun k => if k < j then k else 0) [] noWS)) (fun i _ => 10 - (intOf i).toNat)
  case atStart => exact ⟨0, by omega, rfl, hstart⟩
  case round =>
    obtain ⟨j, hj, rfl, HM⟩ := hrel
    clear hstart
    by_cases hj10 : j < 10
    · have hj10' : (j : Int) < 10 := by omega
      have hcj := HM.out.arr.cell j hj10
      have hfj := HM.out.arr.free
      have HN := hide (HM.out.set (i := j) (x := j) hj10)
      go_wp2
      refine ⟨⟨j + 1, by omega, by go_num, ?_⟩, by simp [intOf]; omega⟩
      refine HN.out.same fun k hk => ?_
      by_cases e : k = j
      · subst e; simp
      · by_cases e2 : k < j
        · simp [e, e2, Nat.lt_succ_of_lt e2]
        · have e3 : ¬ k < j + 1 := by omega
          simp [e, e2, e3]
    · obtain rfl : j = 10 := by omega
      have hge : ¬ (10 : Int) < 10 := by omega
      have hC : ChRel w wr bb A (.slice none 0 0) 0 := ⟨_, _, fun k => k, [], noWS, rfl, Least.nil, ThWeb.none, HM.out.same fun k hk => by rw [if_pos hk]⟩
      clear HM
      go_upto_block 2 with (fail)
      go_cut [10] (fun v wx => ∃ j : Nat, j ≤ 20 ∧ Hid (ChRel w wx bb A v j))
      case first =>
        go_wp2_with fail
        go_loopw [10, 11] (fun v i wr => ∃ j : Nat, j ≤ 20 ∧ i = .int .i64 j ∧ Hid (ChRel w wr bb A v j)) (fun _ i _ => 20 - (intOf i).toNat)
        case atStart => exact ⟨0, by omega, rfl, hC⟩
        case round =>
          obtain ⟨j, hj, rfl, HC⟩ := hrel
          clear hC hge
          by_cases hgo : j < zs.length ∧ j < 20
          · have hg1 : (j : Int) < (zs.length : Int) := by omega
            have hg2 : (j : Int) < 20 := by omega
            obtain ⟨Z, F, C, L, S, hLj, hCl, hT, hM⟩ := HC.out
            clear HC
            obtain ⟨rb, ro, rfl, hz⟩ := HR.out.cells j hgo.1
            have hzf := HR.out.fits j
            have hrl : rb < w.heap.size := World.block_lt_of_cell? _ _ hz
            have hzr : wr.cell? ⟨rb, ro + j, none⟩ = some (.int .i64 (zs.getD j 0)) := (hM.upd.cell (p := ⟨rb, ro + j, none⟩) hrl (by simp)).trans hz
            generalize zs.getD j 0 = z at *
            have hz10 : -9223372036854775808 ≤ z.tdiv 10 ∧ z.tdiv 10 ≤ 9223372036854775807 := tdiv_fits hzf (by omega)
            have hz100 : -9223372036854775808 ≤ z.tdiv 100 ∧ z.tdiv 100 ≤ 9223372036854775807 := tdiv_fits hzf (by omega)
            obtain ⟨x, hx, Px⟩ := pick_nat z 10 hzf.1 hzf.2 (by omega) (by omega)
            obtain ⟨y, hy, Py⟩ := pick_nat (z.tdiv 10) 10 hz10.1 hz10.2 (by omega) (by omega)
            obtain ⟨t, ht, Pt⟩ := pick_nat (z.tdiv 100) 4 hz100.1 hz100.2 (by omega) (by omega)
            have HPx : Hid (∀ w, Calls Tryd.prog 13 #[.int .i64 z, .int .i64 10] w fun e w' => e = .returned (.int .i64 (x : Int)) ∧ w' = w) := Px
            have HPy : Hid (∀ w, Calls Tryd.prog 13 #[.int .i64 (z.tdiv 10), .int .i64 10] w fun e w' => e = .returned (.int .i64 (y : Int)) ∧ w' = w) := Py
            have HPt : Hid (∀ w, Calls Tryd.prog 13 #[.int .i64 (z.tdiv 100), .int .i64 4] w fun e w' => e = .returned (.int .i64 (t : Int)) ∧ w' = w) := Pt
            have HTx := hide (fun w' => thing_small x hx w')
            have HTy := hide (fun w' => thing_small y hy w')
            have zx := nT_size x
            have zy := nT_size y
            have HLj := hide hLj
            have HCl := hide hCl
            have HT := hide hT
            clear Px Py Pt hz
            by_cases ht0 : t = 0
            · subst ht0
              obtain ⟨cs, hrow, hvF, hall⟩ := hM.ap
              obtain ⟨g0, cap0, hv0⟩ := slice_len hrow
              subst hv0
              obtain ⟨i0, hi, hz0, hz1, hz2⟩ := info_parts info_ints
              have hap : (apOf L).length ≤ 20 := by
                have h1 : (apOf L).length ≤ L.length := by unfold apOf; rw [List.length_map]; exact List.length_filter_le _ _
                omega
              have hM0 := hM
              have HM := hide hM
              have Hall := hide hall
              have HvF := hide hvF
              have hsz := hM.upd.size
              have hrow1 := (((Upd.refl [] wr).alloc (.cells #[.int .i64 x, .int .i64 y] 3)).alloc (.cells #[.slice (some ⟨wr.heap.size, 0, none⟩) 2 2] 29)).ownsRow hrow (fun _ _ => by simp)
              have hnews : ∀ (j : Nat) u, ([.slice (some ⟨wr.heap.size, 0, none⟩) 2 2] : List Value)[j]? = some u → ((wr.alloc (.cells #[.int .i64 x, .int .i64 y] 3)).alloc (.cells #[.slice (some ⟨wr.heap.size, 0, none⟩) 2 2] 29)).cell? ((⟨wr.heap.size + 1, 0, none⟩ : Addr).add j) = some u := fun j u hu => by
                have hj0 : j = 0 := by
                  have := (List.getElem?_eq_some_iff.1 hu).1
                  simp at this
                  exact this
                subst hj0
                simp at hu
                subst hu
                rw [Addr.add_lit]
                simp
              have hone : ∀ u ∈ ([.slice (some ⟨wr.heap.size, 0, none⟩) 2 2] : List Value), u.oneCell' = true := fun u hu => by
                simp at hu
                subst hu
                rfl
              have hlm : (apOf L).length + 1 ≤ maxLen := by unfold maxLen; omega
              have hlb : ((apOf L).length + 1) * 24 ≤ 140737488355328 := by omega
              have hbase : w.heap.size ≤ ((wr.alloc (.cells #[.int .i64 x, .int .i64 y] 3)).alloc (.cells #[.slice (some ⟨wr.heap.size, 0, none⟩) 2 2] 29)).heap.size := by simp; omega
              have HSay := hide (fun (w5 : World) (F5 : Nat → Prop) (v5 : Value) (h : MemAt w w5 bb A Z F5 v5 C (apOf L ++ [(x, y)]) S) => say_any (sentT x false y) w5 bb Z S (sent_size x false y) h.book h.err)
              rw [(hT.sayOf hx hy false (by omega) (by omega)).1, hLj] at HSay
              simp only [Int.natCast_zero] at HSay
              generalize hS6 : (sayOf S (sentT x false y)).2 = S6 at HSay
              have HS6 := hide hS6
              clear hS6
              rw [← sentT_false] at HSay
              clear hM hM0 hrow hvF hall hLj hCl hT
              generalize nT x = tx at *
              generalize nT y = ty at *
              have y1 : tx.size ≤ 10 := by omega
              have y2 : ty.size ≤ 10 := by omega
              clear zx zy
              go_upto_region 14 with (go_at_call 13; refine (HPx.out _).mono ?_; rintro e w9 ⟨rfl, hw9⟩; rw [hw9]; clear hw9 w9)
              go_upto_region 16 with (go_at_call 13; refine (HPy.out _).mono ?_; rintro e w9 ⟨rfl, hw9⟩; rw [hw9]; clear hw9 w9)
              go_upto_region 25 with (first
                | (go_at_call 13; refine (HPt.out _).mono ?_; rintro e w9 ⟨rfl, hw9⟩; rw [hw9]; clear hw9 w9)
                | (at_builtin; go_must (refine wpList_append_lies _ rfl _ _ 33 rfl w.heap.size 29 i0 (.slice none 0 0) 1 24 Tryd.underlying33 hi hz0 hz1 hz2 rfl (by decide) _ _ _ rfl hrow1 ⟨wr.heap.size + 1, 0, none⟩ 1 1 [.slice (some ⟨wr.heap.size, 0, none⟩) 2 2] rfl rfl hnews hone (by decide) hlm hlb hbase _ rfl ?_); intro g1 cap1 w3 hown3 hgrow3 hat3 hlt3))
              clear HPx HPy HPt
              have HM3 := hide (HM.out.put Hall.out HvF.out hgrow3 hat3 hown3)
              clear hown3 hgrow3 hat3 hlt3 HM Hall HvF hrow1 hnews hone hlm hlb hbase hi hz0 hz1 hz2
              go_wp2_with (first
                | (go_at_call_of 15 (Value.int .i64 x); refine (HTx.out _).mono ?_; rintro e w4 ⟨rfl, hu4⟩; have HM4 := hide (HM3.out.grow hu4); clear hu4)
                | (go_at_call_of 15 (Value.int .i64 y); refine (HTy.out _).mono ?_; rintro e w5 ⟨rfl, hu5⟩; have HM5 := hide (HM4.out.grow hu5); clear hu5)
                | (go_at_call 14; refine (HSay.out w5 _ _ HM5.out).mono ?_; rintro e w6 ⟨rfl, hb6, hL6⟩; have Hb6 := hide hb6; have HL6 := hide hL6; clear hb6 hL6))
              refine ⟨⟨j + 1, by omega, by go_num, ?_⟩, by simp [intOf]; omega⟩
              exact ch_tell (b := false) HLj.out HT.out hx hy hgo.2 (by rw [eqsOf_snoc]; exact HCl.out) (by rw [apOf_snoc]; exact HM5.out) (by rw [HS6.out]; exact Hb6.out) HL6.out
            · have ht0' : ((t : Int) == 0) = false := by simp; omega
              have HSay := hide (fun (w5 : World) (C5 : Nat → Nat) (v5 : Value) (h : MemAt w w5 bb A Z F v5 C5 (apOf L) S) => say_any (sentT x true y) w5 bb Z S (sent_size x true y) h.book h.err)
              rw [(hT.sayOf hx hy true (by omega) (by omega)).1, hLj] at HSay
              simp only [Int.natCast_zero] at HSay
              generalize hS6 : (sayOf S (sentT x true y)).2 = S6 at HSay
              have HS6 := hide hS6
              clear hS6
              rw [← sentT_true] at HSay
              have hcx := hM.arr.cell x hx
              have HM := hide hM
              have hx' : (x : Int) < 10 := by omega
              have hy' : (y : Int) < 10 := by omega
              clear hM hLj hCl hT ht0
              generalize nT x = tx at *
              generalize nT y = ty at *
              have y1 : tx.size ≤ 10 := by omega
              have y2 : ty.size ≤ 10 := by omega
              clear zx zy
              go_upto_region 14 with (go_at_call 13; refine (HPx.out _).mono ?_; rintro e w9 ⟨rfl, hw9⟩; rw [hw9]; clear hw9 w9)
              go_upto_region 16 with (go_at_call 13; refine (HPy.out _).mono ?_; rintro e w9 ⟨rfl, hw9⟩; rw [hw9]; clear hw9 w9)
              go_wp2_with (go_at_call 13; refine (HPt.out _).mono ?_; rintro e w9 ⟨rfl, hw9⟩; rw [hw9]; clear hw9 w9)
              clear HPx HPy HPt
              go_loopw [16] (fun k wr2 => ∃ q : Nat, q ≤ 10 ∧ k = .int .i64 q ∧ Hid (MemAt w wr2 bb A Z F u10 (fun j => if j < q ∧ C j = C x then C y else C j) (apOf L) S)) (fun k _ => 10 - (intOf k).toNat)
              case atStart => exact ⟨0, by omega, rfl, HM.out.same fun j _ => by rw [if_neg (fun h => by omega)]⟩
              case round =>
                obtain ⟨q, hq, rfl, HQ⟩ := hrel
                clear HM hcx hzr
                by_cases hq10 : q < 10
                · have hq10' : (q : Int) < 10 := by omega
                  have hcq := HQ.out.arr.cell q hq10
                  rw [if_neg (fun h => by omega)] at hcq
                  have hcy := HQ.out.arr.cell y hy
                  rw [show (if y < q ∧ C y = C x then C y else C y) = C y by split <;> rfl] at hcy
                  have hfr := HQ.out.arr.free
                  by_cases he : C q = C x
                  · have he' : ((C q : Int) == (C x : Int)) = true := by simp; omega
                    have HN := hide (HQ.out.set (i := q) (x := C y) hq10)
                    have He := hide he
                    clear he
                    go_wp2
                    refine ⟨⟨q + 1, by omega, by go_num, ?_⟩, by simp [intOf]; omega⟩
                    refine HN.out.same fun k hk => ?_
                    by_cases e : k = q
                    · subst e
                      rw [if_pos rfl, if_pos ⟨by omega, He.out⟩]
                    · rw [if_neg e]
                      by_cases e2 : k < q
                      · have e3 : k < q + 1 := by omega
                        simp [e2, e3]
                      · have e3 : ¬ k < q + 1 := by omega
                        simp [e2, e3]
                  · have he' : ((C q : Int) == (C x : Int)) = false := by simp; omega
                    have He := hide he
                    clear he
                    go_wp2
                    refine ⟨⟨q + 1, by omega, by go_num, ?_⟩, by simp [intOf]; omega⟩
                    refine HQ.out.same fun k hk => ?_
                    by_cases e : k = q
                    · subst e
                      rw [if_neg (fun h => He.out h.2), if_neg (fun h => by omega)]
                    · by_cases e2 : k < q
                      · have e3 : k < q + 1 := by omega
                        simp [e2, e3]
                      · have e3 : ¬ k < q + 1 := by omega
                        simp [e2, e3]
                · obtain rfl : q = 10 := by omega
                  have hge : ¬ (10 : Int) < 10 := by omega
                  have HM3 := hide (HQ.out.same (C' := fun k => if C k = C x then C y else C k) fun k hk => by simp [hk])
                  clear HQ
                  go_wp2_with (first
                    | (go_at_call_of 15 (Value.int .i64 x); refine (HTx.out _).mono ?_; rintro e w4 ⟨rfl, hu4⟩; have HM4 := hide (HM3.out.grow hu4); clear hu4)
                    | (go_at_call_of 15 (Value.int .i64 y); refine (HTy.out _).mono ?_; rintro e w5 ⟨rfl, hu5⟩; have HM5 := hide (HM4.out.grow hu5); clear hu5)
                    | (go_at_call 14; refine (HSay.out w5 _ _ HM5.out).mono ?_; rintro e w6 ⟨rfl, hb6, hL6⟩; have Hb6 := hide hb6; have HL6 := hide hL6; clear hb6 hL6))
                  refine ⟨⟨j + 1, by omega, by go_num, ?_⟩, by simp [intOf]; omega⟩
                  exact ch_tell (b := true) HLj.out HT.out hx hy hgo.2 (by rw [eqsOf_snoc]; exact HCl.out.step x y) (by rw [apOf_snoc]; exact HM5.out) (by rw [HS6.out]; exact Hb6.out) HL6.out
          · by_cases hjl : j < zs.length
            · have hg1 : (j : Int) < (zs.length : Int) := by omega
              have hg2 : ¬ (j : Int) < 20 := by omega
              go_wp2_with fail
              go_meet
              case rel => exact ⟨j, hj, HC⟩
            · have hg1 : ¬ (j : Int) < (zs.length : Int) := by omega
              go_wp2_with fail
              go_meet
              case rel => exact ⟨j, hj, HC⟩
      case rest =>
        obtain ⟨j, hj, HC⟩ := hcut
        obtain ⟨Z, F, C, L, S, hLj, hCl, hT, hM⟩ := HC.out
        clear HC
        obtain ⟨xa, hxa, hpa⟩ := pick_ten a
        obtain ⟨xc, hxc, hpc⟩ := pick_ten c
        have Pa := fun w' => pick_any a 10 w' ha0 ha1 (by omega) (by omega)
        have Pc := fun w' => pick_any c 10 w' hc0 hc1 (by omega) (by omega)
        rw [hpa] at Pa
        rw [hpc] at Pc
        have HTa := hide (fun w' => thing_any a xa w' ha0 ha1 hpa)
        have HTc := hide (fun w' => thing_any c xc w' hc0 hc1 hpc)
        clear hpa hpc
        have HPa : Hid (∀ w, Calls Tryd.prog 13 #[.int .i64 a, .int .i64 10] w fun e w' => e = .returned (.int .i64 (xa : Int)) ∧ w' = w) := Pa
        have HPc : Hid (∀ w, Calls Tryd.prog 13 #[.int .i64 c, .int .i64 10] w fun e w' => e = .returned (.int .i64 (xc : Int)) ∧ w' = w) := Pc
        have hxa' : (xa : Int) < 10 := by omega
        have hxc' : (xc : Int) < 10 := by omega
        have hca := hM.arr.cell xa hxa
        have hcc := hM.arr.cell xc hxc
        obtain ⟨g0, cap0, hv0⟩ : ∃ (g : Option Addr) (cap : Nat), u10 = .slice g (apOf L).length cap := by obtain ⟨cs, h1, _, _⟩ := hM.ap; exact slice_len h1
        subst hv0
        have HM := hide hM
        have HT := hide hT
        have HCl := hide hCl
        have HLj := hide hLj
        have hapl : (apOf L).length ≤ 20 := by
          have h1 : (apOf L).length ≤ L.length := by unfold apOf; rw [List.length_map]; exact List.length_filter_le _ _
          omega
        clear hM hT hCl hLj Pa Pc
        go_upto_region 31 with (go_at_call 13; refine (HPa.out _).mono ?_; rintro e w9 ⟨rfl, hw9⟩; rw [hw9]; clear hw9 w9)
        go_wp2_with (go_at_call 13; refine (HPc.out _).mono ?_; rintro e w9 ⟨rfl, hw9⟩; rw [hw9]; clear hw9 w9)
        clear hca hcc
        go_loop [20, 21, 24] (fun x1 x2 i => ∃ q : Nat, q ≤ (apOf L).length ∧ i = .int .i64 q ∧ x1 = .bool (((apOf L).take q).any (fun e => C e.1 == C e.2)) ∧ x2 = .bool (((apOf L).take q).any (splitOf C (C xa) (C xc)))) (fun _ _ i => (apOf L).length - (intOf i).toNat)
        case atStart => exact ⟨0, by omega, rfl, rfl, rfl⟩
        case round =>
          obtain ⟨q, hq, rfl, rfl, rfl⟩ := hrel
          by_cases hqn : q < (apOf L).length
          · have hqn' : (q : Int) < ((apOf L).length : Int) := by omega
            obtain ⟨gb, gi, rfl, m0, m1, m2⟩ := HM.out.ap.get hqn
            obtain ⟨l1, l2⟩ := HT.out.ap_lt (List.getElem_mem hqn)
            have n1 := HM.out.arr.cell _ l1
            have n2 := HM.out.arr.cell _ l2
            have Hn1 := hide (any_take_succ (apOf L) (fun e => C e.1 == C e.2) q hqn)
            have Hn2 := hide (any_take_succ (apOf L) (splitOf C (C xa) (C xc)) q hqn)
            generalize ((apOf L).take q).any (fun e => C e.1 == C e.2) = b1 at *
            generalize ((apOf L).take q).any (splitOf C (C xa) (C xc)) = b2 at *
            rw [splitOf_at] at Hn2
            generalize (apOf L)[q] = e at *
            obtain ⟨p1, p2⟩ := e
            simp only at m1 m2 l1 l2 n1 n2 Hn1 Hn2
            have k1 := nat_beq_int (C p1) (C p2)
            have k2 := nat_beq_int (C p1) (C xa)
            have k3 := nat_beq_int (C p2) (C xc)
            have k4 := nat_beq_int (C p1) (C xc)
            have k5 := nat_beq_int (C p2) (C xa)
            generalize (C p1 == C p2) = e1 at *
            generalize (C p1 == C xa) = e2 at *
            generalize (C p2 == C xc) = e3 at *
            generalize (C p1 == C xc) = e4 at *
            generalize (C p2 == C xa) = e5 at *
            have l1' : (p1 : Int) < 10 := by omega
            have l2' : (p2 : Int) < 10 := by omega
            cases b1 with
            | true =>
              cases b2 with
              | true =>
                go_wp2
                refine ⟨⟨q + 1, by omega, by go_num, ?_, ?_⟩, by simp [intOf]; omega⟩
                · rw [Hn1.out]; simp
                · rw [Hn2.out]; simp
              | false =>
                cases e2 with
                | true =>
                  cases e3 with
                  | true =>
                    go_wp2
                    refine ⟨⟨q + 1, by omega, by go_num, ?_, ?_⟩, by simp [intOf]; omega⟩
                    · rw [Hn1.out]; simp
                    · rw [Hn2.out]; simp
                  | false =>
                    cases e4 with
                    | true =>
                      cases e5 with
                      | true =>
                        go_wp2
                        refine ⟨⟨q + 1, by omega, by go_num, ?_, ?_⟩, by simp [intOf]; omega⟩
                        · rw [Hn1.out]; simp
                        · rw [Hn2.out]; simp
                      | false =>
                        go_wp2
                        refine ⟨⟨q + 1, by omega, by go_num, ?_, ?_⟩, by simp [intOf]; omega⟩
                        · rw [Hn1.out]; simp
                        · rw [Hn2.out]; simp
                    | false =>
                      go_wp2
                      refine ⟨⟨q + 1, by omega, by go_num, ?_, ?_⟩, by simp [intOf]; omega⟩
                      · rw [Hn1.out]; simp
                      · rw [Hn2.out]; simp
                | false =>
                  cases e4 with
                  | true =>
                    cases e5 with
                    | true =>
                      go_wp2
                      refine ⟨⟨q + 1, by omega, by go_num, ?_, ?_⟩, by simp [intOf]; omega⟩
                      · rw [Hn1.out]; simp
                      · rw [Hn2.out]; simp
                    | false =>
                      go_wp2
                      refine ⟨⟨q + 1, by omega, by go_num, ?_, ?_⟩, by simp [intOf]; omega⟩
                      · rw [Hn1.out]; simp
                      · rw [Hn2.out]; simp
                  | false =>
                    go_wp2
                    refine ⟨⟨q + 1, by omega, by go_num, ?_, ?_⟩, by simp [intOf]; omega⟩
                    · rw [Hn1.out]; simp
                    · rw [Hn2.out]; simp
            | false =>
              cases e1 with
              | true =>
                cases b2 with
                | true =>
                  go_wp2
                  refine ⟨⟨q + 1, by omega, by go_num, ?_, ?_⟩, by simp [intOf]; omega⟩
                  · rw [Hn1.out]; simp
                  · rw [Hn2.out]; simp
                | false =>
                  cases e2 with
                  | true =>
                    cases e3 with
                    | true =>
                      go_wp2
                      refine ⟨⟨q + 1, by omega, by go_num, ?_, ?_⟩, by simp [intOf]; omega⟩
                      · rw [Hn1.out]; simp
                      · rw [Hn2.out]; simp
                    | false =>
                      cases e4 with
                      | true =>
                        cases e5 with
                        | true =>
                          go_wp2
                          refine ⟨⟨q + 1, by omega, by go_num, ?_, ?_⟩, by simp [intOf]; omega⟩
                          · rw [Hn1.out]; simp
                          · rw [Hn2.out]; simp
                        | false =>
                          go_wp2
                          refine ⟨⟨q + 1, by omega, by go_num, ?_, ?_⟩, by simp [intOf]; omega⟩
                          · rw [Hn1.out]; simp
                          · rw [Hn2.out]; simp
                      | false =>
                        go_wp2
                        refine ⟨⟨q + 1, by omega, by go_num, ?_, ?_⟩, by simp [intOf]; omega⟩
                        · rw [Hn1.out]; simp
                        · rw [Hn2.out]; simp
                  | false =>
                    cases e4 with
                    | true =>
                      cases e5 with
                      | true =>
                        go_wp2
                        refine ⟨⟨q + 1, by omega, by go_num, ?_, ?_⟩, by simp [intOf]; omega⟩
                        · rw [Hn1.out]; simp
                        · rw [Hn2.out]; simp
                      | false =>
                        go_wp2
                        refine ⟨⟨q + 1, by omega, by go_num, ?_, ?_⟩, by simp [intOf]; omega⟩
                        · rw [Hn1.out]; simp
                        · rw [Hn2.out]; simp
                    | false =>
                      go_wp2
                      refine ⟨⟨q + 1, by omega, by go_num, ?_, ?_⟩, by simp [intOf]; omega⟩
                      · rw [Hn1.out]; simp
                      · rw [Hn2.out]; simp
              | false =>
                cases b2 with
                | true =>
                  go_wp2
                  refine ⟨⟨q + 1, by omega, by go_num, ?_, ?_⟩, by simp [intOf]; omega⟩
                  · rw [Hn1.out]; simp
                  · rw [Hn2.out]; simp
                | false =>
                  cases e2 with
                  | true =>
                    cases e3 with
                    | true =>
                      go_wp2
                      refine ⟨⟨q + 1, by omega, by go_num, ?_, ?_⟩, by simp [intOf]; omega⟩
                      · rw [Hn1.out]; simp
                      · rw [Hn2.out]; simp
                    | false =>
                      cases e4 with
                      | true =>
                        cases e5 with
                        | true =>
                          go_wp2
                          refine ⟨⟨q + 1, by omega, by go_num, ?_, ?_⟩, by simp [intOf]; omega⟩
                          · rw [Hn1.out]; simp
                          · rw [Hn2.out]; simp
                        | false =>
                          go_wp2
                          refine ⟨⟨q + 1, by omega, by go_num, ?_, ?_⟩, by simp [intOf]; omega⟩
                          · rw [Hn1.out]; simp
                          · rw [Hn2.out]; simp
                      | false =>
                        go_wp2
                        refine ⟨⟨q + 1, by omega, by go_num, ?_, ?_⟩, by simp [intOf]; omega⟩
                        · rw [Hn1.out]; simp
                        · rw [Hn2.out]; simp
                  | false =>
                    cases e4 with
                    | true =>
                      cases e5 with
                      | true =>
                        go_wp2
                        refine ⟨⟨q + 1, by omega, by go_num, ?_, ?_⟩, by simp [intOf]; omega⟩
                        · rw [Hn1.out]; simp
                        · rw [Hn2.out]; simp
                      | false =>
                        go_wp2
                        refine ⟨⟨q + 1, by omega, by go_num, ?_, ?_⟩, by simp [intOf]; omega⟩
                        · rw [Hn1.out]; simp
                        · rw [Hn2.out]; simp
                    | false =>
                      go_wp2
                      refine ⟨⟨q + 1, by omega, by go_num, ?_, ?_⟩, by simp [intOf]; omega⟩
                      · rw [Hn1.out]; simp
                      · rw [Hn2.out]; simp
          · obtain rfl : q = (apOf L).length := by omega
            have hqn' : ¬ ((apOf L).length : Int) < ((apOf L).length : Int) := by omega
            rw [List.take_length]
            have hLj := HLj.out
            obtain ⟨f1, f2⟩ := HT.out.follows HCl.out hxa hxc (by omega)
            have fc := HT.out.clash HCl.out
            have HF1 := hide (fun (w2 : World) (Z2 : Nat → Prop) (h : MemAt w w2 bb A Z2 F (.slice g0 (apOf L).length cap0) C (apOf L) S) => keepFollows_any (sentT xa true xc) w2 bb Z2 S (sent_size xa true xc) h.book h.err f1)
            have HF2 := hide (fun (w2 : World) (Z2 : Nat → Prop) (h : MemAt w w2 bb A Z2 F (.slice g0 (apOf L).length cap0) C (apOf L) S) => keepFollows_any (sentT xa false xc) w2 bb Z2 S (sent_size xa false xc) h.book h.err f2)
            have HK := hide (fun (w2 : World) (Z2 : Nat → Prop) (h : MemAt w w2 bb A Z2 F (.slice g0 (apOf L).length cap0) C (apOf L) S) => clash_any w2 bb Z2 S h.book)
            rw [fc] at HK
            rw [← sentT_true] at HF1
            rw [← sentT_false] at HF2
            have k1 := nat_beq_int (C xa) (C xc)
            generalize (apOf L).any (fun e => C e.1 == C e.2) = bc at *
            generalize (apOf L).any (splitOf C (C xa) (C xc)) = bs at *
            generalize (C xa == C xc) = ex at *
            have zx := nT_size xa
            have zy := nT_size xc
            generalize nT xa = tx at *
            generalize nT xc = ty at *
            have y1 : tx.size ≤ 10 := by omega
            have y2 : ty.size ≤ 10 := by omega
            clear zx zy f1 f2 fc HLj HCl HT HPa HPc hLj
            cases bc with
            | true =>
              cases bs with
              | true =>
                cases ex with
                | true =>
                  go_upto_region 40 with (first
                    | (go_at_call_of 15 (Value.int .i64 a); refine (HTa.out _).mono ?_; rintro e w2 ⟨rfl, hu2⟩; have HM2 := hide (HM.out.grow hu2); clear hu2)
                    | (go_at_call_of 15 (Value.int .i64 c); refine (HTc.out _).mono ?_; rintro e w3 ⟨rfl, hu3⟩; have HM3 := hide (HM2.out.grow hu3); clear hu3)
                    | (go_at_call 16; refine (HF1.out w3 _ HM3.out).mono ?_; rintro e w4 ⟨rfl, hb4, hL4⟩; have HM4 := hide (HM3.out.tell hb4 hL4); clear hb4 hL4))
                  go_upto_region 41 with (first
                    | (go_at_call_of 15 (Value.int .i64 a); refine (HTa.out _).mono ?_; rintro e w5 ⟨rfl, hu5⟩; have HM5 := hide (HM4.out.grow hu5); clear hu5)
                    | (go_at_call_of 15 (Value.int .i64 c); refine (HTc.out _).mono ?_; rintro e w6 ⟨rfl, hu6⟩; have HM6 := hide (HM5.out.grow hu6); clear hu6)
                    | (go_at_call 16; refine (HF2.out w6 _ HM6.out).mono ?_; rintro e w7 ⟨rfl, hb7, hL7⟩; have HM7 := hide (HM6.out.tell hb7 hL7); clear hb7 hL7))
                  go_wp2_with (go_at_call 17; refine (HK.out w7 _ HM7.out).mono ?_; rintro e w8 ⟨rfl, hu8⟩; have Hu8 := hide hu8; clear hu8)
                  go_ret
                  exact ⟨rfl, HM7.out.upd.trans Hu8.out⟩
                | false =>
                  go_upto_region 40 with (first
                    | (go_at_call_of 15 (Value.int .i64 a); refine (HTa.out _).mono ?_; rintro e w2 ⟨rfl, hu2⟩; have HM2 := hide (HM.out.grow hu2); clear hu2)
                    | (go_at_call_of 15 (Value.int .i64 c); refine (HTc.out _).mono ?_; rintro e w3 ⟨rfl, hu3⟩; have HM3 := hide (HM2.out.grow hu3); clear hu3)
                    | (go_at_call 16; refine (HF1.out w3 _ HM3.out).mono ?_; rintro e w4 ⟨rfl, hb4, hL4⟩; have HM4 := hide (HM3.out.tell hb4 hL4); clear hb4 hL4))
                  go_upto_region 41 with (first
                    | (go_at_call_of 15 (Value.int .i64 a); refine (HTa.out _).mono ?_; rintro e w5 ⟨rfl, hu5⟩; have HM5 := hide (HM4.out.grow hu5); clear hu5)
                    | (go_at_call_of 15 (Value.int .i64 c); refine (HTc.out _).mono ?_; rintro e w6 ⟨rfl, hu6⟩; have HM6 := hide (HM5.out.grow hu6); clear hu6)
                    | (go_at_call 16; refine (HF2.out w6 _ HM6.out).mono ?_; rintro e w7 ⟨rfl, hb7, hL7⟩; have HM7 := hide (HM6.out.tell hb7 hL7); clear hb7 hL7))
                  go_wp2_with (go_at_call 17; refine (HK.out w7 _ HM7.out).mono ?_; rintro e w8 ⟨rfl, hu8⟩; have Hu8 := hide hu8; clear hu8)
                  go_ret
                  exact ⟨rfl, HM7.out.upd.trans Hu8.out⟩
              | false =>
                cases ex with
                | true =>
                  go_upto_region 40 with (first
                    | (go_at_call_of 15 (Value.int .i64 a); refine (HTa.out _).mono ?_; rintro e w2 ⟨rfl, hu2⟩; have HM2 := hide (HM.out.grow hu2); clear hu2)
                    | (go_at_call_of 15 (Value.int .i64 c); refine (HTc.out _).mono ?_; rintro e w3 ⟨rfl, hu3⟩; have HM3 := hide (HM2.out.grow hu3); clear hu3)
                    | (go_at_call 16; refine (HF1.out w3 _ HM3.out).mono ?_; rintro e w4 ⟨rfl, hb4, hL4⟩; have HM4 := hide (HM3.out.tell hb4 hL4); clear hb4 hL4))
                  go_upto_region 41 with (first
                    | (go_at_call_of 15 (Value.int .i64 a); refine (HTa.out _).mono ?_; rintro e w5 ⟨rfl, hu5⟩; have HM5 := hide (HM4.out.grow hu5); clear hu5)
                    | (go_at_call_of 15 (Value.int .i64 c); refine (HTc.out _).mono ?_; rintro e w6 ⟨rfl, hu6⟩; have HM6 := hide (HM5.out.grow hu6); clear hu6)
                    | (go_at_call 16; refine (HF2.out w6 _ HM6.out).mono ?_; rintro e w7 ⟨rfl, hb7, hL7⟩; have HM7 := hide (HM6.out.tell hb7 hL7); clear hb7 hL7))
                  go_wp2_with (go_at_call 17; refine (HK.out w7 _ HM7.out).mono ?_; rintro e w8 ⟨rfl, hu8⟩; have Hu8 := hide hu8; clear hu8)
                  go_ret
                  exact ⟨rfl, HM7.out.upd.trans Hu8.out⟩
                | false =>
                  go_upto_region 40 with (first
                    | (go_at_call_of 15 (Value.int .i64 a); refine (HTa.out _).mono ?_; rintro e w2 ⟨rfl, hu2⟩; have HM2 := hide (HM.out.grow hu2); clear hu2)
                    | (go_at_call_of 15 (Value.int .i64 c); refine (HTc.out _).mono ?_; rintro e w3 ⟨rfl, hu3⟩; have HM3 := hide (HM2.out.grow hu3); clear hu3)
                    | (go_at_call 16; refine (HF1.out w3 _ HM3.out).mono ?_; rintro e w4 ⟨rfl, hb4, hL4⟩; have HM4 := hide (HM3.out.tell hb4 hL4); clear hb4 hL4))
                  go_upto_region 41 with (first
                    | (go_at_call_of 15 (Value.int .i64 a); refine (HTa.out _).mono ?_; rintro e w5 ⟨rfl, hu5⟩; have HM5 := hide (HM4.out.grow hu5); clear hu5)
                    | (go_at_call_of 15 (Value.int .i64 c); refine (HTc.out _).mono ?_; rintro e w6 ⟨rfl, hu6⟩; have HM6 := hide (HM5.out.grow hu6); clear hu6)
                    | (go_at_call 16; refine (HF2.out w6 _ HM6.out).mono ?_; rintro e w7 ⟨rfl, hb7, hL7⟩; have HM7 := hide (HM6.out.tell hb7 hL7); clear hb7 hL7))
                  go_wp2_with (go_at_call 17; refine (HK.out w7 _ HM7.out).mono ?_; rintro e w8 ⟨rfl, hu8⟩; have Hu8 := hide hu8; clear hu8)
                  go_ret
                  exact ⟨rfl, HM7.out.upd.trans Hu8.out⟩
            | false =>
              cases bs with
              | true =>
                cases ex with
                | true =>
                  go_upto_region 40 with (first
                    | (go_at_call_of 15 (Value.int .i64 a); refine (HTa.out _).mono ?_; rintro e w2 ⟨rfl, hu2⟩; have HM2 := hide (HM.out.grow hu2); clear hu2)
                    | (go_at_call_of 15 (Value.int .i64 c); refine (HTc.out _).mono ?_; rintro e w3 ⟨rfl, hu3⟩; have HM3 := hide (HM2.out.grow hu3); clear hu3)
                    | (go_at_call 16; refine (HF1.out w3 _ HM3.out).mono ?_; rintro e w4 ⟨rfl, hb4, hL4⟩; have HM4 := hide (HM3.out.tell hb4 hL4); clear hb4 hL4))
                  go_upto_region 41 with (first
                    | (go_at_call_of 15 (Value.int .i64 a); refine (HTa.out _).mono ?_; rintro e w5 ⟨rfl, hu5⟩; have HM5 := hide (HM4.out.grow hu5); clear hu5)
                    | (go_at_call_of 15 (Value.int .i64 c); refine (HTc.out _).mono ?_; rintro e w6 ⟨rfl, hu6⟩; have HM6 := hide (HM5.out.grow hu6); clear hu6)
                    | (go_at_call 16; refine (HF2.out w6 _ HM6.out).mono ?_; rintro e w7 ⟨rfl, hb7, hL7⟩; have HM7 := hide (HM6.out.tell hb7 hL7); clear hb7 hL7))
                  go_wp2_with (go_at_call 17; refine (HK.out w7 _ HM7.out).mono ?_; rintro e w8 ⟨rfl, hu8⟩; have Hu8 := hide hu8; clear hu8)
                  go_ret
                  exact ⟨rfl, HM7.out.upd.trans Hu8.out⟩
                | false =>
                  go_upto_region 40 with (first
                    | (go_at_call_of 15 (Value.int .i64 a); refine (HTa.out _).mono ?_; rintro e w2 ⟨rfl, hu2⟩; have HM2 := hide (HM.out.grow hu2); clear hu2)
                    | (go_at_call_of 15 (Value.int .i64 c); refine (HTc.out _).mono ?_; rintro e w3 ⟨rfl, hu3⟩; have HM3 := hide (HM2.out.grow hu3); clear hu3)
                    | (go_at_call 16; refine (HF1.out w3 _ HM3.out).mono ?_; rintro e w4 ⟨rfl, hb4, hL4⟩; have HM4 := hide (HM3.out.tell hb4 hL4); clear hb4 hL4))
                  go_upto_region 41 with (first
                    | (go_at_call_of 15 (Value.int .i64 a); refine (HTa.out _).mono ?_; rintro e w5 ⟨rfl, hu5⟩; have HM5 := hide (HM4.out.grow hu5); clear hu5)
                    | (go_at_call_of 15 (Value.int .i64 c); refine (HTc.out _).mono ?_; rintro e w6 ⟨rfl, hu6⟩; have HM6 := hide (HM5.out.grow hu6); clear hu6)
                    | (go_at_call 16; refine (HF2.out w6 _ HM6.out).mono ?_; rintro e w7 ⟨rfl, hb7, hL7⟩; have HM7 := hide (HM6.out.tell hb7 hL7); clear hb7 hL7))
                  go_wp2_with (go_at_call 17; refine (HK.out w7 _ HM7.out).mono ?_; rintro e w8 ⟨rfl, hu8⟩; have Hu8 := hide hu8; clear hu8)
                  go_ret
                  exact ⟨rfl, HM7.out.upd.trans Hu8.out⟩
              | false =>
                cases ex with
                | true =>
                  go_upto_region 40 with (first
                    | (go_at_call_of 15 (Value.int .i64 a); refine (HTa.out _).mono ?_; rintro e w2 ⟨rfl, hu2⟩; have HM2 := hide (HM.out.grow hu2); clear hu2)
                    | (go_at_call_of 15 (Value.int .i64 c); refine (HTc.out _).mono ?_; rintro e w3 ⟨rfl, hu3⟩; have HM3 := hide (HM2.out.grow hu3); clear hu3)
                    | (go_at_call 16; refine (HF1.out w3 _ HM3.out).mono ?_; rintro e w4 ⟨rfl, hb4, hL4⟩; have HM4 := hide (HM3.out.tell hb4 hL4); clear hb4 hL4))
                  go_upto_region 41 with (first
                    | (go_at_call_of 15 (Value.int .i64 a); refine (HTa.out _).mono ?_; rintro e w5 ⟨rfl, hu5⟩; have HM5 := hide (HM4.out.grow hu5); clear hu5)
                    | (go_at_call_of 15 (Value.int .i64 c); refine (HTc.out _).mono ?_; rintro e w6 ⟨rfl, hu6⟩; have HM6 := hide (HM5.out.grow hu6); clear hu6)
                    | (go_at_call 16; refine (HF2.out w6 _ HM6.out).mono ?_; rintro e w7 ⟨rfl, hb7, hL7⟩; have HM7 := hide (HM6.out.tell hb7 hL7); clear hb7 hL7))
                  go_wp2_with (go_at_call 17; refine (HK.out w7 _ HM7.out).mono ?_; rintro e w8 ⟨rfl, hu8⟩; have Hu8 := hide hu8; clear hu8)
                  go_ret
                  exact ⟨rfl, HM7.out.upd.trans Hu8.out⟩
                | false =>
                  go_upto_region 40 with (first
                    | (go_at_call_of 15 (Value.int .i64 a); refine (HTa.out _).mono ?_; rintro e w2 ⟨rfl, hu2⟩; have HM2 := hide (HM.out.grow hu2); clear hu2)
                    | (go_at_call_of 15 (Value.int .i64 c); refine (HTc.out _).mono ?_; rintro e w3 ⟨rfl, hu3⟩; have HM3 := hide (HM2.out.grow hu3); clear hu3)
                    | (go_at_call 16; refine (HF1.out w3 _ HM3.out).mono ?_; rintro e w4 ⟨rfl, hb4, hL4⟩; have HM4 := hide (HM3.out.tell hb4 hL4); clear hb4 hL4))
                  go_upto_region 41 with (first
                    | (go_at_call_of 15 (Value.int .i64 a); refine (HTa.out _).mono ?_; rintro e w5 ⟨rfl, hu5⟩; have HM5 := hide (HM4.out.grow hu5); clear hu5)
                    | (go_at_call_of 15 (Value.int .i64 c); refine (HTc.out _).mono ?_; rintro e w6 ⟨rfl, hu6⟩; have HM6 := hide (HM5.out.grow hu6); clear hu6)
                    | (go_at_call 16; refine (HF2.out w6 _ HM6.out).mono ?_; rintro e w7 ⟨rfl, hb7, hL7⟩; have HM7 := hide (HM6.out.tell hb7 hL7); clear hb7 hL7))
                  go_wp2_with (go_at_call 17; refine (HK.out w7 _ HM7.out).mono ?_; rintro e w8 ⟨rfl, hu8⟩; have Hu8 := hide hu8; clear hu8)
                  go_ret
                  exact ⟨rfl, HM7.out.upd.trans Hu8.out⟩
end Go.Proofs.YtmfkpllnmmfpiaaDoor
