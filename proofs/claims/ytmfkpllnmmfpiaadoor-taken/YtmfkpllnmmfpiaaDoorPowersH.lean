/-
  'Powers', walked: it answers true.
-/
import Derived.Test.YtmfkpllnmmfpiaaDoorKeepH
namespace Go.Proofs.YtmfkpllnmmfpiaaDoor
open Go.RowKit

/-- A Book made since w. -/
structure One (w wk : World) (bb : Nat) (S : WS) : Prop where
  err : ErrTab wk
  book : BookAt wk bb (fun k => w.heap.size ≤ k ∧ k < wk.heap.size) S
  upd : Upd [] w wk
  pos : 0 < w.heap.size
theorem One.next {w wk w' : World} {bb : Nat} {S S' : WS} (h : One w wk bb S) (hb : BookAt w' bb (fun k => ((w.heap.size ≤ k ∧ k < wk.heap.size) ∨ wk.heap.size ≤ k) ∧ k < w'.heap.size) S') (hL : ∃ L, (∀ k ∈ L, w.heap.size ≤ k ∧ k < wk.heap.size) ∧ Upd L wk w') : One w w' bb S' := by
  obtain ⟨L, hL, U⟩ := hL
  have h1 := h.pos
  have h3 := h.book.low bb h.book.own
  have h4 := h.book.own.1
  refine ⟨h.err.later U (fun hm => by have := (hL 0 hm).1; omega), ?_, h.upd.trans' U (fun x hx hl => by have := (hL x hx).1; omega), h1⟩
  obtain ⟨wb, H, hc, hw⟩ := hb.ex
  refine ⟨hb.lt, hb.self, ⟨wb, H, hc, hw.mono (fun k hk hl => ⟨⟨?_, hl⟩, hk.2⟩)⟩, ⟨h4, hb.lt⟩, fun k hk => hk.2, hb.fine, hb.terms, hb.saids⟩
  rcases hk.1.1 with h5 | h5
  · exact h5.1
  · have := h.upd.size; omega

theorem pick_nat (c : Int) (n : Nat) (hc0 : -9223372036854775808 ≤ c) (hc1 : c ≤ 9223372036854775807) (hn : 0 < n) (hn1 : n ≤ 1000) : ∃ a : Nat, a < n ∧ ∀ w, Calls Tryd.prog 13 #[.int .i64 c, .int .i64 (n : Int)] w fun e w' => e = .returned (.int .i64 (a : Int)) ∧ w' = w := by
  have h := pickZ_lt (c := c) (n := (n : Int)) (by omega)
  refine ⟨(pickZ c n).toNat, by omega, fun w => ?_⟩
  have e : (((pickZ c n).toNat : Nat) : Int) = pickZ c n := by omega
  rw [e]
  exact pick_any c n w hc0 hc1 (by omega) (by omega)

set_option maxHeartbeats 8000000 in
set_option maxRecDepth 100000 in
theorem powers_any (m n k : Int) (w : World) (hE : ErrTab w) (hm0 : -9223372036854775808 ≤ m) (hm1 : m ≤ 9223372036854775807) (hn0 : -9223372036854775808 ≤ n) (hn1 : n ≤ 9223372036854775807) (hk0 : -9223372036854775808 ≤ k) (hk1 : k ≤ 9223372036854775807) :
    Calls Tryd.prog 5 #[.int .i64 m, .int .i64 n, .int .i64 k] w fun e w' => e = .returned (.bool true) ∧ Upd [] w w' := by
  obtain ⟨a, ha, Pm⟩ := pick_nat m 12 hm0 hm1 (by omega) (by omega)
  obtain ⟨b, hb, Pn⟩ := pick_nat n 12 hn0 hn1 (by omega) (by omega)
  obtain ⟨c, hc, Pk⟩ := pick_nat k 13 hk0 hk1 (by omega) (by omega)
  have HPm : Hid (∀ w, Calls Tryd.prog 13 #[.int .i64 m, .int .i64 12] w fun e w' => e = .returned (.int .i64 (a : Int)) ∧ w' = w) := Pm
  have HPn : Hid (∀ w, Calls Tryd.prog 13 #[.int .i64 n, .int .i64 12] w fun e w' => e = .returned (.int .i64 (b : Int)) ∧ w' = w) := Pn
  have HPk : Hid (∀ w, Calls Tryd.prog 13 #[.int .i64 k, .int .i64 13] w fun e w' => e = .returned (.int .i64 (c : Int)) ∧ w' = w) := Pk
  obtain ⟨A1, A2⟩ := PowWeb.none.sayOf (e := 1 + a) (by omega) (by omega) (by simp)
  obtain ⟨B1, B2⟩ := A2.sayOf (e := 1 + b) (by omega) (by omega) (by simp)
  have F1 := B2.followsEq (e := c) (by omega) (by omega)
  have F2 := B2.followsNe (e := c) (by omega) (by omega)
  have CC := clashM_none B2.zero
  have HOp := hide (opened_any w hE)
  have g1 := Nat.gcd_pos_of_pos_left (1 + b) (show 0 < 1 + a by omega)
  have g2 := Nat.gcd_le_left (1 + b) (show 0 < 1 + a by omega)
  have HW1 := hide (fun w' : World => power_any (1 + a) w' (by omega))
  have HW2 := hide (fun w' : World => power_any (1 + b) w' (by omega))
  have HW3 := hide (fun w' : World => power_any c w' (by omega))
  have HG := hide (fun w' : World => gcd_any (1 + a) (1 + b) w' (by omega) (by omega))
  have z1 := powT_size (1 + a)
  have z2 := powT_size (1 + b)
  have z3 := powT_size c
  have hsz : ∀ e, e ≤ 12 → (eqT e).size ≤ maxLen := fun e he => by
    rw [← powT_eq]
    have := powT_size e
    simp only [ByteArray.size_append]
    show _ + 4 ≤ _
    unfold maxLen
    omega
  have hsz' : ∀ e, e ≤ 12 → (neT e).size ≤ maxLen := fun e he => by
    rw [← powT_ne]
    have := powT_size e
    simp only [ByteArray.size_append]
    show _ + 5 ≤ _
    unfold maxLen
    omega
  have HS1 := hide (fun (wk : World) (bb : Nat) (h : One w wk bb noWS) => say_any (eqT (1 + a)) wk bb _ noWS (hsz _ (by omega)) h.book h.err)
  rw [A1] at HS1
  have HS2 := hide (fun (wk : World) (bb : Nat) (h : One w wk bb (sayOf noWS (eqT (1 + a))).2) => say_any (eqT (1 + b)) wk bb _ _ (hsz _ (by omega)) h.book h.err)
  rw [B1] at HS2
  have HF1 := hide (fun (wk : World) (bb : Nat) (h : One w wk bb (sayOf (sayOf noWS (eqT (1 + a))).2 (eqT (1 + b))).2) => keepFollows_any (eqT c) wk bb _ _ (hsz _ (by omega)) h.book h.err F1)
  have HF2 := hide (fun (wk : World) (bb : Nat) (h : One w wk bb (sayOf (sayOf noWS (eqT (1 + a))).2 (eqT (1 + b))).2) => keepFollows_any (neT c) wk bb _ _ (hsz' _ (by omega)) h.book h.err F2)
  have HCl := hide (fun (wk : World) (bb : Nat) (h : One w wk bb (sayOf (sayOf noWS (eqT (1 + a))).2 (eqT (1 + b))).2) => clash_any wk bb _ _ h.book)
  rw [CC] at HCl
  clear A1 A2 B1 B2 F1 F2 CC hsz hsz' Pm Pn Pk
  generalize (sayOf (sayOf noWS (eqT (1 + a))).2 (eqT (1 + b))).2 = S2 at *
  generalize (sayOf noWS (eqT (1 + a))).2 = S1 at *
  rw [← powT_eq] at HS1 HS2 HF1
  rw [← powT_ne] at HF2
  have h0 := hE.1
  have HE := hide hE
  clear hE
  generalize powT (1 + a) = t1 at *
  generalize powT (1 + b) = t2 at *
  generalize powT c = t3 at *
  generalize Nat.gcd (1 + a) (1 + b) = g at *
  have y1 : t1.size ≤ 1000 := by omega
  have y2 : t2.size ≤ 1000 := by omega
  have y3 : t3.size ≤ 1000 := by omega
  clear z1 z2 z3
  simp only [Int.natCast_add, Int.natCast_one, Int.natCast_zero] at HW1 HW2 HG HS1 HS2
  have hg0 : (0 : Int) < (g : Int) := by omega
  by_cases hk : c % g = 0
  · have hk' : ((c : Int) % (g : Int) == 0) = true := by
      have : (c : Int) % (g : Int) = ((c % g : Nat) : Int) := (Int.natCast_emod c g).symm
      rw [this, hk]
      rfl
    rw [decide_eq_true hk] at HF1
    clear hk
    go_enter Tryd.func5, Tryd.ntmps5
    go_upto_region 4 with (go_at_call 12; refine HOp.out.mono ?_; rintro e w1 ⟨bb, rfl, hb1, hu1⟩; have H1 := hide (⟨HE.out.later hu1 (by simp), hb1, hu1, h0⟩ : One w w1 bb noWS); clear hb1 hu1)
    clear HOp HE
    go_upto_region 8 with (first
      | (go_at_call_of 13 (Value.int .i64 m); refine (HPm.out _).mono ?_; rintro e w9 ⟨rfl, hw9⟩; rw [hw9]; clear hw9 w9)
      | (go_at_call_of 13 (Value.int .i64 n); refine (HPn.out _).mono ?_; rintro e w9 ⟨rfl, hw9⟩; rw [hw9]; clear hw9 w9)
      | (go_at_call_of 13 (Value.int .i64 k); refine (HPk.out _).mono ?_; rintro e w9 ⟨rfl, hw9⟩; rw [hw9]; clear hw9 w9)
      | (go_at_call 18; refine (HW1.out _).mono ?_; rintro e w9 ⟨rfl, hw9⟩; rw [hw9]; clear hw9 w9)
      | (go_at_call 14; refine (HS1.out w1 bb H1.out).mono ?_; rintro e w2 ⟨rfl, hb2, hL2⟩; have H2 := hide (H1.out.next hb2 hL2); clear hb2 hL2))
    clear HPm HPn HPk HW1 HS1
    go_upto_region 9 with (first
      | (go_at_call 18; refine (HW2.out _).mono ?_; rintro e w9 ⟨rfl, hw9⟩; rw [hw9]; clear hw9 w9)
      | (go_at_call 14; refine (HS2.out w2 bb H2.out).mono ?_; rintro e w3 ⟨rfl, hb3, hL3⟩; have H3 := hide (H2.out.next hb3 hL3); clear hb3 hL3))
    clear HW2 HS2 H1 H2
    go_upto_region 10 with (first
      | (go_at_call 18; refine (HW3.out _).mono ?_; rintro e w9 ⟨rfl, hw9⟩; rw [hw9]; clear hw9 w9)
      | (go_at_call 16; refine (HF1.out w3 bb H3.out).mono ?_; rintro e w4 ⟨rfl, hb4, hL4⟩; have H4 := hide (H3.out.next hb4 hL4); clear hb4 hL4))
    go_upto_region 11 with (first
      | (go_at_call 18; refine (HW3.out _).mono ?_; rintro e w9 ⟨rfl, hw9⟩; rw [hw9]; clear hw9 w9)
      | (go_at_call 16; refine (HF2.out w4 bb H4.out).mono ?_; rintro e w5 ⟨rfl, hb5, hL5⟩; have H5 := hide (H4.out.next hb5 hL5); clear hb5 hL5))
    clear HW3 HF1 HF2 H3 H4
    go_wp2_with (first
      | (go_at_call 19; refine (HG.out _).mono ?_; rintro e w9 ⟨rfl, hw9⟩; rw [hw9]; clear hw9 w9)
      | (go_at_call 17; refine (HCl.out w5 bb H5.out).mono ?_; rintro e w6 ⟨rfl, hu6⟩; have Hu6 := hide hu6; clear hu6))
    go_ret
    exact ⟨rfl, H5.out.upd.trans Hu6.out⟩
  · have hk' : ((c : Int) % (g : Int) == 0) = false := by
      have : (c : Int) % (g : Int) = ((c % g : Nat) : Int) := (Int.natCast_emod c g).symm
      rw [this]
      simp
      omega
    rw [decide_eq_false hk] at HF1
    clear hk
    go_enter Tryd.func5, Tryd.ntmps5
    go_upto_region 4 with (go_at_call 12; refine HOp.out.mono ?_; rintro e w1 ⟨bb, rfl, hb1, hu1⟩; have H1 := hide (⟨HE.out.later hu1 (by simp), hb1, hu1, h0⟩ : One w w1 bb noWS); clear hb1 hu1)
    clear HOp HE
    go_upto_region 8 with (first
      | (go_at_call_of 13 (Value.int .i64 m); refine (HPm.out _).mono ?_; rintro e w9 ⟨rfl, hw9⟩; rw [hw9]; clear hw9 w9)
      | (go_at_call_of 13 (Value.int .i64 n); refine (HPn.out _).mono ?_; rintro e w9 ⟨rfl, hw9⟩; rw [hw9]; clear hw9 w9)
      | (go_at_call_of 13 (Value.int .i64 k); refine (HPk.out _).mono ?_; rintro e w9 ⟨rfl, hw9⟩; rw [hw9]; clear hw9 w9)
      | (go_at_call 18; refine (HW1.out _).mono ?_; rintro e w9 ⟨rfl, hw9⟩; rw [hw9]; clear hw9 w9)
      | (go_at_call 14; refine (HS1.out w1 bb H1.out).mono ?_; rintro e w2 ⟨rfl, hb2, hL2⟩; have H2 := hide (H1.out.next hb2 hL2); clear hb2 hL2))
    clear HPm HPn HPk HW1 HS1
    go_upto_region 9 with (first
      | (go_at_call 18; refine (HW2.out _).mono ?_; rintro e w9 ⟨rfl, hw9⟩; rw [hw9]; clear hw9 w9)
      | (go_at_call 14; refine (HS2.out w2 bb H2.out).mono ?_; rintro e w3 ⟨rfl, hb3, hL3⟩; have H3 := hide (H2.out.next hb3 hL3); clear hb3 hL3))
    clear HW2 HS2 H1 H2
    go_upto_region 10 with (first
      | (go_at_call 18; refine (HW3.out _).mono ?_; rintro e w9 ⟨rfl, hw9⟩; rw [hw9]; clear hw9 w9)
      | (go_at_call 16; refine (HF1.out w3 bb H3.out).mono ?_; rintro e w4 ⟨rfl, hb4, hL4⟩; have H4 := hide (H3.out.next hb4 hL4); clear hb4 hL4))
    go_upto_region 11 with (first
      | (go_at_call 18; refine (HW3.out _).mono ?_; rintro e w9 ⟨rfl, hw9⟩; rw [hw9]; clear hw9 w9)
      | (go_at_call 16; refine (HF2.out w4 bb H4.out).mono ?_; rintro e w5 ⟨rfl, hb5, hL5⟩; have H5 := hide (H4.out.next hb5 hL5); clear hb5 hL5))
    clear HW3 HF1 HF2 H3 H4
    go_wp2_with (first
      | (go_at_call 19; refine (HG.out _).mono ?_; rintro e w9 ⟨rfl, hw9⟩; rw [hw9]; clear hw9 w9)
      | (go_at_call 17; refine (HCl.out w5 bb H5.out).mono ?_; rintro e w6 ⟨rfl, hu6⟩; have Hu6 := hide hu6; clear hu6))
    go_ret
    exact ⟨rfl, H5.out.upd.trans Hu6.out⟩
end Go.Proofs.YtmfkpllnmmfpiaaDoor
