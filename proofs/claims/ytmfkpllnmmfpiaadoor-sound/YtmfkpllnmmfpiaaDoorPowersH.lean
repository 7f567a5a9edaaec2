/-
  The small functions that the statements without the document's answer are made of.
-/
import Derived.Test.YtmfkpllnmmfpiaaDoorPowBookH
namespace Go.Proofs.YtmfkpllnmmfpiaaDoor
open Go.RowKit

/-- A number of n, by whatever number. -/
def pickZ (c n : Int) : Int := (if c < 0 then -(c + 1) else c) % n
theorem pickZ_lt {c n : Int} (h : 0 < n) : 0 ≤ pickZ c n ∧ pickZ c n < n := ⟨Int.emod_nonneg _ (by omega), Int.emod_lt_of_pos _ h⟩

set_option maxHeartbeats 400000 in
theorem pick_any (c n : Int) (w : World) (hc0 : -9223372036854775808 ≤ c) (hc1 : c ≤ 9223372036854775807) (hn : 0 < n) (hn1 : n ≤ 1000) :
    Calls Tryd.prog 13 #[.int .i64 c, .int .i64 n] w fun e w' => e = .returned (.int .i64 (pickZ c n)) ∧ w' = w := by
  by_cases hc : c < 0
  · go_enter Tryd.func13, Tryd.ntmps13
    go_wp2
    go_ret
    refine ⟨?_, rfl⟩
    show Ending.returned (.int .i64 (-((c + 1).tmod n))) = _
    have e : pickZ c n = -((c + 1).tmod n) := by
      unfold pickZ
      rw [if_pos hc, ← Int.neg_tmod, Int.tmod_eq_emod_of_nonneg (by omega)]
    rw [e]
  · have hc' : 0 ≤ c := by omega
    have e : Hid (pickZ c n = c % n) := by show _ = _; unfold pickZ; rw [if_neg hc]
    clear hc
    go_enter Tryd.func13, Tryd.ntmps13
    go_wp2
    go_ret
    exact ⟨by rw [e.out]; rfl, rfl⟩

set_option maxHeartbeats 400000 in
theorem gcd_any (m n : Nat) (w : World) (hm : m ≤ 1000) (hn : n ≤ 1000) :
    Calls Tryd.prog 19 #[.int .i64 m, .int .i64 n] w fun e w' => e = .returned (.int .i64 (Nat.gcd m n : Nat)) ∧ w' = w := by
  go_enter Tryd.func19, Tryd.ntmps19
  go_wp2
  go_loop [0, 1] (fun x y => ∃ a b : Nat, a ≤ 1000 ∧ b ≤ 1000 ∧ Hid (Nat.gcd a b = Nat.gcd m n) ∧ x = .int .i64 a ∧ y = .int .i64 b) (fun _ y => (intOf y).toNat)
  case atStart => exact ⟨m, n, hm, hn, rfl, rfl, rfl⟩
  case round =>
    obtain ⟨a, b, ha, hb, hg, rfl, rfl⟩ := hrel
    by_cases h0 : 0 < b
    · have h0' : (0 : Int) < (b : Int) := by omega
      go_wp2
      refine ⟨⟨b, a % b, hb, by have := Nat.mod_lt a h0; omega, ?_, rfl, by rw [Int.natCast_emod]⟩, ?_⟩
      · show _ = _
        rw [← hg.out, Nat.gcd_comm a b, Nat.gcd_rec b a, Nat.gcd_comm]
      · have := Nat.mod_lt a h0
        have e : ((a : Int) % (b : Int)).toNat = a % b := by rw [← Int.natCast_emod]; rfl
        simp only [intOf]
        rw [e]
        exact this
    · obtain rfl : b = 0 := by omega
      have Hg : Hid (a = Nat.gcd m n) := by show _ = _; rw [← hg.out, Nat.gcd_zero_right]
      clear hg
      go_wp2
      go_ret
      exact ⟨by rw [← Hg.out]; rfl, rfl⟩

theorem bytes_append (a b : List UInt8) : (⟨a.toArray⟩ : ByteArray) ++ (⟨b.toArray⟩ : ByteArray) = ⟨(a ++ b).toArray⟩ := by
  apply ByteArray.ext
  simp
theorem powB_length : ∀ n, (powB n).length = 3 * n + 1
  | 0 => rfl
  | n + 1 => by simp [powB, powB_length n]; omega
theorem powT_size (n : Nat) : (powT n).size = 3 * n + 1 := by
  show (powB n).toArray.size = _
  simp [powB_length]
theorem powT_succ (n : Nat) : (⟨#[102, 40]⟩ : ByteArray) ++ powT n ++ ⟨#[41]⟩ = powT (n + 1) := by
  show (⟨([102, 40] : List UInt8).toArray⟩ : ByteArray) ++ ⟨(powB n).toArray⟩ ++ ⟨([41] : List UInt8).toArray⟩ = _
  rw [bytes_append, bytes_append]
  rfl
theorem powT_eq (n : Nat) : powT n ++ (⟨#[32, 61, 32, 97]⟩ : ByteArray) = eqT n := by
  show (⟨(powB n).toArray⟩ : ByteArray) ++ ⟨([32, 61, 32, 97] : List UInt8).toArray⟩ = _
  rw [bytes_append]
  rfl
theorem powT_ne (n : Nat) : powT n ++ (⟨#[32, 33, 61, 32, 97]⟩ : ByteArray) = neT n := by
  show (⟨(powB n).toArray⟩ : ByteArray) ++ ⟨([32, 33, 61, 32, 97] : List UInt8).toArray⟩ = _
  rw [bytes_append]
  rfl

set_option maxHeartbeats 400000 in
theorem power_any (n : Nat) (w : World) (hn : n ≤ 1000) :
    Calls Tryd.prog 18 #[.int .i64 n] w fun e w' => e = .returned (.string (powT n)) ∧ w' = w := by
  go_enter Tryd.func18, Tryd.ntmps18
  go_wp2
  go_loop [3, 4] (fun x y => ∃ j : Nat, j ≤ n ∧ x = .string (powT j) ∧ y = .int .i64 j) (fun _ y => n - (intOf y).toNat)
  case atStart => exact ⟨0, Nat.zero_le _, rfl, rfl⟩
  case round =>
    obtain ⟨j, hj, rfl, rfl⟩ := hrel
    have hsz := powT_size j
    by_cases hjn : j < n
    · have hjn' : (j : Int) < (n : Int) := by omega
      have Hs := hide (powT_succ j)
      generalize powT j = t at *
      have hsz' : t.size ≤ 4000 := by omega
      clear hsz
      go_wp2
      exact ⟨⟨j + 1, by omega, by rw [Hs.out], by go_num⟩, by simp [intOf]; omega⟩
    · obtain rfl : j = n := by omega
      have hjn' : ¬ (j : Int) < (j : Int) := by omega
      clear hsz
      go_wp2
      go_ret
      exact ⟨rfl, rfl⟩

/-- A Book and what belongs to it, beside other memory. -/
theorem BookAt.beside {w w' : World} {L : List Nat} {b : Nat} {Z Y : Nat → Prop} {S : WS} (h : BookAt w b Z S) (U : Upd L w w') (hL : ∀ k ∈ L, Y k) (hd : ∀ k, Z k → ¬ Y k) : BookAt w' b Z S := h.later U fun k hk hm => hd k hk (hL k hm)

set_option maxHeartbeats 1000000 in
theorem keepFollows_any (s : ByteArray) (w : World) (bb : Nat) (Z : Nat → Prop) (S : WS) (hmax : s.size ≤ maxLen) (h : BookAt w bb Z S) (hE : ErrTab w) {f : Bool} (hf : followsOf S s = (f, 0, 0)) :
    Calls Tryd.prog 16 #[.pointer (some ⟨bb, 0, none⟩), .string s] w fun e w' => e = .returned (.tuple #[.bool f, .bool true]) ∧ BookAt w' bb (fun k => (Z k ∨ w.heap.size ≤ k) ∧ k < w'.heap.size) S ∧ ∃ L, (∀ k ∈ L, Z k) ∧ Upd L w w' := by
  have HF := follows_any s w bb Z S hmax h hE
  rw [hf] at HF
  have HF := hide HF
  clear h hE hf
  go_enter Tryd.func16, Tryd.ntmps16
  go_wp2_with (go_at_call 25; refine HF.out.mono ?_; rintro e w2 ⟨rfl, hb2, hL2⟩; have Hb2 := hide hb2; have HL2 := hide hL2; clear hb2 hL2)
  go_ret2
  exact ⟨rfl, Hb2.out, HL2.out⟩

/-- Two Books, one behind the other. -/
structure Two (w w1 wk : World) (b1 bx : Nat) (S : WS) : Prop where
  err : ErrTab wk
  one : BookAt wk b1 (fun k => w.heap.size ≤ k ∧ k < w1.heap.size) noWS
  two : BookAt wk bx (fun k => w1.heap.size ≤ k ∧ k < wk.heap.size) S
  upd : Upd [] w wk
  pos : 0 < w.heap.size
  le : w.heap.size ≤ w1.heap.size
theorem Two.next {w w1 wk w' : World} {b1 bx : Nat} {S S' : WS} (h : Two w w1 wk b1 bx S) (hb : BookAt w' bx (fun k => ((w1.heap.size ≤ k ∧ k < wk.heap.size) ∨ wk.heap.size ≤ k) ∧ k < w'.heap.size) S') (hL : ∃ L, (∀ k ∈ L, w1.heap.size ≤ k ∧ k < wk.heap.size) ∧ Upd L wk w') : Two w w1 w' b1 bx S' := by
  obtain ⟨L, hL, U⟩ := hL
  have h1 := h.pos
  have h2 := h.le
  have h3 := h.two.low bx h.two.own
  have h4 := h.two.own.1
  refine ⟨h.err.later U (fun hm => by have := (hL 0 hm).1; omega), h.one.later U (fun k hk hm => by have := (hL k hm).1; omega), ?_, h.upd.trans' U (fun x hx hl => by have := (hL x hx).1; omega), h1, h2⟩
  obtain ⟨wb, H, hc, hw⟩ := hb.ex
  refine ⟨hb.lt, hb.self, ⟨wb, H, hc, hw.mono (fun k hk hl => ⟨⟨?_, hl⟩, hk.2⟩)⟩, ⟨h4, hb.lt⟩, fun k hk => hk.2, hb.fine, hb.terms, hb.saids⟩
  rcases hk.1.1 with h5 | h5
  · exact h5.1
  · omega

set_option maxHeartbeats 4000000 in
set_option maxRecDepth 100000 in
theorem opened_any (w : World) (hE : ErrTab w) : Calls Tryd.prog 12 #[] w fun e w' => ∃ bb, e = .returned (.pointer (some ⟨bb, 0, none⟩)) ∧ BookAt w' bb (fun k => w.heap.size ≤ k ∧ k < w'.heap.size) noWS ∧ Upd [] w w' := by
  have HN := hide (new_any w)
  have HN2 := hide (fun w1 : World => new_any w1)
  have HS := hide (fun (w1 w2 : World) (b1 bx : Nat) (h : Two w w1 w2 b1 bx noWS) => say_any opS w2 bx _ noWS (by decide) h.two h.err)
  have HP := hide (fun (w1 w3 : World) (b1 bx : Nat) (h : Two w w1 w3 b1 bx (sayOf noWS opS).2) => follows_any opP w3 bx _ (sayOf noWS opS).2 (by decide) h.two h.err)
  have HQ := hide (fun (w1 w3 : World) (b1 bx : Nat) (h : Two w w1 w3 b1 bx (sayOf noWS opS).2) => follows_any opQ w3 bx _ (sayOf noWS opS).2 (by decide) h.two h.err)
  rw [open_p] at HP
  rw [open_q] at HQ
  rw [open_say] at HS
  unfold opS opP opQ at *
  simp only [Int.natCast_zero] at HS HP HQ
  generalize (sayOf noWS _).2 = S1 at *
  have h0 := hE.1
  have HE := hide hE
  clear hE
  go_enter Tryd.func12, Tryd.ntmps12
  go_upto_region 2 with (go_at_call 23; refine HN.out.mono ?_; rintro e w1 ⟨b1, rfl, hb1, hu1⟩; have Hb1 := hide hb1; have Hu1 := hide hu1; clear hb1 hu1)
  go_upto_region 5 with (go_at_call 23; refine (HN2.out w1).mono ?_; rintro e w2 ⟨b2, rfl, hb2, hu2⟩; have H2 := hide (⟨(HE.out.later Hu1.out (by simp)).later hu2 (by simp), Hb1.out.later hu2 (fun _ _ => by simp), hb2, Hu1.out.trans hu2, h0, Hu1.out.size⟩ : Two w w1 w2 b1 b2 noWS); clear hb2 hu2)
  clear HN HN2 Hb1 Hu1 HE
  go_wp2_with (first
    | (go_at_call 14; refine (HS.out w1 w2 b1 b2 H2.out).mono ?_; rintro e w3 ⟨rfl, hb3, hL3⟩; have H3 := hide (H2.out.next hb3 hL3); clear hb3 hL3)
    | (go_at_call_of 25 (Value.string ⟨#[102, 40, 102, 40, 97, 41, 41, 32, 61, 32, 97]⟩); refine (HP.out w1 w3 b1 b2 H3.out).mono ?_; rintro e w4 ⟨rfl, hb4, hL4⟩; have H4 := hide (H3.out.next hb4 hL4); clear hb4 hL4)
    | (go_at_call_of 25 (Value.string ⟨#[102, 40, 98, 41, 32, 61, 32, 98]⟩); refine (HQ.out w1 w4 b1 b2 H4.out).mono ?_; rintro e w5 ⟨rfl, hb5, hL5⟩; have H5 := hide (H4.out.next hb5 hL5); clear hb5 hL5))
  go_ret
  have h5 := H5.out
  have hlt : w1.heap.size ≤ w5.heap.size := by have := h5.two.low b2 h5.two.own; have := h5.two.own.1; omega
  obtain ⟨wb, H, hc, hw⟩ := h5.one.ex
  exact ⟨b1, rfl, ⟨h5.one.lt, h5.one.self, ⟨wb, H, hc, hw.mono (fun k hk hl => ⟨⟨hk.1.1, hl⟩, hk.2⟩)⟩, ⟨h5.one.own.1, h5.one.lt⟩, fun k hk => hk.2, h5.one.fine, h5.one.terms, h5.one.saids⟩, h5.upd⟩
end Go.Proofs.YtmfkpllnmmfpiaaDoor

/-
  'Powers', walked: it answers true.
-/
namespace Go.Proofs.YtmfkpllnmmfpiaaDoor
open Go.RowKit

/-- A Book made since w. -/
structure One (w wk : World) (bb : Nat) (S : WS) : Prop where
  err : ErrTab wk
  book : BookAt wk bb (fun k => w.heap.size ≤ k ∧ k < wk.heap.size) S
  upd : Upd [] w wk
  pos : 0 < w.heap.size
theorem One.next {w wk w' : World} {bb : Nat} {S S' : WS} (h : One w wk bb S) (hb : BookAt w' bb (fun k => ((w.heap.size ≤ k ∧ k < wk.heap.size) ∨ wk.heap.size ≤ k) ∧ k < w'.heap.size) S') (hL : ∃ L, (∀ k ∈ L, w.heap.size ≤ k ∧ k < wk.heap.size) ∧ Upd L wk w') : One w w' bb S' := by
  obtain ⟨L, hL, U⟩ := hL
  have h1 := h.pos
  have h3 := h.book.low bb h.book.own
  have h4 := h.book.own.1
  refine ⟨h.err.later U (fun hm => by have := (hL 0 hm).1; omega), ?_, h.upd.trans' U (fun x hx hl => by have := (hL x hx).1; omega), h1⟩
  obtain ⟨wb, H, hc, hw⟩ := hb.ex
  refine ⟨hb.lt, hb.self, ⟨wb, H, hc, hw.mono (fun k hk hl => ⟨⟨?_, hl⟩, hk.2⟩)⟩, ⟨h4, hb.lt⟩, fun k hk => hk.2, hb.fine, hb.terms, hb.saids⟩
  rcases hk.1.1 with h5 | h5
  · exact h5.1
  · have := h.upd.size; omega

theorem pick_nat (c : Int) (n : Nat) (hc0 : -9223372036854775808 ≤ c) (hc1 : c ≤ 9223372036854775807) (hn : 0 < n) (hn1 : n ≤ 1000) : ∃ a : Nat, a < n ∧ ∀ w, Calls Tryd.prog 13 #[.int .i64 c, .int .i64 (n : Int)] w fun e w' => e = .returned (.int .i64 (a : Int)) ∧ w' = w := by
  have h := pickZ_lt (c := c) (n := (n : Int)) (by omega)
  refine ⟨(pickZ c n).toNat, by omega, fun w => ?_⟩
  have e : (((pickZ c n).toNat : Nat) : Int) = pickZ c n := by omega
  rw [e]
  exact pick_any c n w hc0 hc1 (by omega) (by omega)

set_option maxHeartbeats 8000000 in
set_option maxRecDepth 100000 in
theorem powers_any (m n k : Int) (w : World) (hE : ErrTab w) (hm0 : -9223372036854775808 ≤ m) (hm1 : m ≤ 9223372036854775807) (hn0 : -9223372036854775808 ≤ n) (hn1 : n ≤ 9223372036854775807) (hk0 : -9223372036854775808 ≤ k) (hk1 : k ≤ 9223372036854775807) :
    Calls Tryd.prog 5 #[.int .i64 m, .int .i64 n, .int .i64 k] w fun e w' => e = .returned (.bool true) ∧ Upd [] w w' := by
  obtain ⟨a, ha, Pm⟩ := pick_nat m 12 hm0 hm1 (by omega) (by omega)
  obtain ⟨b, hb, Pn⟩ := pick_nat n 12 hn0 hn1 (by omega) (by omega)
  obtain ⟨c, hc, Pk⟩ := pick_nat k 13 hk0 hk1 (by omega) (by omega)
  have HPm : Hid (∀ w, Calls Tryd.prog 13 #[.int .i64 m, .int .i64 12] w fun e w' => e = .returned (.int .i64 (a : Int)) ∧ w' = w) := Pm
  have HPn : Hid (∀ w, Calls Tryd.prog 13 #[.int .i64 n, .int .i64 12] w fun e w' => e = .returned (.int .i64 (b : Int)) ∧ w' = w) := Pn
  have HPk : Hid (∀ w, Calls Tryd.prog 13 #[.int .i64 k, .int .i64 13] w fun e w' => e = .returned (.int .i64 (c : Int)) ∧ w' = w) := Pk
  obtain ⟨A1, A2⟩ := PowWeb.none.sayOf (e := 1 + a) (by omega) (by omega) (by simp)
  obtain ⟨B1, B2⟩ := A2.sayOf (e := 1 + b) (by omega) (by omega) (by simp)
  have F1 := B2.followsEq (e := c) (by omega) (by omega)
  have F2 := B2.followsNe (e := c) (by omega) (by omega)
  have CC := clashM_none B2.zero
  have HOp := hide (opened_any w hE)
  have g1 := Nat.gcd_pos_of_pos_left (1 + b) (show 0 < 1 + a by omega)
  have g2 := Nat.gcd_le_left (1 + b) (show 0 < 1 + a by omega)
  have HW1 := hide (fun w' : World => power_any (1 + a) w' (by omega))
  have HW2 := hide (fun w' : World => power_any (1 + b) w' (by omega))
  have HW3 := hide (fun w' : World => power_any c w' (by omega))
  have HG := hide (fun w' : World => gcd_any (1 + a) (1 + b) w' (by omega) (by omega))
  have z1 := powT_size (1 + a)
  have z2 := powT_size (1 + b)
  have z3 := powT_size c
  have hsz : ∀ e, e ≤ 12 → (eqT e).size ≤ maxLen := fun e he => by
    rw [← powT_eq]
    have := powT_size e
    simp only [ByteArray.size_append]
    show _ + 4 ≤ _
    unfold maxLen
    omega
  have hsz' : ∀ e, e ≤ 12 → (neT e).size ≤ maxLen := fun e he => by
    rw [← powT_ne]
    have := powT_size e
    simp only [ByteArray.size_append]
    show _ + 5 ≤ _
    unfold maxLen
    omega
  have HS1 := hide (fun (wk : World) (bb : Nat) (h : One w wk bb noWS) => say_any (eqT (1 + a)) wk bb _ noWS (hsz _ (by omega)) h.book h.err)
  rw [A1] at HS1
  have HS2 := hide (fun (wk : World) (bb : Nat) (h : One w wk bb (sayOf noWS (eqT (1 + a))).2) => say_any (eqT (1 + b)) wk bb _ _ (hsz _ (by omega)) h.book h.err)
  rw [B1] at HS2
  have HF1 := hide (fun (wk : World) (bb : Nat) (h : One w wk bb (sayOf (sayOf noWS (eqT (1 + a))).2 (eqT (1 + b))).2) => keepFollows_any (eqT c) wk bb _ _ (hsz _ (by omega)) h.book h.err F1)
  have HF2 := hide (fun (wk : World) (bb : Nat) (h : One w wk bb (sayOf (sayOf noWS (eqT (1 + a))).2 (eqT (1 + b))).2) => keepFollows_any (neT c) wk bb _ _ (hsz' _ (by omega)) h.book h.err F2)
  have HCl := hide (fun (wk : World) (bb : Nat) (h : One w wk bb (sayOf (sayOf noWS (eqT (1 + a))).2 (eqT (1 + b))).2) => clash_any wk bb _ _ h.book)
  rw [CC] at HCl
  clear A1 A2 B1 B2 F1 F2 CC hsz hsz' Pm Pn Pk
  generalize (sayOf (sayOf noWS (eqT (1 + a))).2 (eqT (1 + b))).2 = S2 at *
  generalize (sayOf noWS (eqT (1 + a))).2 = S1 at *
  rw [← powT_eq] at HS1 HS2 HF1
  rw [← powT_ne] at HF2
  have h0 := hE.1
  have HE := hide hE
  clear hE
  generalize powT (1 + a) = t1 at *
  generalize powT (1 + b) = t2 at *
  generalize powT c = t3 at *
  generalize Nat.gcd (1 + a) (1 + b) = g at *
  have y1 : t1.size ≤ 1000 := by omega
  have y2 : t2.size ≤ 1000 := by omega
  have y3 : t3.size ≤ 1000 := by omega
  clear z1 z2 z3
  simp only [Int.natCast_add, Int.natCast_one, Int.natCast_zero] at HW1 HW2 HG HS1 HS2
  have hg0 : (0 : Int) < (g : Int) := by omega
  by_cases hk : c % g = 0
  · have hk' : ((c : Int) % (g : Int) == 0) = true := by
      have : (c : Int) % (g : Int) = ((c % g : Nat) : Int) := (Int.natCast_emod c g).symm
      rw [this, hk]
      rfl
    rw [decide_eq_true hk] at HF1
    clear hk
    go_enter Tryd.func5, Tryd.ntmps5
    go_upto_region 4 with (go_at_call 12; refine HOp.out.mono ?_; rintro e w1 ⟨bb, rfl, hb1, hu1⟩; have H1 := hide (⟨HE.out.later hu1 (by simp), hb1, hu1, h0⟩ : One w w1 bb noWS); clear hb1 hu1)
    clear HOp HE
    go_upto_region 8 with (first
      | (go_at_call_of 13 (Value.int .i64 m); refine (HPm.out _).mono ?_; rintro e w9 ⟨rfl, hw9⟩; rw [hw9]; clear hw9 w9)
      | (go_at_call_of 13 (Value.int .i64 n); refine (HPn.out _).mono ?_; rintro e w9 ⟨rfl, hw9⟩; rw [hw9]; clear hw9 w9)
      | (go_at_call_of 13 (Value.int .i64 k); refine (HPk.out _).mono ?_; rintro e w9 ⟨rfl, hw9⟩; rw [hw9]; clear hw9 w9)
      | (go_at_call 18; refine (HW1.out _).mono ?_; rintro e w9 ⟨rfl, hw9⟩; rw [hw9]; clear hw9 w9)
      | (go_at_call 14; refine (HS1.out w1 bb H1.out).mono ?_; rintro e w2 ⟨rfl, hb2, hL2⟩; have H2 := hide (H1.out.next hb2 hL2); clear hb2 hL2))
    clear HPm HPn HPk HW1 HS1
    go_upto_region 9 with (first
      | (go_at_call 18; refine (HW2.out _).mono ?_; rintro e w9 ⟨rfl, hw9⟩; rw [hw9]; clear hw9 w9)
      | (go_at_call 14; refine (HS2.out w2 bb H2.out).mono ?_; rintro e w3 ⟨rfl, hb3, hL3⟩; have H3 := hide (H2.out.next hb3 hL3); clear hb3 hL3))
    clear HW2 HS2 H1 H2
    go_upto_region 10 with (first
      | (go_at_call 18; refine (HW3.out _).mono ?_; rintro e w9 ⟨rfl, hw9⟩; rw [hw9]; clear hw9 w9)
      | (go_at_call 16; refine (HF1.out w3 bb H3.out).mono ?_; rintro e w4 ⟨rfl, hb4, hL4⟩; have H4 := hide (H3.out.next hb4 hL4); clear hb4 hL4))
    go_upto_region 11 with (first
      | (go_at_call 18; refine (HW3.out _).mono ?_; rintro e w9 ⟨rfl, hw9⟩; rw [hw9]; clear hw9 w9)
      | (go_at_call 16; refine (HF2.out w4 bb H4.out).mono ?_; rintro e w5 ⟨rfl, hb5, hL5⟩; have H5 := hide (H4.out.next hb5 hL5); clear hb5 hL5))
    clear HW3 HF1 HF2 H3 H4
    go_wp2_with (first
      | (go_at_call 19; refine (HG.out _).mono ?_; rintro e w9 ⟨rfl, hw9⟩; rw [hw9]; clear hw9 w9)
      | (go_at_call 17; refine (HCl.out w5 bb H5.out).mono ?_; rintro e w6 ⟨rfl, hu6⟩; have Hu6 := hide hu6; clear hu6))
    go_ret
    exact ⟨rfl, H5.out.upd.trans Hu6.out⟩
  · have hk' : ((c : Int) % (g : Int) == 0) = false := by
      have : (c : Int) % (g : Int) = ((c % g : Nat) : Int) := (Int.natCast_emod c g).symm
      rw [this]
      simp
      omega
    rw [decide_eq_false hk] at HF1
    clear hk
    go_enter Tryd.func5, Tryd.ntmps5
    go_upto_region 4 with (go_at_call 12; refine HOp.out.mono ?_; rintro e w1 ⟨bb, rfl, hb1, hu1⟩; have H1 := hide (⟨HE.out.later hu1 (by simp), hb1, hu1, h0⟩ : One w w1 bb noWS); clear hb1 hu1)
    clear HOp HE
    go_upto_region 8 with (first
      | (go_at_call_of 13 (Value.int .i64 m); refine (HPm.out _).mono ?_; rintro e w9 ⟨rfl, hw9⟩; rw [hw9]; clear hw9 w9)
      | (go_at_call_of 13 (Value.int .i64 n); refine (HPn.out _).mono ?_; rintro e w9 ⟨rfl, hw9⟩; rw [hw9]; clear hw9 w9)
      | (go_at_call_of 13 (Value.int .i64 k); refine (HPk.out _).mono ?_; rintro e w9 ⟨rfl, hw9⟩; rw [hw9]; clear hw9 w9)
      | (go_at_call 18; refine (HW1.out _).mono ?_; rintro e w9 ⟨rfl, hw9⟩; rw [hw9]; clear hw9 w9)
      | (go_at_call 14; refine (HS1.out w1 bb H1.out).mono ?_; rintro e w2 ⟨rfl, hb2, hL2⟩; have H2 := hide (H1.out.next hb2 hL2); clear hb2 hL2))
    clear HPm HPn HPk HW1 HS1
    go_upto_region 9 with (first
      | (go_at_call 18; refine (HW2.out _).mono ?_; rintro e w9 ⟨rfl, hw9⟩; rw [hw9]; clear hw9 w9)
      | (go_at_call 14; refine (HS2.out w2 bb H2.out).mono ?_; rintro e w3 ⟨rfl, hb3, hL3⟩; have H3 := hide (H2.out.next hb3 hL3); clear hb3 hL3))
    clear HW2 HS2 H1 H2
    go_upto_region 10 with (first
      | (go_at_call 18; refine (HW3.out _).mono ?_; rintro e w9 ⟨rfl, hw9⟩; rw [hw9]; clear hw9 w9)
      | (go_at_call 16; refine (HF1.out w3 bb H3.out).mono ?_; rintro e w4 ⟨rfl, hb4, hL4⟩; have H4 := hide (H3.out.next hb4 hL4); clear hb4 hL4))
    go_upto_region 11 with (first
      | (go_at_call 18; refine (HW3.out _).mono ?_; rintro e w9 ⟨rfl, hw9⟩; rw [hw9]; clear hw9 w9)
      | (go_at_call 16; refine (HF2.out w4 bb H4.out).mono ?_; rintro e w5 ⟨rfl, hb5, hL5⟩; have H5 := hide (H4.out.next hb5 hL5); clear hb5 hL5))
    clear HW3 HF1 HF2 H3 H4
    go_wp2_with (first
      | (go_at_call 19; refine (HG.out _).mono ?_; rintro e w9 ⟨rfl, hw9⟩; rw [hw9]; clear hw9 w9)
      | (go_at_call 17; refine (HCl.out w5 bb H5.out).mono ?_; rintro e w6 ⟨rfl, hu6⟩; have Hu6 := hide hu6; clear hu6))
    go_ret
    exact ⟨rfl, H5.out.upd.trans Hu6.out⟩
end Go.Proofs.YtmfkpllnmmfpiaaDoor
