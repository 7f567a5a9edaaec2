/-
  The small functions that the statements without the document's answer are made of.
-/
import Derived.Test.YtmfkpllnmmfpiaaDoorPowBookH
namespace Go.Proofs.YtmfkpllnmmfpiaaDoor
open Go.RowKit

/-- A number of n, by whatever number. -/
def pickZ (c n : Int) : Int := (if c < 0 then -(c + 1) else c) % n
theorem pickZ_lt {c n : Int} (h : 0 < n) : 0 ≤ pickZ c n ∧ pickZ c n < n := ⟨Int.emod_nonneg _ (by omega), Int.emod_lt_of_pos _ h⟩

set_option maxHeartbeats 400000 in
theorem pick_any (c n : Int) (w : World) (hc0 : -9223372036854775808 ≤ c) (hc1 : c ≤ 9223372036854775807) (hn : 0 < n) (hn1 : n ≤ 1000) :
    Calls Tryd.prog 13 #[.int .i64 c, .int .i64 n] w fun e w' => e = .returned (.int .i64 (pickZ c n)) ∧ w' = w := by
  by_cases hc : c < 0
  · go_enter Tryd.func13, Tryd.ntmps13
    go_wp2
    go_ret
    refine ⟨?_, rfl⟩
    show Ending.returned (.int .i64 (-((c + 1).tmod n))) = _
    have e : pickZ c n = -((c + 1).tmod n) := by
      unfold pickZ
      rw [if_pos hc, ← Int.neg_tmod, Int.tmod_eq_emod_of_nonneg (by omega)]
    rw [e]
  · have hc' : 0 ≤ c := by omega
    have e : Hid (pickZ c n = c % n) := by show _ = _; unfold pickZ; rw [if_neg hc]
    clear hc
    go_enter Tryd.func13, Tryd.ntmps13
    go_wp2
    go_ret
    exact ⟨by rw [e.out]; rfl, rfl⟩

set_option maxHeartbeats 400000 in
theorem gcd_any (m n : Nat) (w : World) (hm : m ≤ 1000) (hn : n ≤ 1000) :
    Calls Tryd.prog 19 #[.int .i64 m, .int .i64 n] w fun e w' => e = .returned (.int .i64 (Nat.gcd m n : Nat)) ∧ w' = w := by
  go_enter Tryd.func19, Tryd.ntmps19
  go_wp2
  go_loop [0, 1] (fun x y => ∃ a b : Nat, a ≤ 1000 ∧ b ≤ 1000 ∧ Hid (Nat.gcd a b = Nat.gcd m n) ∧ x = .int .i64 a ∧ y = .int .i64 b) (fun _ y => (intOf y).toNat)
  case atStart => exact ⟨m, n, hm, hn, rfl, rfl, rfl⟩
  case round =>
    obtain ⟨a, b, ha, hb, hg, rfl, rfl⟩ := hrel
    by_cases h0 : 0 < b
    · have h0' : (0 : Int) < (b : Int) := by omega
      go_wp2
      refine ⟨⟨b, a % b, hb, by have := Nat.mod_lt a h0; omega, ?_, rfl, by rw [Int.natCast_emod]⟩, ?_⟩
      · show _ = _
        rw [← hg.out, Nat.gcd_comm a b, Nat.gcd_rec b a, Nat.gcd_comm]
      · have := Nat.mod_lt a h0
        have e : ((a : Int) % (b : Int)).toNat = a % b := by rw [← Int.natCast_emod]; rfl
        simp only [intOf]
        rw [e]
        exact this
    · obtain rfl : b = 0 := by omega
      have Hg : Hid (a = Nat.gcd m n) := by show _ = _; rw [← hg.out, Nat.gcd_zero_right]
      clear hg
      go_wp2
      go_ret
      exact ⟨by rw [← Hg.out]; rfl, rfl⟩

theorem bytes_append (a b : List UInt8) : (⟨a.toArray⟩ : ByteArray) ++ (⟨b.toArray⟩ : ByteArray) = ⟨(a ++ b).toArray⟩ := by
  apply ByteArray.ext
  simp
theorem powB_length : ∀ n, (powB n).length = 3 * n + 1
  | 0 => rfl
  | n + 1 => by simp [powB, powB_length n]; omega
theorem powT_size (n : Nat) : (powT n).size = 3 * n + 1 := by
  show (powB n).toArray.size = _
  simp [powB_length]
theorem powT_succ (n : Nat) : (⟨#[102, 40]⟩ : ByteArray) ++ powT n ++ ⟨#[41]⟩ = powT (n + 1) := by
  show (⟨([102, 40] : List UInt8).toArray⟩ : ByteArray) ++ ⟨(powB n).toArray⟩ ++ ⟨([41] : List UInt8).toArray⟩ = _
  rw [bytes_append, bytes_append]
  rfl
theorem powT_eq (n : Nat) : powT n ++ (⟨#[32, 61, 32, 97]⟩ : ByteArray) = eqT n := by
  show (⟨(powB n).toArray⟩ : ByteArray) ++ ⟨([32, 61, 32, 97] : List UInt8).toArray⟩ = _
  rw [bytes_append]
  rfl
theorem powT_ne (n : Nat) : powT n ++ (⟨#[32, 33, 61, 32, 97]⟩ : ByteArray) = neT n := by
  show (⟨(powB n).toArray⟩ : ByteArray) ++ ⟨([32, 33, 61, 32, 97] : List UInt8).toArray⟩ = _
  rw [bytes_append]
  rfl

set_option maxHeartbeats 400000 in
theorem power_any (n : Nat) (w : World) (hn : n ≤ 1000) :
    Calls Tryd.prog 18 #[.int .i64 n] w fun e w' => e = .returned (.string (powT n)) ∧ w' = w := by
  go_enter Tryd.func18, Tryd.ntmps18
  go_wp2
  go_loop [3, 4] (fun x y => ∃ j : Nat, j ≤ n ∧ x = .string (powT j) ∧ y = .int .i64 j) (fun _ y => n - (intOf y).toNat)
  case atStart => exact ⟨0, Nat.zero_le _, rfl, rfl⟩
  case round =>
    obtain ⟨j, hj, rfl, rfl⟩ := hrel
    have hsz := powT_size j
    by_cases hjn : j < n
    · have hjn' : (j : Int) < (n : Int) := by omega
      have Hs := hide (powT_succ j)
      generalize powT j = t at *
      have hsz' : t.size ≤ 4000 := by omega
      clear hsz
      go_wp2
      exact ⟨⟨j + 1, by omega, by rw [Hs.out], by go_num⟩, by simp [intOf]; omega⟩
    · obtain rfl : j = n := by omega
      have hjn' : ¬ (j : Int) < (j : Int) := by omega
      clear hsz
      go_wp2
      go_ret
      exact ⟨rfl, rfl⟩

/-- A Book and what belongs to it, beside other memory. -/
theorem BookAt.beside {w w' : World} {L : List Nat} {b : Nat} {Z Y : Nat → Prop} {S : WS} (h : BookAt w b Z S) (U : Upd L w w') (hL : ∀ k ∈ L, Y k) (hd : ∀ k, Z k → ¬ Y k) : BookAt w' b Z S := h.later U fun k hk hm => hd k hk (hL k hm)

set_option maxHeartbeats 1000000 in
theorem keepFollows_any (s : ByteArray) (w : World) (bb : Nat) (Z : Nat → Prop) (S : WS) (hmax : s.size ≤ maxLen) (h : BookAt w bb Z S) (hE : ErrTab w) {f : Bool} (hf : followsOf S s = (f, 0, 0)) :
    Calls Tryd.prog 16 #[.pointer (some ⟨bb, 0, none⟩), .string s] w fun e w' => e = .returned (.tuple #[.bool f, .bool true]) ∧ BookAt w' bb (fun k => (Z k ∨ w.heap.size ≤ k) ∧ k < w'.heap.size) S ∧ ∃ L, (∀ k ∈ L, Z k) ∧ Upd L w w' := by
  have HF := follows_any s w bb Z S hmax h hE
  rw [hf] at HF
  have HF := hide HF
  clear h hE hf
  go_enter Tryd.func16, Tryd.ntmps16
  go_wp2_with (go_at_call 25; refine HF.out.mono ?_; rintro e w2 ⟨rfl, hb2, hL2⟩; have Hb2 := hide hb2; have HL2 := hide hL2; clear hb2 hL2)
  go_ret2
  exact ⟨rfl, Hb2.out, HL2.out⟩

/-- Two Books, one behind the other. -/
structure Two (w w1 wk : World) (b1 bx : Nat) (S : WS) : Prop where
  err : ErrTab wk
  one : BookAt wk b1 (fun k => w.heap.size ≤ k ∧ k < w1.heap.size) noWS
  two : BookAt wk bx (fun k => w1.heap.size ≤ k ∧ k < wk.heap.size) S
  upd : Upd [] w wk
  pos : 0 < w.heap.size
  le : w.heap.size ≤ w1.heap.size
theorem Two.next {w w1 wk w' : World} {b1 bx : Nat} {S S' : WS} (h : Two w w1 wk b1 bx S) (hb : BookAt w' bx (fun k => ((w1.heap.size ≤ k ∧ k < wk.heap.size) ∨ wk.heap.size ≤ k) ∧ k < w'.heap.size) S') (hL : ∃ L, (∀ k ∈ L, w1.heap.size ≤ k ∧ k < wk.heap.size) ∧ Upd L wk w') : Two w w1 w' b1 bx S' := by
  obtain ⟨L, hL, U⟩ := hL
  have h1 := h.pos
  have h2 := h.le
  have h3 := h.two.low bx h.two.own
  have h4 := h.two.own.1
  refine ⟨h.err.later U (fun hm => by have := (hL 0 hm).1; omega), h.one.later U (fun k hk hm => by have := (hL k hm).1; omega), ?_, h.upd.trans' U (fun x hx hl => by have := (hL x hx).1; omega), h1, h2⟩
  obtain ⟨wb, H, hc, hw⟩ := hb.ex
  refine ⟨hb.lt, hb.self, ⟨wb, H, hc, hw.mono (fun k hk hl => ⟨⟨?_, hl⟩, hk.2⟩)⟩, ⟨h4, hb.lt⟩, fun k hk => hk.2, hb.fine, hb.terms, hb.saids⟩
  rcases hk.1.1 with h5 | h5
  · exact h5.1
  · omega

set_option maxHeartbeats 4000000 in
set_option maxRecDepth 100000 in
theorem opened_any (w : World) (hE : ErrTab w) : Calls Tryd.prog 12 #[] w fun e w' => ∃ bb, e = .returned (.pointer (some ⟨bb, 0, none⟩)) ∧ BookAt w' bb (fun k => w.heap.size ≤ k ∧ k < w'.heap.size) noWS ∧ Upd [] w w' := by
  have HN := hide (new_any w)
  have HN2 := hide (fun w1 : World => new_any w1)
  have HS := hide (fun (w1 w2 : World) (b1 bx : Nat) (h : Two w w1 w2 b1 bx noWS) => say_any opS w2 bx _ noWS (by decide) h.two h.err)
  have HP := hide (fun (w1 w3 : World) (b1 bx : Nat) (h : Two w w1 w3 b1 bx (sayOf noWS opS).2) => follows_any opP w3 bx _ (sayOf noWS opS).2 (by decide) h.two h.err)
  have HQ := hide (fun (w1 w3 : World) (b1 bx : Nat) (h : Two w w1 w3 b1 bx (sayOf noWS opS).2) => follows_any opQ w3 bx _ (sayOf noWS opS).2 (by decide) h.two h.err)
  rw [open_p] at HP
  rw [open_q] at HQ
  rw [open_say] at HS
  unfold opS opP opQ at *
  simp only [Int.natCast_zero] at HS HP HQ
  generalize (sayOf noWS _).2 = S1 at *
  have h0 := hE.1
  have HE := hide hE
  clear hE
  go_enter Tryd.func12, Tryd.ntmps12
  go_upto_region 2 with (go_at_call 23; refine HN.out.mono ?_; rintro e w1 ⟨b1, rfl, hb1, hu1⟩; have Hb1 := hide hb1; have Hu1 := hide hu1; clear hb1 hu1)
  go_upto_region 5 with (go_at_call 23; refine (HN2.out w1).mono ?_; rintro e w2 ⟨b2, rfl, hb2, hu2⟩; have H2 := hide (⟨(HE.out.later Hu1.out (by simp)).later hu2 (by simp), Hb1.out.later hu2 (fun _ _ => by simp), hb2, Hu1.out.trans hu2, h0, Hu1.out.size⟩ : Two w w1 w2 b1 b2 noWS); clear hb2 hu2)
  clear HN HN2 Hb1 Hu1 HE
  go_wp2_with (first
    | (go_at_call 14; refine (HS.out w1 w2 b1 b2 H2.out).mono ?_; rintro e w3 ⟨rfl, hb3, hL3⟩; have H3 := hide (H2.out.next hb3 hL3); clear hb3 hL3)
    | (go_at_call_of 25 (Value.string ⟨#[102, 40, 102, 40, 97, 41, 41, 32, 61, 32, 97]⟩); refine (HP.out w1 w3 b1 b2 H3.out).mono ?_; rintro e w4 ⟨rfl, hb4, hL4⟩; have H4 := hide (H3.out.next hb4 hL4); clear hb4 hL4)
    | (go_at_call_of 25 (Value.string ⟨#[102, 40, 98, 41, 32, 61, 32, 98]⟩); refine (HQ.out w1 w4 b1 b2 H4.out).mono ?_; rintro e w5 ⟨rfl, hb5, hL5⟩; have H5 := hide (H4.out.next hb5 hL5); clear hb5 hL5))
  go_ret
  have h5 := H5.out
  have hlt : w1.heap.size ≤ w5.heap.size := by have := h5.two.low b2 h5.two.own; have := h5.two.own.1; omega
  obtain ⟨wb, H, hc, hw⟩ := h5.one.ex
  exact ⟨b1, rfl, ⟨h5.one.lt, h5.one.self, ⟨wb, H, hc, hw.mono (fun k hk hl => ⟨⟨hk.1.1, hl⟩, hk.2⟩)⟩, ⟨h5.one.own.1, h5.one.lt⟩, fun k hk => hk.2, h5.one.fine, h5.one.terms, h5.one.saids⟩, h5.upd⟩
end Go.Proofs.YtmfkpllnmmfpiaaDoor
