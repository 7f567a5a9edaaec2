/-
  Numbers that came in; small terms and sentences out of raw numbers, walked.
-/
import Derived.Test.YtmfkpllnmmfpiaaDoorPowersH
import Derived.Test.YtmfkpllnmmfpiaaDoorS3CountH
import Derived.Laws.BytesArg
import Derived.Test.YtmfkpllnmmfpiaaDoorRowH
import Derived.ChangeOld
import Derived.Below
namespace Go.Proofs.YtmfkpllnmmfpiaaDoor
open Go.RowKit

/-- Numbers that came in. -/
structure RawIs (w : World) (ao : Option Addr) (zs : List Int) : Prop where
  cells : ∀ i, i < zs.length → ∃ b off, ao = some ⟨b, off, none⟩ ∧ w.cell? ⟨b, off + i, none⟩ = some (.int .i64 (zs.getD i 0))
  fits : ∀ i, -9223372036854775808 ≤ zs.getD i 0 ∧ zs.getD i 0 ≤ 9223372036854775807
theorem RawIs.later {w w' : World} {ao : Option Addr} {zs : List Int} (h : RawIs w ao zs) (U : Upd [] w w') : RawIs w' ao zs :=
  ⟨fun i hi => let ⟨b, off, e, hc⟩ := h.cells i hi; ⟨b, off, e, (U.cell (p := ⟨b, off + i, none⟩) (World.block_lt_of_cell? _ _ hc) (by simp)).trans hc⟩, h.fits⟩
def Fits64 (z : Int) : Prop := -9223372036854775808 ≤ z ∧ z ≤ 9223372036854775807
theorem tdiv_in {z : Int} {d : Int} (h : Fits64 z) (hd : 0 < d) : Fits64 (z.tdiv d) := by
  unfold Fits64 at *
  have h1 : (z.tdiv d).natAbs ≤ z.natAbs := by
    rw [Int.natAbs_tdiv]
    exact Nat.div_le_self _ _
  by_cases h2 : 0 ≤ z
  · have h3 := Int.tdiv_nonneg h2 (by omega : 0 ≤ d)
    omega
  · have h3 : z.tdiv d ≤ 0 := by
      have := Int.tdiv_nonneg (a := -z) (b := d) (by omega) (by omega)
      rw [Int.neg_tdiv] at this
      omega
    omega

/-- The small term of a raw number. -/
def t3Of : Nat → Int → T3
  | 0, c => .v (pickZ c 3).toNat
  | d + 1, c => if pickZ (c.tdiv 3) 4 = 1 ∨ pickZ (c.tdiv 3) 4 = 2 then .f (t3Of d (c.tdiv 12)) else if pickZ (c.tdiv 3) 4 = 3 then .g (t3Of d (c.tdiv 12)) (pickZ c 3).toNat else .v (pickZ c 3).toNat
theorem t3Of_ok : ∀ (d : Nat) (c : Int), (t3Of d c).ok ∧ (t3Of d c).depth ≤ d
  | 0, c => by
    have := pickZ_lt (c := c) (n := 3) (by omega)
    exact ⟨by show (pickZ c 3).toNat < 3; omega, Nat.le_refl _⟩
  | d + 1, c => by
    have h := pickZ_lt (c := c) (n := 3) (by omega)
    obtain ⟨h1, h2⟩ := t3Of_ok d (c.tdiv 12)
    unfold t3Of
    split
    · exact ⟨h1, by simp only [T3.depth]; omega⟩
    · split
      · exact ⟨⟨h1, by omega⟩, by simp only [T3.depth]; omega⟩
      · exact ⟨by show (pickZ c 3).toNat < 3; omega, Nat.zero_le _⟩
def tB (t : T3) : ByteArray := ⟨t.txt.toArray⟩
theorem tB_size (t : T3) (d : Nat) (h : t.depth ≤ d) : (tB t).size ≤ 6 * d + 1 := by
  have := t.len
  show t.txt.toArray.size ≤ _
  simp
  omega
theorem tB_f (t : T3) : (⟨#[102, 40]⟩ : ByteArray) ++ tB t ++ ⟨#[41]⟩ = tB (.f t) := by
  show (⟨([102, 40] : List UInt8).toArray⟩ : ByteArray) ++ ⟨t.txt.toArray⟩ ++ ⟨([41] : List UInt8).toArray⟩ = _
  rw [bytes_append, bytes_append]
  rfl
theorem tB_g (t : T3) (i : Nat) : (⟨#[103, 40]⟩ : ByteArray) ++ tB t ++ ⟨#[44, 32]⟩ ++ vB i ++ ⟨#[41]⟩ = tB (.g t i) := by
  show (⟨([103, 40] : List UInt8).toArray⟩ : ByteArray) ++ ⟨t.txt.toArray⟩ ++ ⟨([44, 32] : List UInt8).toArray⟩ ++ ⟨([UInt8.ofNat (97 + i)] : List UInt8).toArray⟩ ++ ⟨([41] : List UInt8).toArray⟩ = _
  rw [bytes_append, bytes_append, bytes_append, bytes_append]
  congr 2
  simp [T3.txt]
theorem letter_str (x : Nat) (w : World) (hx : (x : Int) < 3) : (convert 91 9 (.slice (some ⟨w.heap.size, 0, none⟩) 1 1)).run Tryd.prog (w.alloc (.cells #[.int .u8 (97 + (x : Int))] 5)) = .ok (.string (vB x)) (w.alloc (.cells #[.int .u8 (97 + (x : Int))] 5)) := by
  rw [run_convert_bytes_arg _ 91 5 Tryd.underlying91 Tryd.underlying5 w.heap.size 0 1 1 [97 + (x : Int)] rfl (fun i hi => by rw [show i = 0 by omega]; go_simp) 9 Tryd.underlying9]
  have e : (97 + (x : Int)).toNat = 97 + x := by omega
  unfold strOfNums vB
  simp [e]

/-- The sentence of a raw number. -/
def s3Of (c : Int) : S3 := ⟨t3Of 2 (c.tdiv 5), !decide (pickZ c 5 = 0), t3Of 2 (c.tdiv 3000)⟩
theorem s3Of_ok (c : Int) : (s3Of c).ok := ⟨(t3Of_ok _ _).1, (t3Of_ok _ _).1, (t3Of_ok _ _).2, (t3Of_ok _ _).2⟩

set_option maxHeartbeats 2000000 in
set_option maxRecDepth 100000 in
theorem term_any : ∀ (d : Nat) (c : Int) (w : World), d ≤ 2 → Fits64 c →
    Calls Tryd.prog 42 #[.int .i64 c, .int .i64 (d : Int)] w fun e w' => e = .returned (.string (tB (t3Of d c))) ∧ Upd [] w w' := by
  intro d
  induction d with
  | zero =>
    intro c w _ hc
    obtain ⟨x, hx, Px⟩ : ∃ x : Nat, pickZ c 3 = (x : Int) ∧ x < 3 := by have := pickZ_lt (c := c) (n := 3) (by omega); exact ⟨(pickZ c 3).toNat, by omega, by omega⟩
    obtain ⟨k, hk, Pk⟩ : ∃ k : Nat, pickZ (c.tdiv 3) 4 = (k : Int) ∧ k < 4 := by have := pickZ_lt (c := c.tdiv 3) (n := 4) (by omega); exact ⟨(pickZ (c.tdiv 3) 4).toNat, by omega, by omega⟩
    have h3 := tdiv_in hc (d := 3) (by omega)
    have HP3 := hide (fun w' : World => pick_any c 3 w' hc.1 hc.2 (by omega) (by omega))
    have HP4 := hide (fun w' : World => pick_any (c.tdiv 3) 4 w' h3.1 h3.2 (by omega) (by omega))
    rw [hx] at HP3
    rw [hk] at HP4
    have hd := letter_str x w (by omega)
    have HT : Hid (tB (t3Of 0 c) = vB x) := by show _ = _; unfold t3Of tB; rw [hx]; rfl
    have hx3 : (x : Int) < 3 := by omega
    unfold Fits64 at hc h3
    clear hx hk
    match k, Pk with
    | 0, _ =>
      go_enter Tryd.func42, Tryd.ntmps42
      go_wp2_with (first
        | (go_at_call_of 13 (Value.int .i64 3); refine (HP3.out _).mono ?_; rintro e w9 ⟨rfl, hw9⟩; rw [hw9]; clear hw9 w9)
        | (go_at_call_of 13 (Value.int .i64 4); refine (HP4.out _).mono ?_; rintro e w9 ⟨rfl, hw9⟩; rw [hw9]; clear hw9 w9))
      go_ret
      exact ⟨by rw [HT.out]; rfl, (Upd.refl [] w).alloc _⟩
    | 1, _ =>
      go_enter Tryd.func42, Tryd.ntmps42
      go_wp2_with (first
        | (go_at_call_of 13 (Value.int .i64 3); refine (HP3.out _).mono ?_; rintro e w9 ⟨rfl, hw9⟩; rw [hw9]; clear hw9 w9)
        | (go_at_call_of 13 (Value.int .i64 4); refine (HP4.out _).mono ?_; rintro e w9 ⟨rfl, hw9⟩; rw [hw9]; clear hw9 w9))
      go_ret
      exact ⟨by rw [HT.out]; rfl, (Upd.refl [] w).alloc _⟩
    | 2, _ =>
      go_enter Tryd.func42, Tryd.ntmps42
      go_wp2_with (first
        | (go_at_call_of 13 (Value.int .i64 3); refine (HP3.out _).mono ?_; rintro e w9 ⟨rfl, hw9⟩; rw [hw9]; clear hw9 w9)
        | (go_at_call_of 13 (Value.int .i64 4); refine (HP4.out _).mono ?_; rintro e w9 ⟨rfl, hw9⟩; rw [hw9]; clear hw9 w9))
      go_ret
      exact ⟨by rw [HT.out]; rfl, (Upd.refl [] w).alloc _⟩
    | 3, _ =>
      go_enter Tryd.func42, Tryd.ntmps42
      go_wp2_with (first
        | (go_at_call_of 13 (Value.int .i64 3); refine (HP3.out _).mono ?_; rintro e w9 ⟨rfl, hw9⟩; rw [hw9]; clear hw9 w9)
        | (go_at_call_of 13 (Value.int .i64 4); refine (HP4.out _).mono ?_; rintro e w9 ⟨rfl, hw9⟩; rw [hw9]; clear hw9 w9))
      go_ret
      exact ⟨by rw [HT.out]; rfl, (Upd.refl [] w).alloc _⟩
    | k + 4, hk => omega
  | succ d ih =>
    intro c w hd2 hc
    obtain ⟨x, hx, Px⟩ : ∃ x : Nat, pickZ c 3 = (x : Int) ∧ x < 3 := by have := pickZ_lt (c := c) (n := 3) (by omega); exact ⟨(pickZ c 3).toNat, by omega, by omega⟩
    obtain ⟨k, hk, Pk⟩ : ∃ k : Nat, pickZ (c.tdiv 3) 4 = (k : Int) ∧ k < 4 := by have := pickZ_lt (c := c.tdiv 3) (n := 4) (by omega); exact ⟨(pickZ (c.tdiv 3) 4).toNat, by omega, by omega⟩
    have h3 := tdiv_in hc (d := 3) (by omega)
    have h12 := tdiv_in hc (d := 12) (by omega)
    have HP3 := hide (fun w' : World => pick_any c 3 w' hc.1 hc.2 (by omega) (by omega))
    have HP4 := hide (fun w' : World => pick_any (c.tdiv 3) 4 w' h3.1 h3.2 (by omega) (by omega))
    have HI := hide (fun w' : World => ih (c.tdiv 12) w' (by omega) h12)
    have hsz := tB_size (t3Of d (c.tdiv 12)) d (t3Of_ok d _).2
    have hvz : (vB x).size = 1 := rfl
    have Hf := hide (tB_f (t3Of d (c.tdiv 12)))
    have Hg := hide (tB_g (t3Of d (c.tdiv 12)) x)
    have HT : Hid (tB (t3Of (d + 1) c) = if (k = 1 ∨ k = 2) then tB (.f (t3Of d (c.tdiv 12))) else if k = 3 then tB (.g (t3Of d (c.tdiv 12)) x) else vB x) := by
      show _ = _
      have e : t3Of (d + 1) c = if (k = 1 ∨ k = 2) then .f (t3Of d (c.tdiv 12)) else if k = 3 then .g (t3Of d (c.tdiv 12)) x else .v x := by
        conv => lhs; unfold t3Of
        rw [hx, hk]
        match k, Pk with
        | 0, _ => rfl
        | 1, _ => rfl
        | 2, _ => rfl
        | 3, _ => rfl
        | k + 4, hk => omega
      rw [e]
      match k, Pk with
      | 0, _ => rfl
      | 1, _ => rfl
      | 2, _ => rfl
      | 3, _ => rfl
      | k + 4, hk => omega
    rw [hx] at HP3
    rw [hk] at HP4
    have hd := letter_str x w (by omega)
    have hx3 : (x : Int) < 3 := by omega
    have hdI : (d : Int) ≤ 1 := by omega
    unfold Fits64 at hc h3 h12
    clear hx hk ih
    generalize tB (t3Of d (c.tdiv 12)) = tt at *
    generalize vB x = vx at *
    have hts : tt.size ≤ 20 := by omega
    clear hsz
    have hvs : vx.size ≤ 1 := by omega
    clear hvz
    match k, Pk with
    | 0, _ =>
      go_enter Tryd.func42, Tryd.ntmps42
      go_wp2_with (first
        | (go_at_call_of 13 (Value.int .i64 3); refine (HP3.out _).mono ?_; rintro e w9 ⟨rfl, hw9⟩; rw [hw9]; clear hw9 w9)
        | (go_at_call_of 13 (Value.int .i64 4); refine (HP4.out _).mono ?_; rintro e w9 ⟨rfl, hw9⟩; rw [hw9]; clear hw9 w9))
      go_ret
      exact ⟨by rw [HT.out]; rfl, (Upd.refl [] w).alloc _⟩
    | 1, _ =>
      go_enter Tryd.func42, Tryd.ntmps42
      go_wp2_with (first
        | (go_at_call_of 13 (Value.int .i64 3); refine (HP3.out _).mono ?_; rintro e w9 ⟨rfl, hw9⟩; rw [hw9]; clear hw9 w9)
        | (go_at_call_of 13 (Value.int .i64 4); refine (HP4.out _).mono ?_; rintro e w9 ⟨rfl, hw9⟩; rw [hw9]; clear hw9 w9)
        | (go_at_call 42; refine (HI.out _).mono ?_; rintro e w2 ⟨rfl, hu2⟩; have Hu2 := hide hu2; clear hu2))
      go_ret
      exact ⟨by have e := HT.out; simp at e; rw [e, ← Hf.out]; rfl, ((Upd.refl [] w).alloc _).trans Hu2.out⟩
    | 2, _ =>
      go_enter Tryd.func42, Tryd.ntmps42
      go_wp2_with (first
        | (go_at_call_of 13 (Value.int .i64 3); refine (HP3.out _).mono ?_; rintro e w9 ⟨rfl, hw9⟩; rw [hw9]; clear hw9 w9)
        | (go_at_call_of 13 (Value.int .i64 4); refine (HP4.out _).mono ?_; rintro e w9 ⟨rfl, hw9⟩; rw [hw9]; clear hw9 w9)
        | (go_at_call 42; refine (HI.out _).mono ?_; rintro e w2 ⟨rfl, hu2⟩; have Hu2 := hide hu2; clear hu2))
      go_ret
      exact ⟨by have e := HT.out; simp at e; rw [e, ← Hf.out]; rfl, ((Upd.refl [] w).alloc _).trans Hu2.out⟩
    | 3, _ =>
      go_enter Tryd.func42, Tryd.ntmps42
      go_wp2_with (first
        | (go_at_call_of 13 (Value.int .i64 3); refine (HP3.out _).mono ?_; rintro e w9 ⟨rfl, hw9⟩; rw [hw9]; clear hw9 w9)
        | (go_at_call_of 13 (Value.int .i64 4); refine (HP4.out _).mono ?_; rintro e w9 ⟨rfl, hw9⟩; rw [hw9]; clear hw9 w9)
        | (go_at_call 42; refine (HI.out _).mono ?_; rintro e w2 ⟨rfl, hu2⟩; have Hu2 := hide hu2; clear hu2))
      go_ret
      exact ⟨by have e := HT.out; simp at e; rw [e, ← Hg.out]; rfl, ((Upd.refl [] w).alloc _).trans Hu2.out⟩
    | k + 4, hk => omega

theorem s3T_eq (l r : T3) : tB l ++ (⟨#[32, 61, 32]⟩ : ByteArray) ++ tB r = s3T l true r := by
  show (⟨l.txt.toArray⟩ : ByteArray) ++ ⟨([32, 61, 32] : List UInt8).toArray⟩ ++ ⟨r.txt.toArray⟩ = _
  rw [bytes_append, bytes_append]
  simp [s3T]
theorem s3T_ne (l r : T3) : tB l ++ (⟨#[32, 33, 61, 32]⟩ : ByteArray) ++ tB r = s3T l false r := by
  show (⟨l.txt.toArray⟩ : ByteArray) ++ ⟨([32, 33, 61, 32] : List UInt8).toArray⟩ ++ ⟨r.txt.toArray⟩ = _
  rw [bytes_append, bytes_append]
  simp [s3T]
set_option maxHeartbeats 1000000 in
set_option maxRecDepth 100000 in
theorem keepSentence_any (c : Int) (w : World) (hc : Fits64 c) :
    Calls Tryd.prog 21 #[.int .i64 c] w fun e w' => e = .returned (.string (s3Of c).text) ∧ Upd [] w w' := by
  have h5 := tdiv_in hc (d := 5) (by omega)
  have h3 := tdiv_in hc (d := 3000) (by omega)
  have HP := hide (fun w' : World => pick_any c 5 w' hc.1 hc.2 (by omega) (by omega))
  have HL := hide (fun w' : World => term_any 2 (c.tdiv 5) w' (by omega) h5)
  have HR := hide (fun w' : World => term_any 2 (c.tdiv 3000) w' (by omega) h3)
  have z1 := tB_size (t3Of 2 (c.tdiv 5)) 2 (t3Of_ok 2 _).2
  have z2 := tB_size (t3Of 2 (c.tdiv 3000)) 2 (t3Of_ok 2 _).2
  have hp := pickZ_lt (c := c) (n := 5) (by omega)
  have HT : Hid ((s3Of c).text = s3T (t3Of 2 (c.tdiv 5)) (!decide (pickZ c 5 = 0)) (t3Of 2 (c.tdiv 3000))) := by show _ = _; rfl
  have He := hide (s3T_eq (t3Of 2 (c.tdiv 5)) (t3Of 2 (c.tdiv 3000)))
  have Hn := hide (s3T_ne (t3Of 2 (c.tdiv 5)) (t3Of 2 (c.tdiv 3000)))
  generalize tB (t3Of 2 (c.tdiv 5)) = l at *
  generalize tB (t3Of 2 (c.tdiv 3000)) = r at *
  have y1 : l.size ≤ 20 := by omega
  have y2 : r.size ≤ 20 := by omega
  clear z1 z2
  unfold Fits64 at hc h5 h3
  obtain ⟨c5, e5⟩ : ∃ c5, c.tdiv 5 = c5 := ⟨_, rfl⟩
  obtain ⟨c3, e3⟩ : ∃ c3, c.tdiv 3000 = c3 := ⟨_, rfl⟩
  rw [e5] at HL HT He Hn h5
  rw [e3] at HR HT He Hn h3
  by_cases h0 : pickZ c 5 = 0
  · rw [h0] at HP
    have HT2 : Hid ((s3Of c).text = s3T (t3Of 2 c5) false (t3Of 2 c3)) := by show _ = _; rw [HT.out, h0]; rfl
    clear h0 hp HT
    go_enter Tryd.func21, Tryd.ntmps21
    go_wp2_with (first
      | (go_at_call 13; refine (HP.out _).mono ?_; rintro e w9 ⟨rfl, hw9⟩; rw [hw9]; clear hw9 w9)
      | (go_at_call_of 42 (Value.int .i64 c5); refine (HL.out _).mono ?_; rintro e w2 ⟨rfl, hu2⟩; have Hu2 := hide hu2; clear hu2)
      | (go_at_call_of 42 (Value.int .i64 c3); refine (HR.out _).mono ?_; rintro e w3 ⟨rfl, hu3⟩; have Hu3 := hide hu3; clear hu3))
    go_ret
    exact ⟨by rw [HT2.out, ← Hn.out]; rfl, Hu2.out.trans Hu3.out⟩
  · have h0' : (pickZ c 5 == 0) = false := by simp [h0]
    have HT2 : Hid ((s3Of c).text = s3T (t3Of 2 c5) true (t3Of 2 c3)) := by show _ = _; rw [HT.out, decide_eq_false h0]; rfl
    generalize pickZ c 5 = z at *
    clear h0 HT
    go_enter Tryd.func21, Tryd.ntmps21
    go_wp2_with (first
      | (go_at_call 13; refine (HP.out _).mono ?_; rintro e w9 ⟨rfl, hw9⟩; rw [hw9]; clear hw9 w9)
      | (go_at_call_of 42 (Value.int .i64 c5); refine (HL.out _).mono ?_; rintro e w2 ⟨rfl, hu2⟩; have Hu2 := hide hu2; clear hu2)
      | (go_at_call_of 42 (Value.int .i64 c3); refine (HR.out _).mono ?_; rintro e w3 ⟨rfl, hu3⟩; have Hu3 := hide hu3; clear hu3))
    go_ret
    exact ⟨by rw [HT2.out, ← He.out]; rfl, Hu2.out.trans Hu3.out⟩

/-- All sentences of raw numbers said, one behind the other. -/
def fillM (S : WS) (l : List Int) : WS := l.foldl (fun S c => (sayOf S (s3Of c).text).2) S
theorem fillM_snoc (S : WS) (l : List Int) (c : Int) : fillM S (l ++ [c]) = (sayOf (fillM S l) (s3Of c).text).2 := by simp [fillM]
theorem fillM_w3 : ∀ (l : List Int) (S : WS) (k : Nat), W3 S k → k + l.length ≤ 24 → W3 (fillM S l) (k + l.length)
  | [], _, _, h, _ => h
  | c :: l, S, k, h, hk => by
    simp only [List.length_cons] at hk
    have h1 := (h.say (by omega) (s3Of_ok c)).2.1
    have h2 := fillM_w3 l _ _ h1 (by omega)
    have e : k + (c :: l).length = k + 1 + l.length := by simp; omega
    rw [e]
    exact h2
end Go.Proofs.YtmfkpllnmmfpiaaDoor

/-
  A row of numbers that came in, as the walks of small sentences take it.
-/
namespace Go.Proofs.YtmfkpllnmmfpiaaDoor
open Go.ChangeShapes Go.WideShapes Go.ChangeAt Go.RowKit

/-- Numbers that came in, as the walk takes them. -/
theorem rawIs_of {W : World} {x : Addr} {len : Nat} {zs : List Int} (hl : len ≤ zs.length) (hcell : ∀ i, i < zs.length → W.cell? (x.add i) = some (.int .i64 (zs.getD i 0))) (hwz : ∀ n ∈ zs, (Lit.int .i64 n).wf = true) : RawIs W (some x) (zs.take len) := by
  have hget : ∀ i, i < len → (zs.take len).getD i 0 = zs.getD i 0 := fun i hi => by
    simp only [List.getD_eq_getElem?_getD]
    rw [List.getElem?_take_of_lt hi]
  refine ⟨fun i hi => ?_, fun i => ?_⟩
  · have hi' : i < len := by simp at hi; omega
    have h1 := hcell i (by omega)
    obtain ⟨b, off, spot⟩ := x
    cases spot with
    | none =>
      rw [Addr.add_lit] at h1
      exact ⟨b, off, rfl, by rw [hget i hi']; exact h1⟩
    | some s =>
      have h2 := World.cell?_spot (hcell 0 (by omega))
      unfold Addr.add at h2
      simp at h2
  · by_cases hi : i < (zs.take len).length
    · have hm : (zs.take len).getD i 0 ∈ zs := by
        rw [List.getD_eq_getElem?_getD, List.getElem?_eq_getElem hi]
        exact List.mem_of_mem_take (List.getElem_mem hi)
      exact bounds_i64 (hwz _ hm)
    · rw [List.getD_eq_getElem?_getD, List.getElem?_eq_none (by omega)]
      simp

end Go.Proofs.YtmfkpllnmmfpiaaDoor
