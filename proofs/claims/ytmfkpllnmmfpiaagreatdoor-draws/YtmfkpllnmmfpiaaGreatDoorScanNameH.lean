/-
  The document's reader, walked: blanks, no, is, far, name.
-/
import Derived.Test.YtmfkpllnmmfpiaaGreatDoorRefReadH
import Derived.Test.YtmfkpllnmmfpiaaGreatDoorNextH
namespace Go.Proofs.YtmfkpllnmmfpiaaGreatDoor
open Go.RowKit

/-- A Scan of the text s in block xb. -/
structure ScanAt (w : World) (xb : Nat) (s : ByteArray) (x : Sc) : Prop where
  lt : xb < w.heap.size
  c0 : w.cell? ⟨xb, 0, none⟩ = some (.string s)
  c1 : w.cell? ⟨xb, 1, none⟩ = some (.int .i64 x.pos)
  c2 : w.cell? ⟨xb, 2, none⟩ = some (.int .i64 x.bad)
  c3 : w.cell? ⟨xb, 3, none⟩ = some (.int .i64 x.out)
  free : ∀ o, w.frozen? ⟨xb, o, none⟩ = false
theorem ScanAt.later {w w' : World} {L : List Nat} {xb : Nat} {s : ByteArray} {x : Sc} (h : ScanAt w xb s x) (hu : Upd L w w') (hr : xb ∉ L) : ScanAt w' xb s x :=
  ⟨Nat.lt_of_lt_of_le h.lt hu.size, (hu.cell h.lt hr).trans h.c0, (hu.cell h.lt hr).trans h.c1, (hu.cell h.lt hr).trans h.c2, (hu.cell h.lt hr).trans h.c3, fun o => (hu.frozen (p := ⟨xb, o, none⟩) h.lt hr).trans (h.free o)⟩
theorem ScanAt.drewN {w : World} {xb : Nat} {s : ByteArray} {x : Sc} (h : ScanAt w xb s x) (n : Nat) : ScanAt (w.drewN n) xb s x := ⟨h.lt, h.c0, h.c1, h.c2, h.c3, h.free⟩
theorem ScanAt.set1 {w : World} {xb : Nat} {s : ByteArray} {x : Sc} (h : ScanAt w xb s x) {p : Nat} {v : Int} (hv : v = p) : ScanAt (w.setCell ⟨xb, 1, none⟩ (.int .i64 v)) xb s { x with pos := p } := by
  obtain ⟨hlt, h0, h1, h2, h3, hf⟩ := h
  subst hv
  exact ⟨by simpa using hlt, by go_simp, by go_simp, by go_simp, by go_simp, fun o => by simpa using hf o⟩
theorem ScanAt.set2 {w : World} {xb : Nat} {s : ByteArray} {x : Sc} (h : ScanAt w xb s x) (b : Int) : ScanAt (w.setCell ⟨xb, 2, none⟩ (.int .i64 b)) xb s { x with bad := b } := by
  obtain ⟨hlt, h0, h1, h2, h3, hf⟩ := h
  exact ⟨by simpa using hlt, by go_simp, by go_simp, by go_simp, by go_simp, fun o => by simpa using hf o⟩
theorem ScanAt.set3 {w : World} {xb : Nat} {s : ByteArray} {x : Sc} (h : ScanAt w xb s x) (b : Int) : ScanAt (w.setCell ⟨xb, 3, none⟩ (.int .i64 b)) xb s { x with out := b } := by
  obtain ⟨hlt, h0, h1, h2, h3, hf⟩ := h
  exact ⟨by simpa using hlt, by go_simp, by go_simp, by go_simp, by go_simp, fun o => by simpa using hf o⟩

set_option maxHeartbeats 1000000 in
set_option maxRecDepth 100000 in
theorem blanks_any (xb : Nat) (s : ByteArray) (x : Sc) (w : World) (h : ScanAt w xb s x) (hs : s.size ≤ 1000) (hp : x.pos ≤ 100000) :
    Calls Tryz.prog 109 #[.pointer (some ⟨xb, 0, none⟩)] w fun e w' => e = .returned (.tuple #[]) ∧ ScanAt w' xb s (blanksR s x) ∧ Upd [xb] w w' := by
  have Hh := hide h
  have hlt0 := h.lt
  go_enter Tryz.func109, Tryz.ntmps109
  go_wp2
  go_loopw [] (fun wr => ∃ i : Nat, x.pos ≤ i ∧ i ≤ 100000 ∧ (i ≤ s.size ∨ i = x.pos) ∧ Hid (endOf blankB s i = endOf blankB s x.pos) ∧ Hid (ScanAt wr xb s { x with pos := i } ∧ Upd [xb] w wr)) (fun wr => s.size - natAt wr ⟨xb, 1, none⟩)
  case atStart => exact ⟨x.pos, Nat.le_refl _, hp, .inr rfl, rfl, Hh.out, Upd.refl _ _⟩
  case round =>
    obtain ⟨i, hi1, hi2, hi4, hi3, HR⟩ := hrel
    clear h
    have g0 := HR.out.1.c0
    have g1 : wr.cell? ⟨xb, 1, none⟩ = some (.int .i64 i) := HR.out.1.c1
    have gf := HR.out.1.free
    by_cases hlt : i < s.size
    · have hbt := byteAt_get s i hlt
      have hltI : (i : Int) < (s.size : Int) := by omega
      by_cases hb : byteAt s i = 32
      · go_wp2
        go_quiet (fail)
        go_wp2
        refine ⟨⟨i + 1, by omega, by omega, .inl (by omega), (endOf_step hlt (by simp [blankB, hb])).symm.trans hi3, ((HR.out.1.drewN nq).set1 (p := i + 1) (by omega)), (HR.out.2.drewN nq).setCell (by simp) _⟩, ?_⟩
        rw [natAt_eq g1, natAt_eq (n := i + 1) ((HR.out.1.drewN nq).set1 (p := i + 1) (by omega)).c1]
        omega
      · have hb' : (byteAt s i == 32) = false := by simpa using hb
        have Hfrom : Hid (endOf blankB s x.pos = i) := hi3.symm.trans (endOf_stop (by simp [blankB, hb]))
        clear hi3 hb
        go_wp2
        go_quiet (fail)
        go_wp2
        go_end0
        refine ⟨rfl, ?_, HR.out.2.drewN _⟩
        unfold blanksR
        rw [Hfrom.out]
        exact HR.out.1.drewN _
    · have hd : decide ((i : Int) < (s.size : Int)) = false := by simp; omega
      have hltI : ¬ (i : Int) < (s.size : Int) := by omega
      have Hfrom : Hid (endOf blankB s x.pos = i) := hi3.symm.trans (endOf_stop (fun hh => hlt hh.1))
      clear hi3
      go_wp2
      go_quiet (fail)
      go_wp2
      go_end0
      refine ⟨rfl, ?_, HR.out.2.drewN _⟩
      unfold blanksR
      rw [Hfrom.out]
      exact HR.out.1.drewN _

set_option maxHeartbeats 1000000 in
theorem scanNo_any (xb : Nat) (s : ByteArray) (x : Sc) (w : World) (h : ScanAt w xb s x) :
    Calls Tryz.prog 110 #[.pointer (some ⟨xb, 0, none⟩)] w fun e w' => e = .returned (.tuple #[]) ∧ ScanAt w' xb s (noR x) ∧ Upd [xb] w w' := by
  have Hh := hide h
  have g1 := h.c1
  have g2 := h.c2
  have gf := h.free
  by_cases hb : x.bad < 0
  · have HN : Hid (noR x = { x with bad := x.pos }) := by show _ = _; unfold noR; rw [if_pos hb]
    clear h
    go_enter Tryz.func110, Tryz.ntmps110
    go_wp2
    go_end0
    exact ⟨rfl, by rw [HN.out]; exact Hh.out.set2 _, (Upd.refl _ _).setCell (by simp) _⟩
  · have HN : Hid (noR x = x) := by show _ = _; unfold noR; rw [if_neg hb]
    clear h
    go_enter Tryz.func110, Tryz.ntmps110
    go_wp2
    go_end0
    exact ⟨rfl, by rw [HN.out]; exact Hh.out, Upd.refl _ _⟩

set_option maxHeartbeats 1000000 in
theorem scanFar_any (xb : Nat) (s : ByteArray) (x : Sc) (a : Nat) (w : World) (h : ScanAt w xb s x) :
    Calls Tryz.prog 133 #[.pointer (some ⟨xb, 0, none⟩), .int .i64 a] w fun e w' => e = .returned (.tuple #[]) ∧ ScanAt w' xb s (farR a x) ∧ Upd [xb] w w' := by
  have Hh := hide h
  have g3 := h.c3
  have gf := h.free
  by_cases hb : x.out < 0
  · have HN : Hid (farR a x = { x with out := a }) := by show _ = _; unfold farR; rw [if_pos (.inl hb)]
    clear h
    go_enter Tryz.func133, Tryz.ntmps133
    go_wp2
    go_end0
    exact ⟨rfl, by rw [HN.out]; exact Hh.out.set3 _, (Upd.refl _ _).setCell (by simp) _⟩
  · by_cases hc : (a : Int) < x.out
    · have HN : Hid (farR a x = { x with out := a }) := by show _ = _; unfold farR; rw [if_pos (.inr hc)]
      clear h
      go_enter Tryz.func133, Tryz.ntmps133
      go_wp2
      go_end0
      exact ⟨rfl, by rw [HN.out]; exact Hh.out.set3 _, (Upd.refl _ _).setCell (by simp) _⟩
    · have HN : Hid (farR a x = x) := by show _ = _; unfold farR; rw [if_neg (by omega)]
      clear h
      go_enter Tryz.func133, Tryz.ntmps133
      go_wp2
      go_end0
      exact ⟨rfl, by rw [HN.out]; exact Hh.out, Upd.refl _ _⟩
theorem small_any (c : Int) (w : World) : Calls Tryz.prog 159 #[.int .u8 c] w fun e w' => e = .returned (.bool (letterB c)) ∧ w' = w := by
  by_cases h1 : 97 ≤ c
  · by_cases h2 : c ≤ 122
    · have HV : Hid (letterB c = true) := by show _ = _; unfold letterB; simp [h1, h2]
      go_enter Tryz.func159, Tryz.ntmps159
      go_wp2
      go_ret
      exact ⟨by rw [HV.out]; rfl, rfl⟩
    · have HV : Hid (letterB c = false) := by show _ = _; unfold letterB; simp; omega
      go_enter Tryz.func159, Tryz.ntmps159
      go_wp2
      go_ret
      exact ⟨by rw [HV.out]; rfl, rfl⟩
  · have HV : Hid (letterB c = false) := by show _ = _; unfold letterB; simp; omega
    go_enter Tryz.func159, Tryz.ntmps159
    go_wp2
    go_ret
    exact ⟨by rw [HV.out]; rfl, rfl⟩
theorem digit_any (c : Int) (w : World) : Calls Tryz.prog 160 #[.int .u8 c] w fun e w' => e = .returned (.bool (digitB c)) ∧ w' = w := by
  by_cases h1 : 48 ≤ c
  · by_cases h2 : c ≤ 57
    · have HV : Hid (digitB c = true) := by show _ = _; unfold digitB; simp [h1, h2]
      go_enter Tryz.func160, Tryz.ntmps160
      go_wp2
      go_ret
      exact ⟨by rw [HV.out]; rfl, rfl⟩
    · have HV : Hid (digitB c = false) := by show _ = _; unfold digitB; simp; omega
      go_enter Tryz.func160, Tryz.ntmps160
      go_wp2
      go_ret
      exact ⟨by rw [HV.out]; rfl, rfl⟩
  · have HV : Hid (digitB c = false) := by show _ = _; unfold digitB; simp; omega
    go_enter Tryz.func160, Tryz.ntmps160
    go_wp2
    go_ret
    exact ⟨by rw [HV.out]; rfl, rfl⟩

set_option maxHeartbeats 2000000 in
set_option maxRecDepth 100000 in
theorem scanIs_any (xb : Nat) (s : ByteArray) (x : Sc) (c : Nat) (w : World) (h : ScanAt w xb s x) (hs : s.size ≤ 1000) (hp : x.pos ≤ 100000) :
    Calls Tryz.prog 134 #[.pointer (some ⟨xb, 0, none⟩), .int .u8 c] w fun e w' => e = .returned (.bool (isR s c x)) ∧ ScanAt w' xb s (blanksR s x) ∧ Upd [xb] w w' := by
  have HB := hide (blanks_any xb s x w h hs hp)
  clear h
  obtain ⟨i, hi⟩ : ∃ i, endOf blankB s x.pos = i := ⟨_, rfl⟩
  have Hi := hide hi
  have hpb : Hid ((blanksR s x).pos = i) := by show _ = _; exact hi
  have hbb : Hid ((blanksR s x).bad = x.bad) := rfl
  by_cases hb : x.bad < 0
  · by_cases hlt : i < s.size
    · have hbt := byteAt_get s i hlt
      have hltI : (i : Int) < (s.size : Int) := by omega
      by_cases he : byteAt s i = c
      · have HV : Hid (isR s c x = true) := by show _ = _; unfold isR; rw [hi]; simp [hb, hlt, he]
        have he' : (byteAt s i == (c : Int)) = true := by simpa using he
        clear hi
        go_enter Tryz.func134, Tryz.ntmps134
        go_wp2_with (go_at_call 109; refine HB.out.mono ?_; rintro e w2 ⟨rfl, hs2, hu2⟩; have HS2 := hide hs2; have HU2 := hide hu2; have g0 := hs2.c0; have g1 := hs2.c1; have g2 := hs2.c2; rw [hpb.out] at g1; rw [hbb.out] at g2; clear hs2 hu2)
        go_quiet (fail)
        go_wp2
        go_ret
        exact ⟨by rw [HV.out]; rfl, HS2.out.drewN _, HU2.out.drewN _⟩
      · have HV : Hid (isR s c x = false) := by show _ = _; unfold isR; rw [hi]; simp [he]
        have he' : (byteAt s i == (c : Int)) = false := by simpa using he
        clear hi he
        go_enter Tryz.func134, Tryz.ntmps134
        go_wp2_with (go_at_call 109; refine HB.out.mono ?_; rintro e w2 ⟨rfl, hs2, hu2⟩; have HS2 := hide hs2; have HU2 := hide hu2; have g0 := hs2.c0; have g1 := hs2.c1; have g2 := hs2.c2; rw [hpb.out] at g1; rw [hbb.out] at g2; clear hs2 hu2)
        go_quiet (fail)
        go_wp2
        go_ret
        exact ⟨by rw [HV.out]; rfl, HS2.out.drewN _, HU2.out.drewN _⟩
    · have HV : Hid (isR s c x = false) := by show _ = _; unfold isR; rw [hi]; simp [hlt]
      have hltI : ¬ (i : Int) < (s.size : Int) := by omega
      clear hi
      go_enter Tryz.func134, Tryz.ntmps134
      go_wp2_with (go_at_call 109; refine HB.out.mono ?_; rintro e w2 ⟨rfl, hs2, hu2⟩; have HS2 := hide hs2; have HU2 := hide hu2; have g0 := hs2.c0; have g1 := hs2.c1; have g2 := hs2.c2; rw [hpb.out] at g1; rw [hbb.out] at g2; clear hs2 hu2)
      have hd : ¬ (i : Int) < (s.size : Int) := by omega
      go_quiet (fail)
      go_wp2
      go_ret
      exact ⟨by rw [HV.out]; rfl, HS2.out.drewN _, HU2.out.drewN _⟩
  · have HV : Hid (isR s c x = false) := by show _ = _; unfold isR; simp [hb]
    clear hi
    go_enter Tryz.func134, Tryz.ntmps134
    go_wp2_with (go_at_call 109; refine HB.out.mono ?_; rintro e w2 ⟨rfl, hs2, hu2⟩; have HS2 := hide hs2; have HU2 := hide hu2; have g0 := hs2.c0; have g1 := hs2.c1; have g2 := hs2.c2; rw [hpb.out] at g1; rw [hbb.out] at g2; clear hs2 hu2)
    have hd : ¬ x.bad < 0 := by omega
    go_quiet (fail)
    go_wp2
    go_ret
    exact ⟨by rw [HV.out]; rfl, HS2.out.drewN _, HU2.out.drewN _⟩
end Go.Proofs.YtmfkpllnmmfpiaaGreatDoor

/-
  The document's reader, walked: name.
-/
namespace Go.Proofs.YtmfkpllnmmfpiaaGreatDoor
open Go.RowKit

theorem letter_word {c : Int} (h : letterB c = true) : wordB c = true := by rw [wordB_of, h]; rfl
theorem quiet_of_same2 {P : Program} {f : FuncId} {args : Array Value} {w : World} {q n : Nat} {v : Value} (h : Calls P f args (w.drewN (q + n)) fun e w' => e = .returned v ∧ w' = w.drewN (q + n)) : Calls P f args (w.drewN (q + n)) fun e w'' => e = .returned v ∧ ∃ m, w'' = w.drewN (q + m) :=
  h.mono fun _ _ ⟨he, hm⟩ => ⟨he, n, hm⟩
theorem small_is (c : Int) (b : Bool) (w : World) (h : letterB c = b) : Calls Tryz.prog 159 #[.int .u8 c] w fun e w' => e = .returned (.bool b) ∧ w' = w := h ▸ small_any c w
theorem digit_is (c : Int) (b : Bool) (w : World) (h : digitB c = b) : Calls Tryz.prog 160 #[.int .u8 c] w fun e w' => e = .returned (.bool b) ∧ w' = w := h ▸ digit_any c w
set_option maxHeartbeats 4000000 in
set_option maxRecDepth 100000 in
theorem name_any (xb : Nat) (s : ByteArray) (x : Sc) (w : World) (h : ScanAt w xb s x) (hs : s.size ≤ 1000) (hp : x.pos ≤ 100000) :
    Calls Tryz.prog 132 #[.pointer (some ⟨xb, 0, none⟩)] w fun e w' => e = .returned (.string (nameR s x).1) ∧ ScanAt w' xb s (nameR s x).2 ∧ Upd [xb] w w' := by
  have HB := hide (blanks_any xb s x w h hs hp)
  clear h
  obtain ⟨i, hi⟩ : ∃ i, endOf blankB s x.pos = i := ⟨_, rfl⟩
  have hpb : Hid ((blanksR s x).pos = i) := by show _ = _; exact hi
  have hbb : Hid ((blanksR s x).bad = x.bad) := rfl
  by_cases hb : x.bad < 0
  · by_cases hlt : i < s.size
    · have hbt := byteAt_get s i hlt
      have hltI : (i : Int) < (s.size : Int) := by omega
      cases hl : letterB (byteAt s i)
      · have HN : Hid (nameR s x = (noName, noR (blanksR s x))) := by show _ = _; unfold nameR; rw [hi, if_neg (by omega), hl]; rfl
        clear hi
        go_enter Tryz.func132, Tryz.ntmps132
        go_wp2_with (first
          | (go_at_call 109; refine HB.out.mono ?_; rintro e w2 ⟨rfl, hs2, hu2⟩; have HS2 := hide hs2; have HU2 := hide hu2; have g0 := hs2.c0; have g1 := hs2.c1; have g2 := hs2.c2; rw [hpb.out] at g1; rw [hbb.out] at g2; clear hs2 hu2)
          | (go_at_call 159; refine (small_any _ _).mono ?_; rintro e w3 ⟨rfl, rfl⟩; rw [hl])
          | (go_at_call 110; refine (scanNo_any xb s (blanksR s x) _ HS2.out).mono ?_; rintro e w4 ⟨rfl, hs4, hu4⟩; have HS4 := hide hs4; have HU4 := hide hu4; clear hs4 hu4))
        go_ret
        exact ⟨by rw [HN.out]; rfl, by rw [HN.out]; exact HS4.out, HU2.out.trans HU4.out⟩
      · have HN : Hid (nameR s x = (s.extract i (endOf wordB s i), { x with pos := endOf wordB s i })) := by show _ = _; unfold nameR; rw [hi, if_neg (by omega), hl]; rfl
        clear hi
        go_enter Tryz.func132, Tryz.ntmps132
        go_wp2_with (first
          | (go_at_call 109; refine HB.out.mono ?_; rintro e w2 ⟨rfl, hs2, hu2⟩; have HS2 := hide hs2; have HU2 := hide hu2; have g0 := hs2.c0; have g1 := hs2.c1; have g2 := hs2.c2; rw [hpb.out] at g1; rw [hbb.out] at g2; clear hs2 hu2)
          | (go_at_call 159; refine (small_any _ _).mono ?_; rintro e w3 ⟨rfl, rfl⟩; rw [hl]))
        go_loopw [] (fun wx => ∃ j : Nat, i ≤ j ∧ j ≤ s.size ∧ Hid (endOf wordB s j = endOf wordB s i) ∧ Hid (ScanAt wx xb s { x with pos := j } ∧ Upd [xb] w wx)) (fun wx => s.size - natAt wx ⟨xb, 1, none⟩)
        case atStart =>
          refine ⟨i, Nat.le_refl _, by omega, rfl, ?_, HU2.out⟩
          have h1 := HS2.out
          unfold blanksR at h1
          have h2 := hpb.out
          unfold blanksR at h2
          simp only at h2
          rw [h2] at h1
          exact h1
        case round =>
          obtain ⟨j, hj1, hj2, hj3, HR⟩ := hrel
          clear g0 g1 g2
          have x0 := HR.out.1.c0
          have x1 : wr.cell? ⟨xb, 1, none⟩ = some (.int .i64 j) := HR.out.1.c1
          have xf := HR.out.1.free
          by_cases hjt : j < s.size
          · have hbj := byteAt_get s j hjt
            have hjI : (j : Int) < (s.size : Int) := by omega
            cases hlj : letterB (byteAt s j)
            · cases hd : digitB (byteAt s j)
              · have Hend : Hid (endOf wordB s i = j) := hj3.out.symm.trans (endOf_stop (by rw [wordB_of, hlj, hd]; simp))
                go_wp2
                go_quiet (fail)
                go_wp2
                go_quiet ((go_at_call 159; first | exact Calls.quiet_of_same (small_is _ false _ hlj) | exact quiet_of_same2 (small_is _ false _ hlj)))
                go_wp2
                go_quiet ((go_at_call 160; first | exact Calls.quiet_of_same (digit_is _ false _ hd) | exact quiet_of_same2 (digit_is _ false _ hd)))
                go_wp2
                go_quiet (fail)
                go_wp2
                go_ret
                exact ⟨by rw [HN.out, Hend.out]; rfl, by rw [HN.out, Hend.out]; exact (HR.out.1.drewN _).drewN _, (HR.out.2.drewN _).drewN _⟩
              · have Hj4 : Hid (endOf wordB s (j + 1) = endOf wordB s i) := (endOf_step hjt (by rw [wordB_of, hlj, hd]; rfl)).symm.trans hj3
                go_wp2
                go_quiet (fail)
                go_wp2
                go_quiet ((go_at_call 159; first | exact Calls.quiet_of_same (small_is _ false _ hlj) | exact quiet_of_same2 (small_is _ false _ hlj)))
                go_wp2
                go_quiet ((go_at_call 160; first | exact Calls.quiet_of_same (digit_is _ true _ hd) | exact quiet_of_same2 (digit_is _ true _ hd)))
                go_wp2
                refine ⟨⟨j + 1, by omega, by omega, Hj4, (HR.out.1.drewN _).set1 (p := j + 1) (by omega), (HR.out.2.drewN _).setCell (by simp) _⟩, ?_⟩
                rw [natAt_eq x1, natAt_eq (n := j + 1) ((HR.out.1.drewN _).set1 (p := j + 1) (by omega)).c1]
                omega
            · have Hj4 : Hid (endOf wordB s (j + 1) = endOf wordB s i) := (endOf_step hjt (letter_word hlj)).symm.trans hj3
              go_wp2
              go_quiet (fail)
              go_wp2
              go_quiet ((go_at_call 159; first | exact Calls.quiet_of_same (small_is _ true _ hlj) | exact quiet_of_same2 (small_is _ true _ hlj)))
              go_wp2
              go_quiet ((go_at_call 160; first | exact Calls.quiet_of_same (digit_any _ _) | exact quiet_of_same2 (digit_any _ _)))
              go_wp2
              refine ⟨⟨j + 1, by omega, by omega, Hj4, (HR.out.1.drewN _).set1 (p := j + 1) (by omega), (HR.out.2.drewN _).setCell (by simp) _⟩, ?_⟩
              rw [natAt_eq x1, natAt_eq (n := j + 1) ((HR.out.1.drewN _).set1 (p := j + 1) (by omega)).c1]
              omega
          · have Hend : Hid (endOf wordB s i = j) := hj3.out.symm.trans (endOf_stop (fun hh => hjt hh.1))
            go_wp2
            have hjI : ¬ (j : Int) < (s.size : Int) := by omega
            go_quiet (fail)
            go_wp2
            go_quiet (fail)
            go_wp2
            go_ret
            exact ⟨by rw [HN.out, Hend.out]; rfl, by rw [HN.out, Hend.out]; exact (HR.out.1.drewN _).drewN _, (HR.out.2.drewN _).drewN _⟩
    · have HN : Hid (nameR s x = (noName, noR (blanksR s x))) := by show _ = _; unfold nameR; rw [hi, if_pos (by omega)]
      clear hi
      go_enter Tryz.func132, Tryz.ntmps132
      go_wp2_with (first
          | (go_at_call 109; refine HB.out.mono ?_; rintro e w2 ⟨rfl, hs2, hu2⟩; have HS2 := hide hs2; have HU2 := hide hu2; have g0 := hs2.c0; have g1 := hs2.c1; have g2 := hs2.c2; rw [hpb.out] at g1; rw [hbb.out] at g2; clear hs2 hu2)
          | (go_at_call 110; refine (scanNo_any xb s (blanksR s x) _ HS2.out).mono ?_; rintro e w4 ⟨rfl, hs4, hu4⟩; have HS4 := hide hs4; have HU4 := hide hu4; clear hs4 hu4))
      go_ret
      exact ⟨by rw [HN.out]; rfl, by rw [HN.out]; exact HS4.out, HU2.out.trans HU4.out⟩
  · have HN : Hid (nameR s x = (noName, noR (blanksR s x))) := by show _ = _; unfold nameR; rw [if_pos (by omega)]
    clear hi
    go_enter Tryz.func132, Tryz.ntmps132
    go_wp2_with (first
          | (go_at_call 109; refine HB.out.mono ?_; rintro e w2 ⟨rfl, hs2, hu2⟩; have HS2 := hide hs2; have HU2 := hide hu2; have g0 := hs2.c0; have g1 := hs2.c1; have g2 := hs2.c2; rw [hpb.out] at g1; rw [hbb.out] at g2; clear hs2 hu2)
          | (go_at_call 110; refine (scanNo_any xb s (blanksR s x) _ HS2.out).mono ?_; rintro e w4 ⟨rfl, hs4, hu4⟩; have HS4 := hide hs4; have HU4 := hide hu4; clear hs4 hu4))
    go_ret
    exact ⟨by rw [HN.out]; rfl, by rw [HN.out]; exact HS4.out, HU2.out.trans HU4.out⟩
end Go.Proofs.YtmfkpllnmmfpiaaGreatDoor
