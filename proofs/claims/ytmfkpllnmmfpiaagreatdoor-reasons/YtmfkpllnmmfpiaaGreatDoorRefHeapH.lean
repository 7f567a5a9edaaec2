/- ScanWalk, ScanName, RefPos, RefHeap -/
import Derived.Test.YtmfkpllnmmfpiaaGreatDoorRefScanH
import Derived.Test.YtmfkpllnmmfpiaaGreatDoorNextH
import Derived.Test.YtmfkpllnmmfpiaaGreatDoorWebTermH
namespace Go.Proofs.YtmfkpllnmmfpiaaGreatDoor
open Go.RowKit
structure ScanAt (w : World) (xb : Nat) (s : ByteArray) (x : Sc) : Prop where
 lt : xb < w.heap.size
 c0 : w.cell? ⟨xb, 0, none⟩ = some (.string s)
 c1 : w.cell? ⟨xb, 1, none⟩ = some (.int .i64 x.pos)
 c2 : w.cell? ⟨xb, 2, none⟩ = some (.int .i64 x.bad)
 c3 : w.cell? ⟨xb, 3, none⟩ = some (.int .i64 x.out)
 free : ∀ o, w.frozen? ⟨xb, o, none⟩ = false
theorem ScanAt.later {w w' : World} {L : List Nat} {xb : Nat} {s : ByteArray} {x : Sc} (h : ScanAt w xb s x) (hu : Upd L w w') (hr : xb ∉ L) : ScanAt w' xb s x :=
 ⟨Nat.lt_of_lt_of_le h.lt hu.size, (hu.cell h.lt hr).trans h.c0, (hu.cell h.lt hr).trans h.c1, (hu.cell h.lt hr).trans h.c2, (hu.cell h.lt hr).trans h.c3, fun o => (hu.frozen (p := ⟨xb, o, none⟩) h.lt hr).trans (h.free o)⟩
theorem ScanAt.drewN {w : World} {xb : Nat} {s : ByteArray} {x : Sc} (h : ScanAt w xb s x) (n : Nat) : ScanAt (w.drewN n) xb s x := ⟨h.lt, h.c0, h.c1, h.c2, h.c3, h.free⟩
theorem ScanAt.set1 {w : World} {xb : Nat} {s : ByteArray} {x : Sc} (h : ScanAt w xb s x) {p : Nat} {v : Int} (hv : v = p) : ScanAt (w.setCell ⟨xb, 1, none⟩ (.int .i64 v)) xb s { x with pos := p } := by
 obtain ⟨hlt, h0, h1, h2, h3, hf⟩ := h
 subst hv
 exact ⟨by simpa using hlt, by go_simp, by go_simp, by go_simp, by go_simp, fun o => by simpa using hf o⟩
theorem ScanAt.set2 {w : World} {xb : Nat} {s : ByteArray} {x : Sc} (h : ScanAt w xb s x) (b : Int) : ScanAt (w.setCell ⟨xb, 2, none⟩ (.int .i64 b)) xb s { x with bad := b } := by
 obtain ⟨hlt, h0, h1, h2, h3, hf⟩ := h
 exact ⟨by simpa using hlt, by go_simp, by go_simp, by go_simp, by go_simp, fun o => by simpa using hf o⟩
theorem ScanAt.set3 {w : World} {xb : Nat} {s : ByteArray} {x : Sc} (h : ScanAt w xb s x) (b : Int) : ScanAt (w.setCell ⟨xb, 3, none⟩ (.int .i64 b)) xb s { x with out := b } := by
 obtain ⟨hlt, h0, h1, h2, h3, hf⟩ := h
 exact ⟨by simpa using hlt, by go_simp, by go_simp, by go_simp, by go_simp, fun o => by simpa using hf o⟩
set_option maxHeartbeats 1000000 in
set_option maxRecDepth 100000 in
theorem blanks_any (xb : Nat) (s : ByteArray) (x : Sc) (w : World) (h : ScanAt w xb s x) (hs : s.size ≤ 1000) (hp : x.pos ≤ 100000) :
  Calls Tryz.prog 109 #[.pointer (some ⟨xb, 0, none⟩)] w fun e w' => e = .returned (.tuple #[]) ∧ ScanAt w' xb s (blanksR s x) ∧ Upd [xb] w w' := by
 have Hh := hide h
 have hlt0 := h.lt
 go_enter Tryz.func109, Tryz.ntmps109
 go_wp2
 go_loopw [] (fun wr => ∃ i : Nat, x.pos ≤ i ∧ i ≤ 100000 ∧ (i ≤ s.size ∨ i = x.pos) ∧ Hid (endOf blankB s i = endOf blankB s x.pos) ∧ Hid (ScanAt wr xb s { x with pos := i } ∧ Upd [xb] w wr)) (fun wr => s.size - natAt wr ⟨xb, 1, none⟩)
 case atStart => exact ⟨x.pos, Nat.le_refl _, hp, .inr rfl, rfl, Hh.out, Upd.refl _ _⟩
 case round =>
  obtain ⟨i, hi1, hi2, hi4, hi3, HR⟩ := hrel
  clear h
  have g0 := HR.out.1.c0
  have g1 : wr.cell? ⟨xb, 1, none⟩ = some (.int .i64 i) := HR.out.1.c1
  have gf := HR.out.1.free
  by_cases hlt : i < s.size
  ·have hbt := byteAt_get s i hlt
   have hltI : (i : Int) < (s.size : Int) := by omega
   by_cases hb : byteAt s i = 32
   ·go_wp2
    go_quiet (fail)
    go_wp2
    refine ⟨⟨i + 1, by omega, by omega, .inl (by omega), (endOf_step hlt (by simp [blankB, hb])).symm.trans hi3, ((HR.out.1.drewN nq).set1 (p := i + 1) (by omega)), (HR.out.2.drewN nq).setCell (by simp) _⟩, ?_⟩
    rw [natAt_eq g1, natAt_eq (n := i + 1) ((HR.out.1.drewN nq).set1 (p := i + 1) (by omega)).c1]
    omega
   ·have hb' : (byteAt s i == 32) = false := by simpa using hb
    have Hfrom : Hid (endOf blankB s x.pos = i) := hi3.symm.trans (endOf_stop (by simp [blankB, hb]))
    clear hi3 hb
    go_wp2
    go_quiet (fail)
    go_wp2
    go_end0
    refine ⟨rfl, ?_, HR.out.2.drewN _⟩
    unfold blanksR
    rw [Hfrom.out]
    exact HR.out.1.drewN _
  ·have hd : decide ((i : Int) < (s.size : Int)) = false := by simp; omega
   have hltI : ¬ (i : Int) < (s.size : Int) := by omega
   have Hfrom : Hid (endOf blankB s x.pos = i) := hi3.symm.trans (endOf_stop (fun hh => hlt hh.1))
   clear hi3
   go_wp2
   go_quiet (fail)
   go_wp2
   go_end0
   refine ⟨rfl, ?_, HR.out.2.drewN _⟩
   unfold blanksR
   rw [Hfrom.out]
   exact HR.out.1.drewN _
set_option maxHeartbeats 1000000 in
theorem scanNo_any (xb : Nat) (s : ByteArray) (x : Sc) (w : World) (h : ScanAt w xb s x) :
  Calls Tryz.prog 110 #[.pointer (some ⟨xb, 0, none⟩)] w fun e w' => e = .returned (.tuple #[]) ∧ ScanAt w' xb s (noR x) ∧ Upd [xb] w w' := by
 have Hh := hide h
 have g1 := h.c1
 have g2 := h.c2
 have gf := h.free
 by_cases hb : x.bad < 0
 ·have HN : Hid (noR x = { x with bad := x.pos }) := by show _ = _; unfold noR; rw [if_pos hb]
  clear h
  go_enter Tryz.func110, Tryz.ntmps110
  go_wp2
  go_end0
  exact ⟨rfl, by rw [HN.out]; exact Hh.out.set2 _, (Upd.refl _ _).setCell (by simp) _⟩
 ·have HN : Hid (noR x = x) := by show _ = _; unfold noR; rw [if_neg hb]
  clear h
  go_enter Tryz.func110, Tryz.ntmps110
  go_wp2
  go_end0
  exact ⟨rfl, by rw [HN.out]; exact Hh.out, Upd.refl _ _⟩
set_option maxHeartbeats 1000000 in
theorem scanFar_any (xb : Nat) (s : ByteArray) (x : Sc) (a : Nat) (w : World) (h : ScanAt w xb s x) :
  Calls Tryz.prog 133 #[.pointer (some ⟨xb, 0, none⟩), .int .i64 a] w fun e w' => e = .returned (.tuple #[]) ∧ ScanAt w' xb s (farR a x) ∧ Upd [xb] w w' := by
 have Hh := hide h
 have g3 := h.c3
 have gf := h.free
 by_cases hb : x.out < 0
 ·have HN : Hid (farR a x = { x with out := a }) := by show _ = _; unfold farR; rw [if_pos (.inl hb)]
  clear h
  go_enter Tryz.func133, Tryz.ntmps133
  go_wp2
  go_end0
  exact ⟨rfl, by rw [HN.out]; exact Hh.out.set3 _, (Upd.refl _ _).setCell (by simp) _⟩
 ·by_cases hc : (a : Int) < x.out
  ·have HN : Hid (farR a x = { x with out := a }) := by show _ = _; unfold farR; rw [if_pos (.inr hc)]
   clear h
   go_enter Tryz.func133, Tryz.ntmps133
   go_wp2
   go_end0
   exact ⟨rfl, by rw [HN.out]; exact Hh.out.set3 _, (Upd.refl _ _).setCell (by simp) _⟩
  ·have HN : Hid (farR a x = x) := by show _ = _; unfold farR; rw [if_neg (by omega)]
   clear h
   go_enter Tryz.func133, Tryz.ntmps133
   go_wp2
   go_end0
   exact ⟨rfl, by rw [HN.out]; exact Hh.out, Upd.refl _ _⟩
theorem small_any (c : Int) (w : World) : Calls Tryz.prog 159 #[.int .u8 c] w fun e w' => e = .returned (.bool (letterB c)) ∧ w' = w := by
 by_cases h1 : 97 ≤ c
 ·by_cases h2 : c ≤ 122
  ·have HV : Hid (letterB c = true) := by show _ = _; unfold letterB; simp [h1, h2]
   go_enter Tryz.func159, Tryz.ntmps159
   go_wp2
   go_ret
   exact ⟨by rw [HV.out]; rfl, rfl⟩
  ·have HV : Hid (letterB c = false) := by show _ = _; unfold letterB; simp; omega
   go_enter Tryz.func159, Tryz.ntmps159
   go_wp2
   go_ret
   exact ⟨by rw [HV.out]; rfl, rfl⟩
 ·have HV : Hid (letterB c = false) := by show _ = _; unfold letterB; simp; omega
  go_enter Tryz.func159, Tryz.ntmps159
  go_wp2
  go_ret
  exact ⟨by rw [HV.out]; rfl, rfl⟩
theorem digit_any (c : Int) (w : World) : Calls Tryz.prog 160 #[.int .u8 c] w fun e w' => e = .returned (.bool (digitB c)) ∧ w' = w := by
 by_cases h1 : 48 ≤ c
 ·by_cases h2 : c ≤ 57
  ·have HV : Hid (digitB c = true) := by show _ = _; unfold digitB; simp [h1, h2]
   go_enter Tryz.func160, Tryz.ntmps160
   go_wp2
   go_ret
   exact ⟨by rw [HV.out]; rfl, rfl⟩
  ·have HV : Hid (digitB c = false) := by show _ = _; unfold digitB; simp; omega
   go_enter Tryz.func160, Tryz.ntmps160
   go_wp2
   go_ret
   exact ⟨by rw [HV.out]; rfl, rfl⟩
 ·have HV : Hid (digitB c = false) := by show _ = _; unfold digitB; simp; omega
  go_enter Tryz.func160, Tryz.ntmps160
  go_wp2
  go_ret
  exact ⟨by rw [HV.out]; rfl, rfl⟩
set_option maxHeartbeats 2000000 in
set_option maxRecDepth 100000 in
theorem scanIs_any (xb : Nat) (s : ByteArray) (x : Sc) (c : Nat) (w : World) (h : ScanAt w xb s x) (hs : s.size ≤ 1000) (hp : x.pos ≤ 100000) :
  Calls Tryz.prog 134 #[.pointer (some ⟨xb, 0, none⟩), .int .u8 c] w fun e w' => e = .returned (.bool (isR s c x)) ∧ ScanAt w' xb s (blanksR s x) ∧ Upd [xb] w w' := by
 have HB := hide (blanks_any xb s x w h hs hp)
 clear h
 obtain ⟨i, hi⟩ : ∃ i, endOf blankB s x.pos = i := ⟨_, rfl⟩
 have Hi := hide hi
 have hpb : Hid ((blanksR s x).pos = i) := by show _ = _; exact hi
 have hbb : Hid ((blanksR s x).bad = x.bad) := rfl
 by_cases hb : x.bad < 0
 ·by_cases hlt : i < s.size
  ·have hbt := byteAt_get s i hlt
   have hltI : (i : Int) < (s.size : Int) := by omega
   by_cases he : byteAt s i = c
   ·have HV : Hid (isR s c x = true) := by show _ = _; unfold isR; rw [hi]; simp [hb, hlt, he]
    have he' : (byteAt s i == (c : Int)) = true := by simpa using he
    clear hi
    go_enter Tryz.func134, Tryz.ntmps134
    go_wp2_with (go_at_call 109; refine HB.out.mono ?_; rintro e w2 ⟨rfl, hs2, hu2⟩; have HS2 := hide hs2; have HU2 := hide hu2; have g0 := hs2.c0; have g1 := hs2.c1; have g2 := hs2.c2; rw [hpb.out] at g1; rw [hbb.out] at g2; clear hs2 hu2)
    go_quiet (fail)
    go_wp2
    go_ret
    exact ⟨by rw [HV.out]; rfl, HS2.out.drewN _, HU2.out.drewN _⟩
   ·have HV : Hid (isR s c x = false) := by show _ = _; unfold isR; rw [hi]; simp [he]
    have he' : (byteAt s i == (c : Int)) = false := by simpa using he
    clear hi he
    go_enter Tryz.func134, Tryz.ntmps134
    go_wp2_with (go_at_call 109; refine HB.out.mono ?_; rintro e w2 ⟨rfl, hs2, hu2⟩; have HS2 := hide hs2; have HU2 := hide hu2; have g0 := hs2.c0; have g1 := hs2.c1; have g2 := hs2.c2; rw [hpb.out] at g1; rw [hbb.out] at g2; clear hs2 hu2)
    go_quiet (fail)
    go_wp2
    go_ret
    exact ⟨by rw [HV.out]; rfl, HS2.out.drewN _, HU2.out.drewN _⟩
  ·have HV : Hid (isR s c x = false) := by show _ = _; unfold isR; rw [hi]; simp [hlt]
   have hltI : ¬ (i : Int) < (s.size : Int) := by omega
   clear hi
   go_enter Tryz.func134, Tryz.ntmps134
   go_wp2_with (go_at_call 109; refine HB.out.mono ?_; rintro e w2 ⟨rfl, hs2, hu2⟩; have HS2 := hide hs2; have HU2 := hide hu2; have g0 := hs2.c0; have g1 := hs2.c1; have g2 := hs2.c2; rw [hpb.out] at g1; rw [hbb.out] at g2; clear hs2 hu2)
   have hd : ¬ (i : Int) < (s.size : Int) := by omega
   go_quiet (fail)
   go_wp2
   go_ret
   exact ⟨by rw [HV.out]; rfl, HS2.out.drewN _, HU2.out.drewN _⟩
 ·have HV : Hid (isR s c x = false) := by show _ = _; unfold isR; simp [hb]
  clear hi
  go_enter Tryz.func134, Tryz.ntmps134
  go_wp2_with (go_at_call 109; refine HB.out.mono ?_; rintro e w2 ⟨rfl, hs2, hu2⟩; have HS2 := hide hs2; have HU2 := hide hu2; have g0 := hs2.c0; have g1 := hs2.c1; have g2 := hs2.c2; rw [hpb.out] at g1; rw [hbb.out] at g2; clear hs2 hu2)
  have hd : ¬ x.bad < 0 := by omega
  go_quiet (fail)
  go_wp2
  go_ret
  exact ⟨by rw [HV.out]; rfl, HS2.out.drewN _, HU2.out.drewN _⟩
end Go.Proofs.YtmfkpllnmmfpiaaGreatDoor

namespace Go.Proofs.YtmfkpllnmmfpiaaGreatDoor
open Go.RowKit
theorem letter_word {c : Int} (h : letterB c = true) : wordB c = true := by rw [wordB_of, h]; rfl
theorem quiet_of_same2 {P : Program} {f : FuncId} {args : Array Value} {w : World} {q n : Nat} {v : Value} (h : Calls P f args (w.drewN (q + n)) fun e w' => e = .returned v ∧ w' = w.drewN (q + n)) : Calls P f args (w.drewN (q + n)) fun e w'' => e = .returned v ∧ ∃ m, w'' = w.drewN (q + m) :=
 h.mono fun _ _ ⟨he, hm⟩ => ⟨he, n, hm⟩
theorem small_is (c : Int) (b : Bool) (w : World) (h : letterB c = b) : Calls Tryz.prog 159 #[.int .u8 c] w fun e w' => e = .returned (.bool b) ∧ w' = w := h ▸ small_any c w
theorem digit_is (c : Int) (b : Bool) (w : World) (h : digitB c = b) : Calls Tryz.prog 160 #[.int .u8 c] w fun e w' => e = .returned (.bool b) ∧ w' = w := h ▸ digit_any c w
set_option maxHeartbeats 4000000 in
set_option maxRecDepth 100000 in
theorem name_any (xb : Nat) (s : ByteArray) (x : Sc) (w : World) (h : ScanAt w xb s x) (hs : s.size ≤ 1000) (hp : x.pos ≤ 100000) :
  Calls Tryz.prog 132 #[.pointer (some ⟨xb, 0, none⟩)] w fun e w' => e = .returned (.string (nameR s x).1) ∧ ScanAt w' xb s (nameR s x).2 ∧ Upd [xb] w w' := by
 have HB := hide (blanks_any xb s x w h hs hp)
 clear h
 obtain ⟨i, hi⟩ : ∃ i, endOf blankB s x.pos = i := ⟨_, rfl⟩
 have hpb : Hid ((blanksR s x).pos = i) := by show _ = _; exact hi
 have hbb : Hid ((blanksR s x).bad = x.bad) := rfl
 by_cases hb : x.bad < 0
 ·by_cases hlt : i < s.size
  ·have hbt := byteAt_get s i hlt
   have hltI : (i : Int) < (s.size : Int) := by omega
   cases hl : letterB (byteAt s i)
   ·have HN : Hid (nameR s x = (noName, noR (blanksR s x))) := by show _ = _; unfold nameR; rw [hi, if_neg (by omega), hl]; rfl
    clear hi
    go_enter Tryz.func132, Tryz.ntmps132
    go_wp2_with (first
     | (go_at_call 109; refine HB.out.mono ?_; rintro e w2 ⟨rfl, hs2, hu2⟩; have HS2 := hide hs2; have HU2 := hide hu2; have g0 := hs2.c0; have g1 := hs2.c1; have g2 := hs2.c2; rw [hpb.out] at g1; rw [hbb.out] at g2; clear hs2 hu2)
     | (go_at_call 159; refine (small_any _ _).mono ?_; rintro e w3 ⟨rfl, rfl⟩; rw [hl])
     | (go_at_call 110; refine (scanNo_any xb s (blanksR s x) _ HS2.out).mono ?_; rintro e w4 ⟨rfl, hs4, hu4⟩; have HS4 := hide hs4; have HU4 := hide hu4; clear hs4 hu4))
    go_ret
    exact ⟨by rw [HN.out]; rfl, by rw [HN.out]; exact HS4.out, HU2.out.trans HU4.out⟩
   ·have HN : Hid (nameR s x = (s.extract i (endOf wordB s i), { x with pos := endOf wordB s i })) := by show _ = _; unfold nameR; rw [hi, if_neg (by omega), hl]; rfl
    clear hi
    go_enter Tryz.func132, Tryz.ntmps132
    go_wp2_with (first
     | (go_at_call 109; refine HB.out.mono ?_; rintro e w2 ⟨rfl, hs2, hu2⟩; have HS2 := hide hs2; have HU2 := hide hu2; have g0 := hs2.c0; have g1 := hs2.c1; have g2 := hs2.c2; rw [hpb.out] at g1; rw [hbb.out] at g2; clear hs2 hu2)
     | (go_at_call 159; refine (small_any _ _).mono ?_; rintro e w3 ⟨rfl, rfl⟩; rw [hl]))
    go_loopw [] (fun wx => ∃ j : Nat, i ≤ j ∧ j ≤ s.size ∧ Hid (endOf wordB s j = endOf wordB s i) ∧ Hid (ScanAt wx xb s { x with pos := j } ∧ Upd [xb] w wx)) (fun wx => s.size - natAt wx ⟨xb, 1, none⟩)
    case atStart =>
     refine ⟨i, Nat.le_refl _, by omega, rfl, ?_, HU2.out⟩
     have h1 := HS2.out
     unfold blanksR at h1
     have h2 := hpb.out
     unfold blanksR at h2
     simp only at h2
     rw [h2] at h1
     exact h1
    case round =>
     obtain ⟨j, hj1, hj2, hj3, HR⟩ := hrel
     clear g0 g1 g2
     have x0 := HR.out.1.c0
     have x1 : wr.cell? ⟨xb, 1, none⟩ = some (.int .i64 j) := HR.out.1.c1
     have xf := HR.out.1.free
     by_cases hjt : j < s.size
     ·have hbj := byteAt_get s j hjt
      have hjI : (j : Int) < (s.size : Int) := by omega
      cases hlj : letterB (byteAt s j)
      ·cases hd : digitB (byteAt s j)
       ·have Hend : Hid (endOf wordB s i = j) := hj3.out.symm.trans (endOf_stop (by rw [wordB_of, hlj, hd]; simp))
        go_wp2
        go_quiet (fail)
        go_wp2
        go_quiet ((go_at_call 159; first | exact Calls.quiet_of_same (small_is _ false _ hlj) | exact quiet_of_same2 (small_is _ false _ hlj)))
        go_wp2
        go_quiet ((go_at_call 160; first | exact Calls.quiet_of_same (digit_is _ false _ hd) | exact quiet_of_same2 (digit_is _ false _ hd)))
        go_wp2
        go_quiet (fail)
        go_wp2
        go_ret
        exact ⟨by rw [HN.out, Hend.out]; rfl, by rw [HN.out, Hend.out]; exact (HR.out.1.drewN _).drewN _, (HR.out.2.drewN _).drewN _⟩
       ·have Hj4 : Hid (endOf wordB s (j + 1) = endOf wordB s i) := (endOf_step hjt (by rw [wordB_of, hlj, hd]; rfl)).symm.trans hj3
        go_wp2
        go_quiet (fail)
        go_wp2
        go_quiet ((go_at_call 159; first | exact Calls.quiet_of_same (small_is _ false _ hlj) | exact quiet_of_same2 (small_is _ false _ hlj)))
        go_wp2
        go_quiet ((go_at_call 160; first | exact Calls.quiet_of_same (digit_is _ true _ hd) | exact quiet_of_same2 (digit_is _ true _ hd)))
        go_wp2
        refine ⟨⟨j + 1, by omega, by omega, Hj4, (HR.out.1.drewN _).set1 (p := j + 1) (by omega), (HR.out.2.drewN _).setCell (by simp) _⟩, ?_⟩
        rw [natAt_eq x1, natAt_eq (n := j + 1) ((HR.out.1.drewN _).set1 (p := j + 1) (by omega)).c1]
        omega
      ·have Hj4 : Hid (endOf wordB s (j + 1) = endOf wordB s i) := (endOf_step hjt (letter_word hlj)).symm.trans hj3
       go_wp2
       go_quiet (fail)
       go_wp2
       go_quiet ((go_at_call 159; first | exact Calls.quiet_of_same (small_is _ true _ hlj) | exact quiet_of_same2 (small_is _ true _ hlj)))
       go_wp2
       go_quiet ((go_at_call 160; first | exact Calls.quiet_of_same (digit_any _ _) | exact quiet_of_same2 (digit_any _ _)))
       go_wp2
       refine ⟨⟨j + 1, by omega, by omega, Hj4, (HR.out.1.drewN _).set1 (p := j + 1) (by omega), (HR.out.2.drewN _).setCell (by simp) _⟩, ?_⟩
       rw [natAt_eq x1, natAt_eq (n := j + 1) ((HR.out.1.drewN _).set1 (p := j + 1) (by omega)).c1]
       omega
     ·have Hend : Hid (endOf wordB s i = j) := hj3.out.symm.trans (endOf_stop (fun hh => hjt hh.1))
      go_wp2
      have hjI : ¬ (j : Int) < (s.size : Int) := by omega
      go_quiet (fail)
      go_wp2
      go_quiet (fail)
      go_wp2
      go_ret
      exact ⟨by rw [HN.out, Hend.out]; rfl, by rw [HN.out, Hend.out]; exact (HR.out.1.drewN _).drewN _, (HR.out.2.drewN _).drewN _⟩
  ·have HN : Hid (nameR s x = (noName, noR (blanksR s x))) := by show _ = _; unfold nameR; rw [hi, if_pos (by omega)]
   clear hi
   go_enter Tryz.func132, Tryz.ntmps132
   go_wp2_with (first
     | (go_at_call 109; refine HB.out.mono ?_; rintro e w2 ⟨rfl, hs2, hu2⟩; have HS2 := hide hs2; have HU2 := hide hu2; have g0 := hs2.c0; have g1 := hs2.c1; have g2 := hs2.c2; rw [hpb.out] at g1; rw [hbb.out] at g2; clear hs2 hu2)
     | (go_at_call 110; refine (scanNo_any xb s (blanksR s x) _ HS2.out).mono ?_; rintro e w4 ⟨rfl, hs4, hu4⟩; have HS4 := hide hs4; have HU4 := hide hu4; clear hs4 hu4))
   go_ret
   exact ⟨by rw [HN.out]; rfl, by rw [HN.out]; exact HS4.out, HU2.out.trans HU4.out⟩
 ·have HN : Hid (nameR s x = (noName, noR (blanksR s x))) := by show _ = _; unfold nameR; rw [if_pos (by omega)]
  clear hi
  go_enter Tryz.func132, Tryz.ntmps132
  go_wp2_with (first
     | (go_at_call 109; refine HB.out.mono ?_; rintro e w2 ⟨rfl, hs2, hu2⟩; have HS2 := hide hs2; have HU2 := hide hu2; have g0 := hs2.c0; have g1 := hs2.c1; have g2 := hs2.c2; rw [hpb.out] at g1; rw [hbb.out] at g2; clear hs2 hu2)
     | (go_at_call 110; refine (scanNo_any xb s (blanksR s x) _ HS2.out).mono ?_; rintro e w4 ⟨rfl, hs4, hu4⟩; have HS4 := hide hs4; have HU4 := hide hu4; clear hs4 hu4))
  go_ret
  exact ⟨by rw [HN.out]; rfl, by rw [HN.out]; exact HS4.out, HU2.out.trans HU4.out⟩
end Go.Proofs.YtmfkpllnmmfpiaaGreatDoor

namespace Go.Proofs.YtmfkpllnmmfpiaaGreatDoor
open Go.RowKit
theorem endOf_pos (p : Int → Bool) (s : ByteArray) (i : Nat) : i ≤ endOf p s i ∧ endOf p s i ≤ max i s.size := by
 by_cases h : i ≤ s.size
 ·have := endOf_le p s i h
  omega
 ·rw [endOf_stop (p := p) (s := s) (i := i) (fun hh => by omega)]
  omega
structure PosOK (s : ByteArray) (n : Nat) (x y : Sc) (len : Nat) : Prop where
 le : x.pos ≤ y.pos
 far : y.pos ≤ max x.pos s.size + n
 len : len + 2 * x.pos ≤ 2 * y.pos
theorem blanksR_pos (s : ByteArray) (x : Sc) : x.pos ≤ (blanksR s x).pos ∧ (blanksR s x).pos ≤ max x.pos s.size := endOf_pos _ _ _
theorem noR_pos (x : Sc) : (noR x).pos = x.pos := by unfold noR; split <;> rfl
theorem farR_pos (a : Nat) (x : Sc) : (farR a x).pos = x.pos := by unfold farR; split <;> rfl
theorem isR_pos {s : ByteArray} {c : Int} {x : Sc} (h : isR s c x = true) : (blanksR s x).pos < s.size ∧ x.bad < 0 := by
 unfold isR at h
 simp only [Bool.and_eq_true, decide_eq_true_eq] at h
 exact ⟨h.1.2, h.1.1⟩
theorem nameR_pos (s : ByteArray) (x : Sc) : x.pos ≤ (nameR s x).2.pos ∧ (nameR s x).2.pos ≤ max x.pos s.size ∧ (nameR s x).1.size + x.pos ≤ (nameR s x).2.pos := by
 have h0 := endOf_pos blankB s x.pos
 unfold nameR
 split
 ·rw [noR_pos]
  exact ⟨h0.1, h0.2, by show 0 + _ ≤ _; have := h0.1; unfold blanksR; simpa using this⟩
 ·split
  ·have h1 := endOf_pos wordB s (endOf blankB s x.pos)
   simp only [ByteArray.size_extract]
   omega
  ·rw [noR_pos]
   exact ⟨h0.1, h0.2, by show 0 + _ ≤ _; have := h0.1; unfold blanksR; simpa using this⟩
theorem headR_pos (s : ByteArray) (d : Nat) (x : Sc) : x.pos ≤ (headR s d x).2.pos ∧ (headR s d x).2.pos ≤ max x.pos s.size ∧ (headR s d x).1.size + x.pos ≤ (headR s d x).2.pos := by
 have h0 := blanksR_pos s x
 have h1 := nameR_pos s (blanksR s x)
 have h2 : (headR s d x).2.pos = (nameR s (blanksR s x)).2.pos := by
  unfold headR
  simp only
  split
  ·exact farR_pos _ _
  ·rfl
 have h3 : (headR s d x).1 = (nameR s (blanksR s x)).1 := rfl
 rw [h2, h3]
 omega
def joinR : List Trm → List UInt8
 | [] => []
 | p :: qs => 44 :: 32 :: (p.txt ++ joinR qs)
def joinT : List Trm → List UInt8
 | [] => []
 | p :: qs => p.txt ++ joinR qs
theorem txtR_join : ∀ qs : List Trm, Trm.txtR qs = joinR qs ++ [41]
 | [] => rfl
 | p :: qs => by simp [Trm.txtR, joinR, txtR_join qs]
theorem txt_node (nm : ByteArray) (ps : List Trm) (h : ps ≠ []) : (Trm.node nm ps).txt = nm.data.toList ++ 40 :: (joinT ps ++ [41]) := by
 match ps, h with
 | p :: qs, _ => simp [Trm.txt, joinT, txtR_join]
theorem joinR_snoc (qs : List Trm) (p : Trm) : joinR (qs ++ [p]) = joinR qs ++ 44 :: 32 :: p.txt := by
 induction qs with
 | nil => simp [joinR]
 | cons q qs ih => simp [joinR, ih]
theorem joinT_snoc (qs : List Trm) (p : Trm) (h : qs ≠ []) : joinT (qs ++ [p]) = joinT qs ++ 44 :: 32 :: p.txt := by
 match qs, h with
 | q :: qs, _ => simp [joinT, joinR_snoc]
theorem joinT_one (p : Trm) : joinT [p] = p.txt := by simp [joinT, joinR]
theorem joinR_len (qs : List Trm) : (joinR qs).length ≤ (joinT qs).length + 2 := by
 cases qs with
 | nil => simp [joinR, joinT]
 | cons q qs => simp [joinR, joinT]
theorem txt_len (nm : ByteArray) (ps : List Trm) : (Trm.node nm ps).txt.length ≤ nm.size + 2 + (joinT ps).length := by
 by_cases h : ps = []
 ·subst h
  simp [Trm.txt, joinT]
 ·rw [txt_node nm ps h]
  have : nm.data.toList.length = nm.size := by simp
  simp only [List.length_append, List.length_cons, List.length_nil]
  omega
theorem parts_pos (s : ByteArray) (f : Sc → Trm × Sc) (n : Nat) (hf : ∀ y, PosOK s n y (f y).2 (f y).1.txt.length) : ∀ (m : Nat) (x : Sc), PosOK s n x (partsR s f m x).2 (joinT (partsR s f m x).1).length := by
 intro m
 induction m with
 | zero => intro x; exact ⟨Nat.le_refl _, by show x.pos ≤ _; omega, by show 0 + 2 * x.pos ≤ 2 * x.pos; omega⟩
 | succ m ih =>
  intro x
  obtain ⟨a1, a2, a3⟩ := hf x
  have hb := blanksR_pos s (f x).2
  unfold partsR
  split
  ·rename_i hc
   have hp := (isR_pos hc).1
   obtain ⟨b1, b2, b3⟩ := ih (blanksR s (f x).2).next
   have hn : (blanksR s (f x).2).next.pos = (blanksR s (f x).2).pos + 1 := rfl
   rw [hn] at b1 b2 b3
   refine ⟨by show x.pos ≤ (partsR s f m (blanksR s (f x).2).next).2.pos; omega, by show (partsR s f m (blanksR s (f x).2).next).2.pos ≤ _; omega, ?_⟩
   have hj := joinR_len (partsR s f m (blanksR s (f x).2).next).1
   simp only [joinT, List.length_append]
   omega
  ·refine ⟨by show x.pos ≤ (blanksR s (f x).2).pos; omega, by show (blanksR s (f x).2).pos ≤ _; omega, ?_⟩
   rw [joinT_one]
   show _ ≤ 2 * (blanksR s (f x).2).pos
   omega
theorem closeR_pos (s : ByteArray) (a : Nat) (r : List Trm × Sc) : (closeR s a r).pos = (blanksR s r.2).pos + 1 := by
 unfold closeR
 simp only
 split <;> (try rw [farR_pos]) <;> split <;> simp [Sc.next, noR_pos]
theorem term_pos (s : ByteArray) : ∀ (n d : Nat) (x : Sc), PosOK s n x (termR s n d x).2 (termR s n d x).1.txt.length := by
  intro n
  induction n with
  | zero => intro d x; exact ⟨Nat.le_refl _, by show x.pos ≤ _; omega, by show (Trm.node noName []).txt.length + _ ≤ _; simp [Trm.txt, noName, termR]⟩
  | succ n ih =>
   intro d x
   have h0 := headR_pos s d x
   unfold termR
   split
   ·rename_i hc
    have hp := (isR_pos hc).1
    have hq := blanksR_pos s (headR s d x).2
    obtain ⟨b1, b2, b3⟩ := parts_pos s (termR s n (d + 1)) n (fun y => ih (d + 1) y) (s.size + 1) (blanksR s (headR s d x).2).next
    have hn : (blanksR s (headR s d x).2).next.pos = (blanksR s (headR s d x).2).pos + 1 := rfl
    rw [hn] at b1 b2 b3
    have h2 := blanksR_pos s (partsR s (termR s n (d + 1)) (s.size + 1) (blanksR s (headR s d x).2).next).2
    have h3 := txt_len (headR s d x).1 (partsR s (termR s n (d + 1)) (s.size + 1) (blanksR s (headR s d x).2).next).1
    refine ⟨?_, ?_, ?_⟩ <;> simp only [closeR_pos] <;> omega
   ·have hq := blanksR_pos s (headR s d x).2
    have : (headR s d x).1.data.toList.length = (headR s d x).1.size := by simp
    refine ⟨?_, ?_, ?_⟩
    ·show _ ≤ (blanksR s (headR s d x).2).pos; omega
    ·show (blanksR s (headR s d x).2).pos ≤ _; omega
    ·simp only [Trm.txt, List.append_nil]; omega
end Go.Proofs.YtmfkpllnmmfpiaaGreatDoor

namespace Go.Proofs.YtmfkpllnmmfpiaaGreatDoor
open Go.RowKit
theorem info_refPtr : (Tryz.prog.info? 170).map (fun i => (i.zero, i.size, i.bytes)) = some (some (.pointer none), 1, 8) := by kernel_rfl
def ptrs (cs : List Nat) : List Value := cs.map fun c => .pointer (some ⟨c, 0, none⟩)
inductive IsRT (w : World) (Z : Nat → Prop) : Trm → Nat → Prop where
 | mk {nm : ByteArray} {ps : List Trm} {b : Nat} {v : Value} {cs : List Nat} : b < w.heap.size → Z b → w.cell? ⟨b, 0, none⟩ = some (.string nm) → w.cell? ⟨b, 1, none⟩ = some v → w.cell? ⟨b, 2, none⟩ = some (.string (Trm.node nm ps).text) →
  w.ownsRow 0 170 1 v ps.length (ptrs cs) → (∀ q, v.ownBlock = some q → Z q) → cs.length = ps.length →
  (∀ (i c : Nat) (p : Trm), cs[i]? = some c → ps[i]? = some p → IsRT w Z p c) → IsRT w Z (.node nm ps) b
theorem IsRT.mono {w : World} {Z Z' : Nat → Prop} {t : Trm} {b : Nat} (h : IsRT w Z t b) (hm : ∀ k, Z k → k < w.heap.size → Z' k) : IsRT w Z' t b := by
 induction h with
 | mk hb hz h0 h1 h2 hr hv hl _ ih => exact .mk hb (hm _ hz hb) h0 h1 h2 hr (fun q hq => hm q (hv q hq) (ownsRow_lt hr hq)) hl ih
theorem IsRT.later {w w' : World} {L : List Nat} {Z : Nat → Prop} {t : Trm} {b : Nat} (h : IsRT w Z t b) (hu : Upd L w w') (hL : ∀ k, Z k → k ∉ L) : IsRT w' Z t b := by
 induction h with
 | mk hb hz h0 h1 h2 hr hv hl _ ih => exact .mk (Nat.lt_of_lt_of_le hb hu.size) hz ((hu.cell hb (hL _ hz)).trans h0) ((hu.cell hb (hL _ hz)).trans h1) ((hu.cell hb (hL _ hz)).trans h2) (hu.ownsRow hr (fun k hk => hL k (hv k hk))) hv hl ih
theorem IsRT.lt {w : World} {Z : Nat → Prop} {t : Trm} {b : Nat} (h : IsRT w Z t b) : b < w.heap.size := by cases h; assumption
theorem IsRT.inZ {w : World} {Z : Nat → Prop} {t : Trm} {b : Nat} (h : IsRT w Z t b) : Z b := by cases h; assumption
theorem IsRT.text {w : World} {Z : Nat → Prop} {t : Trm} {b : Nat} (h : IsRT w Z t b) : w.cell? ⟨b, 2, none⟩ = some (.string t.text) := by cases h; assumption
structure TBld (w wr : World) (xb tb : Nat) (s : ByteArray) (x : Sc) (nm T : ByteArray) (acc : List Trm) (v : Value) (cs : List Nat) : Prop where
 scan : ScanAt wr xb s x
 xlt : xb < w.heap.size
 tge : w.heap.size ≤ tb
 lt : tb < wr.heap.size
 free : ∀ o, wr.frozen? ⟨tb, o, none⟩ = false
 c0 : wr.cell? ⟨tb, 0, none⟩ = some (.string nm)
 c1 : wr.cell? ⟨tb, 1, none⟩ = some v
 c2 : wr.cell? ⟨tb, 2, none⟩ = some (.string T)
 row : wr.ownsRow (tb + 1) 170 1 v acc.length (ptrs cs)
 len : cs.length = acc.length
 kids : ∀ (i c : Nat) (p : Trm), cs[i]? = some c → acc[i]? = some p → IsRT wr (fun k => tb < k ∧ v.ownBlock ≠ some k) p c
 upd : Upd [xb] w wr
section
variable {w wr w2 w3 : World} {xb tb : Nat} {s : ByteArray} {x x2 : Sc} {nm T : ByteArray} {acc : List Trm} {v : Value} {cs : List Nat}
theorem TBld.scanned (h : TBld w wr xb tb s x nm T acc v cs) (hs : ScanAt w2 xb s x2) (hu : Upd [xb] wr w2) : TBld w w2 xb tb s x2 nm T acc v cs := by
 have h1 := h.xlt
 have h2 := h.tge
 have hn : tb ∉ [xb] := by simp; omega
 exact ⟨hs, h1, h2, Nat.lt_of_lt_of_le h.lt hu.size, fun o => (hu.frozen (p := ⟨tb, o, none⟩) h.lt hn).trans (h.free o), (hu.cell h.lt hn).trans h.c0, (hu.cell h.lt hn).trans h.c1, (hu.cell h.lt hn).trans h.c2,
  hu.ownsRow h.row (fun k hk hm => by have := own_geT h.row hk; simp at hm; omega), h.len, fun i c p hc hp => (h.kids i c p hc hp).later hu (fun k hk hm => by simp at hm; omega), h.upd.trans hu⟩
theorem TBld.next (h : TBld w wr xb tb s x nm T acc v cs) {z : Int} (hz : z = x.pos + 1) : TBld w (wr.setCell ⟨xb, 1, none⟩ (.int .i64 z)) xb tb s x.next nm T acc v cs :=
 h.scanned (h.scan.set1 (p := x.pos + 1) (by omega)) ((Upd.refl [xb] wr).setCell (by simp) _)
theorem TBld.drewN (h : TBld w wr xb tb s x nm T acc v cs) (n : Nat) : TBld w (wr.drewN n) xb tb s x nm T acc v cs := h.scanned (h.scan.drewN n) ((Upd.refl [xb] wr).drewN n)
theorem TBld.texted (h : TBld w wr xb tb s x nm T acc v cs) (T' : ByteArray) : TBld w (wr.setCell ⟨tb, 2, none⟩ (.string T')) xb tb s x nm T' acc v cs := by
 have h1 := h.xlt
 have h2 := h.tge
 have h0 := h.lt
 have hu : Upd [tb] wr (wr.setCell ⟨tb, 2, none⟩ (.string T')) := (Upd.refl [tb] wr).setCell (by simp) _
 have g0 := h.c0
 have g1 := h.c1
 have g2 := h.c2
 have gf := h.free
 exact ⟨h.scan.later hu (by simp; omega), h1, h2, by simpa using h0, fun o => by simpa using gf o, by go_simp, by go_simp, by go_simp,
  hu.ownsRow h.row (fun k hk hm => by have := own_geT h.row hk; simp at hm; omega), h.len, fun i c p hc hp => (h.kids i c p hc hp).later hu (fun k hk hm => by simp at hm; omega), h.upd.setCell (.inr h2) _⟩
theorem TBld.begin_ {X : Obj} (hs : ScanAt w2 xb s x) (hx : xb < w.heap.size) (hu : Upd [xb] w w2) (hX : X = .cells #[.string nm, .slice none 0 0, .string T] 169) : TBld w (w2.alloc X) xb w2.heap.size s x nm T [] (.slice none 0 0) [] := by
 have hsz := hu.size
 subst hX
 refine ⟨hs.later (L := []) ((Upd.refl [] w2).alloc _) (by simp), hx, hsz, by simp, fun o => by go_simp, by go_simp, by go_simp, by go_simp, ?_, rfl, fun i c p hc => by simp at hc, hu.alloc _⟩
 exact ⟨rfl, .inl ⟨rfl, rfl⟩⟩
theorem TBld.kid {c B g cap : Nat} {p : Trm} {X : Obj} (h : TBld w wr xb tb s x nm T acc v cs) (hp : IsRT wr (fun k => B ≤ k) p c) (hB : tb < B) (hv : ∀ q, v.ownBlock = some q → q < B)
  (hg : (wr.alloc X).grownBy w3 v.ownBlock) (hat : v.ownBlock = some g ∨ g = (wr.alloc X).heap.size) (hown : w3.ownsRow (tb + 1) 170 1 (.slice (some ⟨g, 0, none⟩) (acc.length + 1) cap) (acc.length + 1) (ptrs cs ++ [.pointer (some ⟨c, 0, none⟩)])) :
  TBld w (w3.setCell ⟨tb, 1, none⟩ (.slice (some ⟨g, 0, none⟩) (acc.length + 1) cap)) xb tb s x nm T (acc ++ [p]) (.slice (some ⟨g, 0, none⟩) (acc.length + 1) cap) (cs ++ [c]) := by
 have h1 := h.xlt
 have h2 := h.tge
 have h0 := h.lt
 have hge : ∀ q, v.ownBlock = some q → tb < q ∧ q < wr.heap.size := fun q hq => ⟨own_geT h.row hq, ownsRow_lt h.row hq⟩
 have U : Upd v.ownBlock.toList wr w3 := ((Upd.refl _ wr).alloc X).trans (Upd.of_grown hg)
 have hnt : tb ∉ v.ownBlock.toList := fun hm => by have := hge tb (by simpa using hm); omega
 have hnx : xb ∉ v.ownBlock.toList := fun hm => by have := hge xb (by simpa using hm); omega
 have hsz := U.size
 have hu : Upd [tb] w3 (w3.setCell ⟨tb, 1, none⟩ (.slice (some ⟨g, 0, none⟩) (acc.length + 1) cap)) := (Upd.refl [tb] w3).setCell (by simp) _
 have g0 := (U.cell (p := ⟨tb, 0, none⟩) h0 hnt).trans h.c0
 have g1 := (U.cell (p := ⟨tb, 1, none⟩) h0 hnt).trans h.c1
 have g2 := (U.cell (p := ⟨tb, 2, none⟩) h0 hnt).trans h.c2
 have gf : ∀ o, w3.frozen? ⟨tb, o, none⟩ = false := fun o => (U.frozen (p := ⟨tb, o, none⟩) h0 hnt).trans (h.free o)
 have hgt : tb < g := by rcases hat with hat | hat; exact (hge g hat).1; simp at hat; omega
 have hlt3 : tb < w3.heap.size := by omega
 refine ⟨(h.scan.later U hnx).later hu (by simp; omega), h1, h2, by simpa using hlt3, fun o => by simpa using gf o, by go_simp, by go_simp, by go_simp, ?_, by simp [h.len], ?_, ?_⟩
 ·have := hu.ownsRow hown (fun k hk hm => by simp [Value.ownBlock] at hk hm; omega)
  simpa [ptrs] using this
 ·intro i c' p' hc' hp'
  have hfr : ∀ q, (tb < q ∧ v.ownBlock ≠ some q) → q < wr.heap.size → tb < q ∧ (Value.slice (some ⟨g, 0, none⟩) (acc.length + 1) cap).ownBlock ≠ some q := fun q hq hl => ⟨hq.1, fun e => by
   simp only [own_slice, Option.some.injEq] at e
   subst e
   rcases hat with hat | hat
   ·exact hq.2 hat
   ·simp at hat; omega⟩
  by_cases hi : i < acc.length
  ·rw [List.getElem?_append_left (by rw [h.len]; exact hi)] at hc'
   rw [List.getElem?_append_left hi] at hp'
   have k1 : IsRT wr (fun k => (tb < k ∧ v.ownBlock ≠ some k) ∧ k < wr.heap.size) p' c' := (h.kids i c' p' hc' hp').mono fun q hq hl => ⟨hq, hl⟩
   have k2 := (k1.later U (fun q hq hm => hq.1.2 (by simpa using hm))).later hu (fun q hq hm => by simp at hm; omega)
   exact k2.mono fun q hq _ => hfr q hq.1 hq.2
  ·have hi2 : i = acc.length := by
    have := (List.getElem?_eq_some_iff.1 hp').1
    simp at this
    omega
   subst hi2
   rw [← h.len, List.getElem?_concat_length] at hc'
   rw [List.getElem?_concat_length] at hp'
   obtain rfl := Option.some.inj hc'
   obtain rfl := Option.some.inj hp'
   have k1 : IsRT wr (fun k => B ≤ k ∧ k < wr.heap.size) p c := hp.mono fun q hq hl => ⟨hq, hl⟩
   have k2 := (k1.later U (fun q hq hm => by have := hv q (by simpa using hm); omega)).later hu (fun q hq hm => by simp at hm; omega)
   exact k2.mono fun q hq _ => hfr q ⟨by omega, fun e => by have := hv q e; omega⟩ hq.2
 ·exact (h.upd.trans' U (fun k hk hl => by have := hge k (by simpa using hk); omega)).setCell (.inr h2) _
theorem TBld.done (h : TBld w wr xb tb s x nm T acc v cs) (hT : T = (Trm.node nm acc).text) : IsRT wr (fun k => w.heap.size ≤ k ∧ k < wr.heap.size) (.node nm acc) tb := by
 subst hT
 have h2 := h.tge
 exact .mk h.lt ⟨h.tge, h.lt⟩ h.c0 h.c1 h.c2 (ownsRow_base h.row fun _ _ => Nat.zero_le _) (fun q hq => ⟨by have := own_geT h.row hq; omega, ownsRow_lt h.row hq⟩) h.len (fun i c p hc hp => (h.kids i c p hc hp).mono fun q hq hl => ⟨by omega, hl⟩)
end
end Go.Proofs.YtmfkpllnmmfpiaaGreatDoor
