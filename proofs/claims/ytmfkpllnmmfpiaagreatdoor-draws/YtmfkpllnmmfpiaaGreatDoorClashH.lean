/-
  'Clash' of a Web, walked.
-/
import Derived.Test.YtmfkpllnmmfpiaaGreatDoorSay2H
namespace Go.Proofs.YtmfkpllnmmfpiaaGreatDoor
open Go.RowKit

/-- A sentence with != whose sides are of one class. -/
def badOf (S : WS) (x : Nat × Nat × Nat) : Bool := x.1 == 1 && classAt S x.2.1 == classAt S x.2.2
def clashM (S : WS) : Bool := S.said.any (badOf S)

theorem flatSaid_get {l : List (Nat × Nat × Nat)} {i : Nat} {s : Nat × Nat × Nat} (h : l[i]? = some s) : (flatSaid l)[i * 3]? = some (.int .i64 s.1) ∧ (flatSaid l)[i * 3 + 1]? = some (.int .i64 s.2.1) ∧ (flatSaid l)[i * 3 + 2]? = some (.int .i64 s.2.2) := by
  induction l generalizing i with
  | nil => simp at h
  | cons d ds ih =>
    cases i with
    | zero => simp at h; subst h; simp [flatSaid]
    | succ i =>
      have := ih (i := i) (by simpa using h)
      have e : (i + 1) * 3 = i * 3 + 1 + 1 + 1 := by omega
      rw [e]
      simpa [flatSaid] using this
theorem rowSaid_cells {w : World} {base e g len cap n : Nat} {l : List (Nat × Nat × Nat)} {s : Nat × Nat × Nat} {i : Nat} (h : w.ownsRow base e 3 (.slice (some ⟨g, 0, none⟩) len cap) n (flatSaid l)) (hi : l[i]? = some s) :
    w.cell? ⟨g, i * 3, none⟩ = some (.int .i64 s.1) ∧ w.cell? ⟨g, i * 3 + 1, none⟩ = some (.int .i64 s.2.1) ∧ w.cell? ⟨g, i * 3 + 2, none⟩ = some (.int .i64 s.2.2) := by
  obtain ⟨hl, hr⟩ := h
  rcases hr with ⟨hv, _⟩ | ⟨g', cap', cur, hv, _, hg, _, _, hcs, htk⟩
  · cases hv
  · cases hv
    have hc := flatSaid_get hi
    have key : ∀ j u, (flatSaid l)[j]? = some u → w.cell? ⟨g, j, none⟩ = some u := by
      intro j u hu
      rw [cell_of_row w g j cur e (0, 0) hg]
      rw [← htk, List.getElem?_take] at hu
      split at hu
      · simpa using hu
      · cases hu
    exact ⟨key _ _ hc.1, key _ _ hc.2.1, key _ _ hc.2.2⟩

set_option maxHeartbeats 1000000 in
set_option maxRecDepth 100000 in
/-- The test: it only looks. -/
theorem clash1_any (w : World) (wb bw : Nat) (H : Hd) (Z : Nat → Prop) (S : WS) (x : Nat × Nat × Nat) (h : WebAt w wb H Z S) (hw : w.cell? ⟨bw, 0, none⟩ = some (.pointer (some ⟨wb, 0, none⟩))) (h1 : x.2.1 < S.classes.length) (h2 : x.2.2 < S.classes.length) :
    Calls Tryz.prog 81 #[.agg #[.int .i64 x.1, .int .i64 x.2.1, .int .i64 x.2.2], .pointer (some ⟨bw, 0, none⟩)] w fun e w' => e = .returned (.bool (badOf S x)) ∧ Upd [] w w' := by
  obtain ⟨g, cap, hcl, _, _⟩ : ∃ g cap, H.classes = .slice (some ⟨g, 0, none⟩) S.classes.length cap ∧ S.classes.length ≤ cap ∧ cap ≤ maxLen := by
    rcases ownsRow_slice h.rc with ⟨_, h0⟩ | hh
    · omega
    · exact hh
  obtain ⟨W1, hW1⟩ : ∃ W1, W1 = w.alloc (.cells #[.int .i64 x.1, .int .i64 x.2.1, .int .i64 x.2.2] 134) := ⟨_, rfl⟩
  have U1 : Upd [] w W1 := hW1 ▸ (Upd.refl [] w).alloc _
  have b0 : W1.cell? ⟨w.heap.size, 0, none⟩ = some (.int .i64 x.1) := by rw [hW1]; go_simp
  have b1 : W1.cell? ⟨w.heap.size, 1, none⟩ = some (.int .i64 x.2.1) := by rw [hW1]; go_simp
  have b2 : W1.cell? ⟨w.heap.size, 2, none⟩ = some (.int .i64 x.2.2) := by rw [hW1]; go_simp
  have hw1 := (U1.cell (p := ⟨bw, 0, none⟩) (World.block_lt_of_cell? _ _ hw) (by simp)).trans hw
  have hweb := h.later U1 (fun _ _ => by simp)
  have c3 := hweb.c3
  rw [hcl] at c3
  have hrc := hweb.rc
  rw [hcl] at hrc
  have k1 : W1.cell? ⟨g, x.2.1, none⟩ = some (.int .i64 (classAt S x.2.1)) := row1_cell hrc h1
  have k2 : W1.cell? ⟨g, x.2.2, none⟩ = some (.int .i64 (classAt S x.2.2)) := row1_cell hrc h2
  have h1' : (x.2.1 : Int) < (S.classes.length : Int) := by omega
  have h2' : (x.2.2 : Int) < (S.classes.length : Int) := by omega
  have HU := hide U1
  clear hcl hrc hweb h hw U1
  by_cases hx : x.1 = 1
  · have hg : ((x.1 : Int) == 1) = true := by simp; omega
    have HB : Hid (badOf S x = ((classAt S x.2.1 : Int) == (classAt S x.2.2 : Int))) := by
      show _ = _
      unfold badOf
      rw [hx]
      by_cases e : classAt S x.2.1 = classAt S x.2.2
      · simp [e]
      · have e' : ¬ ((classAt S x.2.1 : Int) = (classAt S x.2.2 : Int)) := by omega
        have e1 : (classAt S x.2.1 == classAt S x.2.2) = false := by simpa using e
        have e2 : ((classAt S x.2.1 : Int) == (classAt S x.2.2 : Int)) = false := by simpa using e'
        rw [e1, e2]; rfl
    clear hx
    go_enter Tryz.func81, Tryz.ntmps81
    go_wp2
    rw [← hW1]
    clear hW1
    go_quiet (fail)
    go_wp2
    go_ret
    exact ⟨by rw [HB.out]; rfl, HU.out.drewN _⟩
  · have hg : ((x.1 : Int) == 1) = false := by simp; omega
    have HB : Hid (badOf S x = false) := by
      show _ = _
      unfold badOf
      have e1 : (x.1 == 1) = false := by simpa using hx
      rw [e1]; rfl
    clear hx
    go_enter Tryz.func81, Tryz.ntmps81
    go_wp2
    rw [← hW1]
    clear hW1
    go_quiet (fail)
    go_wp2
    go_ret
    exact ⟨by rw [HB.out]; rfl, HU.out.drewN _⟩

theorem said_slice {w : World} {wb : Nat} {H : Hd} {Z : Nat → Prop} {S : WS} (h : WebAt w wb H Z S) : ∃ g cap, H.said = .slice g S.said.length cap ∧ S.said.length ≤ cap ∧ cap ≤ maxLen ∧ (0 < S.said.length → ∃ b, g = some ⟨b, 0, none⟩) := by
  rcases ownsRow_slice h.rd with ⟨h1, h2⟩ | ⟨g, cap, h1, h2, h3⟩
  · exact ⟨none, 0, by rw [h1, h2], by omega, by simp [maxLen], fun e => by omega⟩
  · exact ⟨_, cap, h1, h2, h3, fun _ => ⟨g, rfl⟩⟩

set_option maxHeartbeats 2000000 in
set_option maxRecDepth 100000 in
theorem index_any (w : World) (wb bw : Nat) (H : Hd) (Z : Nat → Prop) (S : WS) (h : WebAt w wb H Z S) (hw : w.cell? ⟨bw, 0, none⟩ = some (.pointer (some ⟨wb, 0, none⟩))) (hin : ∀ x ∈ S.said, x.2.1 < S.classes.length ∧ x.2.2 < S.classes.length) (hsd : S.said.length ≤ 1000000) :
    Calls Tryz.prog 114 #[H.said, .func (.func 81) #[] #[.pointer (some ⟨bw, 0, none⟩)]] w fun e w' => ∃ r : Int, e = .returned (.int .i64 r) ∧ decide (0 ≤ r) = clashM S ∧ Upd [] w w' := by
  obtain ⟨g, cap, hd, hcap, hcm, hg⟩ := said_slice h
  rw [hd]
  unfold maxLen at hcm
  have hbl : bw < w.heap.size := World.block_lt_of_cell? _ _ hw
  have HC := hide (fun (wr : World) (hu : Upd [] w wr) (x : Nat × Nat × Nat) (hx : x ∈ S.said) => clash1_any wr wb bw H Z S x (h.later hu (fun _ _ => by simp)) ((hu.cell (p := ⟨bw, 0, none⟩) hbl (by simp)).trans hw) (hin x hx).1 (hin x hx).2)
  have HR := hide h.rd
  have HD := hide hd
  have HG := hide hg
  have Hs0 := hide (Upd.refl [] w)
  clear h hd hg hw hin
  go_enter Tryz.func114, Tryz.ntmps114
  go_wp2
  go_loopw [8] (fun i wr => ∃ j : Nat, j ≤ S.said.length ∧ i = .int .i64 j ∧ Hid ((∀ k, k < j → ∀ x, S.said[k]? = some x → badOf S x = false) ∧ Upd [] w wr)) (fun i _ => S.said.length - (intOf i).toNat)
  case atStart => exact ⟨0, Nat.zero_le _, rfl, fun k hk => by omega, Hs0.out⟩
  case round =>
    obtain ⟨j, hj, rfl, HJ⟩ := hrel
    by_cases hjl : j < S.said.length
    · have hjl' : (j : Int) < (S.said.length : Int) := by omega
      obtain ⟨b, rfl⟩ := HG.out (by omega)
      have hget := List.getElem?_eq_getElem hjl
      have hmem := List.getElem_mem hjl
      have hrd := HR.out
      rw [HD.out] at hrd
      obtain ⟨k0, k1, k2⟩ := rowSaid_cells hrd hget
      have hbw : b < w.heap.size := ownsRow_lt hrd rfl
      have m0 := (HJ.out.2.cell (p := ⟨b, j * 3, none⟩) hbw (by simp)).trans k0
      have m1 := (HJ.out.2.cell (p := ⟨b, j * 3 + 1, none⟩) hbw (by simp)).trans k1
      have m2 := (HJ.out.2.cell (p := ⟨b, j * 3 + 2, none⟩) hbw (by simp)).trans k2
      have HC2 := hide (HC.out wr HJ.out.2 _ hmem)
      have Hget := hide hget
      have Hmem := hide hmem
      generalize S.said[j] = x at *
      clear hrd k0 k1 k2 hget hmem HC
      cases hbx : badOf S x with
      | true =>
        have Hbx := hide hbx
        rw [hbx] at HC2
        clear hbx
        go_wp2_with (go_at_call 81; refine HC2.out.mono ?_; rintro e w2 ⟨rfl, hu2⟩; have Hu2 := hide hu2; clear hu2)
        go_ret
        refine ⟨j, rfl, ?_, HJ.out.2.trans Hu2.out⟩
        have : clashM S = true := List.any_eq_true.2 ⟨x, Hmem.out, Hbx.out⟩
        rw [this]
        simp
      | false =>
        have Hbx := hide hbx
        rw [hbx] at HC2
        clear hbx
        go_wp2_with (go_at_call 81; refine HC2.out.mono ?_; rintro e w2 ⟨rfl, hu2⟩; have Hu2 := hide hu2; clear hu2)
        refine ⟨⟨j + 1, by omega, by go_num, fun k hk y hy => ?_, HJ.out.2.trans Hu2.out⟩, by simp [intOf]; omega⟩
        by_cases e : k = j
        · subst e
          have := Hget.out
          rw [this] at hy
          cases hy
          exact Hbx.out
        · exact HJ.out.1 k (by omega) y hy
    · obtain rfl : j = S.said.length := by omega
      have hge : ¬ (S.said.length : Int) < (S.said.length : Int) := by omega
      go_wp2
      go_ret
      refine ⟨-1, rfl, ?_, HJ.out.2⟩
      have : clashM S = false := by
        unfold clashM
        rw [List.any_eq_false]
        intro x hx
        obtain ⟨i, hi, rfl⟩ := List.getElem_of_mem hx
        rw [HJ.out.1 i hi _ (List.getElem?_eq_getElem hi)]
        simp
      rw [this]
      rfl

set_option maxHeartbeats 1000000 in
theorem contains_any (w : World) (wb bw : Nat) (H : Hd) (Z : Nat → Prop) (S : WS) (h : WebAt w wb H Z S) (hw : w.cell? ⟨bw, 0, none⟩ = some (.pointer (some ⟨wb, 0, none⟩))) (hin : ∀ x ∈ S.said, x.2.1 < S.classes.length ∧ x.2.2 < S.classes.length) (hsd : S.said.length ≤ 1000000) :
    Calls Tryz.prog 80 #[H.said, .func (.func 81) #[] #[.pointer (some ⟨bw, 0, none⟩)]] w fun e w' => e = .returned (.bool (clashM S)) ∧ Upd [] w w' := by
  have HC := hide (index_any w wb bw H Z S h hw hin hsd)
  clear h hw hin
  go_enter Tryz.func80, Tryz.ntmps80
  go_wp2_with (go_at_call 114; refine HC.out.mono ?_; rintro e w2 ⟨r, rfl, hr, hu⟩; have Hr := hide hr; have Hu := hide hu; clear hr hu)
  go_ret
  exact ⟨by rw [← Hr.out]; rfl, Hu.out⟩

set_option maxHeartbeats 1000000 in
theorem webClash_any (w : World) (wb : Nat) (H : Hd) (Z : Nat → Prop) (S : WS) (h : WebAt w wb H Z S) (hin : ∀ x ∈ S.said, x.2.1 < S.classes.length ∧ x.2.2 < S.classes.length) (hsd : S.said.length ≤ 1000000) :
    Calls Tryz.prog 45 #[.pointer (some ⟨wb, 0, none⟩)] w fun e w' => e = .returned (.bool (clashM S)) ∧ Upd [] w w' := by
  have hmf : ∀ (fn : Fn) (first cap : Array Value) (w : World), (Instr.makeFunc fn first cap).run Tryz.prog w = .ok (.func fn first cap) w := fun _ _ _ _ => rfl
  obtain ⟨W1, hW1⟩ : ∃ W1, W1 = w.alloc (.cells #[.pointer (some ⟨wb, 0, none⟩)] 27) := ⟨_, rfl⟩
  have U1 : Upd [] w W1 := hW1 ▸ (Upd.refl [] w).alloc _
  have b0 : W1.cell? ⟨w.heap.size, 0, none⟩ = some (.pointer (some ⟨wb, 0, none⟩)) := by rw [hW1]; go_simp
  have hweb := h.later U1 (fun _ _ => by simp)
  have c5 := hweb.c5
  obtain ⟨g0, cap0, hd0, _⟩ := said_slice h
  have HD : ∃ g cap, H.said = .slice g S.said.length cap := ⟨g0, cap0, hd0⟩
  clear hd0
  have HC := hide (contains_any W1 wb w.heap.size H Z S hweb b0 hin hsd)
  have HU := hide U1
  clear h hin hweb U1
  obtain ⟨g, cap, hd⟩ : ∃ g cap, H.said = .slice g S.said.length cap := HD
  rw [hd] at c5 HC
  clear hd
  subst hW1
  go_enter Tryz.func45, Tryz.ntmps45
  go_wp2_with (go_at_call 80; refine HC.out.mono ?_; rintro e w2 ⟨rfl, hu⟩; have Hu := hide hu; clear hu)
  go_ret
  exact ⟨rfl, HU.out.trans Hu.out⟩
end Go.Proofs.YtmfkpllnmmfpiaaGreatDoor
