/-
  'twins': the terms of two classes that have the same name and equal parts.
-/
import Derived.Test.YtmfkpllnmmfpiaaGreatDoorMoveH
namespace Go.Proofs.YtmfkpllnmmfpiaaGreatDoor
open Go.RowKit

theorem info_pair : (Tryz.prog.info? 231).map (fun i => (i.zero, i.size, i.bytes)) = some (some (.agg #[.int .i64 0, .int .i64 0]), 2, 16) := by kernel_rfl

def flat2 : List (Nat × Nat) → List Value
  | [] => []
  | p :: l => .int .i64 p.1 :: .int .i64 p.2 :: flat2 l
theorem flat2_append (a b : List (Nat × Nat)) : flat2 (a ++ b) = flat2 a ++ flat2 b := by
  induction a with
  | nil => rfl
  | cons c cs ih => simp [flat2, ih]

def noSh : Sh := (⟨#[]⟩, 0, 0, 0, 0)
def shapeAt (S : WS) (i : Nat) : Sh := S.shapes.getD i noSh
/-- The first i terms looked at. -/
def twinsTo (S : WS) : Nat → List (Nat × Nat) × WS
  | 0 => ([], S)
  | i + 1 => (if classAt S (fileM (twinsTo S i).2 (shapeAt S i) i).1 = classAt S i then (twinsTo S i).1 else (twinsTo S i).1 ++ [((fileM (twinsTo S i).2 (shapeAt S i) i).1, i)], (fileM (twinsTo S i).2 (shapeAt S i) i).2)
def twinsM (S : WS) : List (Nat × Nat) × WS := twinsTo S S.shapes.length

/-- What stays while twins are looked for. -/
structure Same (S R : WS) (i : Nat) : Prop where
  shapes : R.shapes = S.shapes
  classes : R.classes = S.classes
  numbers : R.numbers = S.numbers
  nums : R.nums = S.nums
  said : R.said = S.said
  trail : R.trail.length ≤ S.trail.length + i
  files : R.files ≤ S.files + i
  al : ∀ s t, R.alike s = some t → S.alike s = some t ∨ t < i

theorem twinsTo_same (S : WS) : ∀ i, Same S (twinsTo S i).2 i
  | 0 => ⟨rfl, rfl, rfl, rfl, rfl, Nat.le_refl _, Nat.le_refl _, fun _ _ h => .inl h⟩
  | i + 1 => by
    obtain ⟨h1, h2, h3, h4, h5, h6, h7, h8⟩ := twinsTo_same S i
    obtain ⟨r1, r2, r3, r4, r5, r6, r7⟩ := fileM_rows (twinsTo S i).2 (shapeAt S i) i
    refine ⟨r1.trans h1, r2.trans h2, r3.trans h3, r4.trans h4, r5.trans h5, by simp only [twinsTo]; omega, by simp only [twinsTo]; omega, fun s t h => ?_⟩
    simp only [twinsTo] at h
    unfold fileM at h
    split at h
    · exact (h8 s t h).imp id (fun e => by omega)
    · simp only [setF] at h
      split at h
      · cases h; exact .inr (by omega)
      · exact (h8 s t h).imp id (fun e => by omega)
theorem twinsTo_length (S : WS) : ∀ i, (twinsTo S i).1.length ≤ i
  | 0 => Nat.le_refl _
  | i + 1 => by
    have := twinsTo_length S i
    simp only [twinsTo]
    split
    · omega
    · simp; omega

theorem Fits.same {S R : WS} {s : Sh} (h : Fits S s) (hc : R.classes = S.classes) : Fits R s :=
  ⟨h.name, h.count, fun i hi => by rw [hc]; exact h.known i hi, h.small, fun i => by unfold classAt; rw [hc]; exact h.classes i⟩

theorem flatSh_get {l : List Sh} {i : Nat} {s : Sh} (h : l[i]? = some s) : (flatSh l)[i * 5]? = some (.string s.1) ∧ (flatSh l)[i * 5 + 1]? = some (.int .i64 s.2.1) ∧ (flatSh l)[i * 5 + 2]? = some (.int .i64 s.2.2.1) ∧ (flatSh l)[i * 5 + 3]? = some (.int .i64 s.2.2.2.1) ∧ (flatSh l)[i * 5 + 4]? = some (.int .i64 s.2.2.2.2) := by
  induction l generalizing i with
  | nil => simp at h
  | cons d ds ih =>
    cases i with
    | zero => simp at h; subst h; simp [flatSh]
    | succ i =>
      have := ih (i := i) (by simpa using h)
      have e : (i + 1) * 5 = i * 5 + 1 + 1 + 1 + 1 + 1 := by omega
      rw [e]
      simpa [flatSh] using this
/-- A shape in its row, cell by cell. -/
theorem row5_cells {w : World} {base e g len cap n : Nat} {l : List Sh} {s : Sh} {i : Nat} (h : w.ownsRow base e 5 (.slice (some ⟨g, 0, none⟩) len cap) n (flatSh l)) (hi : l[i]? = some s) :
    w.cell? ⟨g, i * 5, none⟩ = some (.string s.1) ∧ w.cell? ⟨g, i * 5 + 1, none⟩ = some (.int .i64 s.2.1) ∧ w.cell? ⟨g, i * 5 + 2, none⟩ = some (.int .i64 s.2.2.1) ∧ w.cell? ⟨g, i * 5 + 3, none⟩ = some (.int .i64 s.2.2.2.1) ∧ w.cell? ⟨g, i * 5 + 4, none⟩ = some (.int .i64 s.2.2.2.2) := by
  obtain ⟨hl, hr⟩ := h
  rcases hr with ⟨hv, _⟩ | ⟨g', cap', cur, hv, _, hg, _, _, hcs, htk⟩
  · cases hv
  · cases hv
    have hc := flatSh_get hi
    have key : ∀ j u, (flatSh l)[j]? = some u → w.cell? ⟨g, j, none⟩ = some u := by
      intro j u hu
      rw [cell_of_row w g j cur e (0, 0) hg]
      rw [← htk, List.getElem?_take] at hu
      split at hu
      · simpa using hu
      · cases hu
    exact ⟨key _ _ hc.1, key _ _ hc.2.1, key _ _ hc.2.2.1, key _ _ hc.2.2.2.1, key _ _ hc.2.2.2.2⟩

/-- Where the loop of 'twins' stands: the pairs in a row of their own. -/
structure Pairing (w wr : World) (wb : Nat) (H : Hd) (Z : Nat → Prop) (v : Value) (ps : List (Nat × Nat)) (S : WS) : Prop where
  ex : ∃ bk, WebAt wr wb { H with backs := bk } (fun k => (Z k ∨ w.heap.size ≤ k) ∧ v.ownBlock ≠ some k) S ∧ ∀ k ∈ ({ H with backs := bk } : Hd).blocks wb, k ∈ H.blocks wb ∨ w.heap.size ≤ k
  row : wr.ownsRow w.heap.size 231 2 v ps.length (flat2 ps)
  upd : Upd (H.blocks wb) w wr
end Go.Proofs.YtmfkpllnmmfpiaaGreatDoor

/-
  'twins', walked.
-/
namespace Go.Proofs.YtmfkpllnmmfpiaaGreatDoor
open Go.RowKit

theorem ownBlock_some {v : Value} {k : Nat} {w : World} {base e size n : Nat} {xs : List Value} (h : w.ownsRow base e size v n xs) (hk : v.ownBlock = some k) : base ≤ k ∧ k < w.heap.size := h.lt k hk

theorem Pairing.drewN {w wr : World} {wb : Nat} {H : Hd} {Z : Nat → Prop} {v : Value} {ps : List (Nat × Nat)} {S : WS} (h : Pairing w wr wb H Z v ps S) (n : Nat) : Pairing w (wr.drewN n) wb H Z v ps S := by
  obtain ⟨⟨bk, hw, hb⟩, hr, hu⟩ := h
  exact ⟨⟨bk, hw.later ((Upd.refl [] _).drewN n) (fun _ _ => by simp), hb⟩, ((Upd.refl [] wr).drewN n).ownsRow hr (fun _ _ => by simp), hu.drewN n⟩
theorem Pairing.grow {w w2 w3 : World} {wb n g cap : Nat} {H : Hd} {Z : Nat → Prop} {v : Value} {ps : List (Nat × Nat)} {x : Nat × Nat} {S : WS} {X : Obj} (h : Pairing w w2 wb H Z v ps S) (hg : ((w2.alloc X).drewN n).grownBy w3 v.ownBlock) (hat : v.ownBlock = some g ∨ g = ((w2.alloc X).drewN n).heap.size)
    (hown : w3.ownsRow w.heap.size 231 2 (.slice (some ⟨g, 0, none⟩) (ps.length + 1) cap) (ps.length + 1) (flat2 ps ++ [.int .i64 x.1, .int .i64 x.2])) :
    Pairing w w3 wb H Z (.slice (some ⟨g, 0, none⟩) (ps.length + 1) cap) (ps ++ [x]) S := by
  obtain ⟨⟨bk, hw, hb⟩, hr, hu⟩ := h
  have U : Upd v.ownBlock.toList w2 w3 := (((Upd.refl _ w2).alloc X).drewN n).trans (Upd.of_grown hg)
  have e1 : ((w2.alloc X).drewN n).heap.size = w2.heap.size + 1 := by
    show (w2.alloc X).heap.size = _
    simp
  have hlo := hown.lt g rfl
  refine ⟨⟨bk, ?_, hb⟩, ?_, hu.trans' U (fun k hk hl => ?_)⟩
  · refine ((hw.mono (Z' := fun k => ((Z k ∨ w.heap.size ≤ k) ∧ v.ownBlock ≠ some k) ∧ k < w2.heap.size) (fun k hk hl => ⟨hk, hl⟩)).later U (fun k hk hm => hk.1.2 (by simpa using hm))).mono (fun k hk _ => ⟨hk.1.1, fun e => ?_⟩)
    simp only [own_slice, Option.some.injEq] at e
    subst e
    rcases hat with hat | hat
    · exact hk.1.2 hat
    · omega
  · rw [flat2_append]
    simpa [flat2] using hown
  · have := (hr.lt k (by simpa using hk)).1
    omega

set_option maxHeartbeats 2000000 in
set_option maxRecDepth 100000 in
theorem twins_any (w : World) (wb : Nat) (H : Hd) (Z : Nat → Prop) (S : WS) (h : WebAt w wb H Z S) (hlen : S.shapes.length = S.classes.length) (hsm : S.shapes.length ≤ 50000) (htr : S.trail.length + S.shapes.length ≤ 9000000) (hfl : S.files + S.shapes.length ≤ 9000000)
    (hfit : ∀ i, i < S.shapes.length → Fits S (shapeAt S i)) (hal : ∀ s t, S.alike s = some t → t < S.shapes.length) :
    Calls Tryz.prog 156 #[.pointer (some ⟨wb, 0, none⟩)] w fun e w' => ∃ v bk, e = .returned v ∧ WebAt w' wb { H with backs := bk } (fun k => (Z k ∨ w.heap.size ≤ k) ∧ v.ownBlock ≠ some k) (twinsM S).2 ∧ w'.ownsRow w.heap.size 231 2 v (twinsM S).1.length (flat2 (twinsM S).1) ∧ Upd (H.blocks wb) w w' ∧ ∀ k ∈ ({ H with backs := bk } : Hd).blocks wb, k ∈ H.blocks wb ∨ w.heap.size ≤ k := by
  have hltb := h.mem_lt
  obtain ⟨i0, hi, hz0, hz1, hz2⟩ := info_parts info_pair
  obtain ⟨g, l, cap, hcl, hl, hlc, hcm, hg⟩ : ∃ (g : Option Addr) (l cap : Nat), H.shapes = .slice g l cap ∧ l = S.shapes.length ∧ l ≤ cap ∧ cap ≤ maxLen ∧ (0 < l → ∃ b, g = some ⟨b, 0, none⟩) := by
    rcases ownsRow_slice h.rs with ⟨h1, h2⟩ | ⟨g, cap, h1, h2, h3⟩
    · exact ⟨none, 0, 0, h1, h2.symm, Nat.le_refl _, Nat.zero_le _, fun h => by omega⟩
    · exact ⟨_, _, cap, h1, rfl, h2, h3, fun _ => ⟨g, rfl⟩⟩
  have c1 := h.c1
  rw [hcl] at c1
  have hstart : Pairing w w wb H Z (.slice none 0 0) [] S := ⟨⟨H.backs, h.mono (fun k hk _ => ⟨.inl hk, by simp [Value.ownBlock]⟩), fun k hk => .inl hk⟩, World.ownsRow_nil _ _ _ _, Upd.refl _ _⟩
  have Hl : Hid (l = S.shapes.length) := hl
  have Hlen := hide hlen
  have Hcl : Hid (H.shapes = .slice g l cap) := hcl
  have HG := hide hg
  have Hfit := hide hfit
  have Hal := hide hal
  have hl1 : l ≤ 50000 := by omega
  have htr' : S.trail.length + l ≤ 9000000 := by omega
  have hfl' : S.files + l ≤ 9000000 := by omega
  unfold maxLen at hcm
  clear hl hcl hg hlen hsm htr hfl hfit hal
  go_enter Tryz.func156, Tryz.ntmps156
  go_wp2
  go_loopw [3, 12] (fun v i wr => ∃ (j : Nat), j ≤ l ∧ i = .int .i64 j ∧ Hid (Pairing w wr wb H Z v (twinsTo S j).1 (twinsTo S j).2)) (fun _ i _ => l - (intOf i).toNat)
  case atStart => exact ⟨0, Nat.zero_le _, rfl, hstart⟩
  case round =>
    obtain ⟨j, hj, rfl, HR⟩ := hrel
    clear hstart c1
    have hR := HR.out
    by_cases hjl : j < l
    · have hjl' : (j : Int) < (l : Int) := by omega
      obtain ⟨b, rfl⟩ := HG.out (by omega)
      have hjS : j < S.shapes.length := by rw [← Hl.out]; exact hjl
      have hsame := twinsTo_same S j
      have hplen := twinsTo_length S j
      have hsucc : Hid (twinsTo S (j + 1) = (if classAt S (fileM (twinsTo S j).2 (shapeAt S j) j).1 = classAt S j then (twinsTo S j).1 else (twinsTo S j).1 ++ [((fileM (twinsTo S j).2 (shapeAt S j) j).1, j)], (fileM (twinsTo S j).2 (shapeAt S j) j).2)) := rfl
      obtain ⟨bk, hwj, hbj⟩ := hR.ex
      have hrow := hR.row
      have hupd := hR.upd
      have hget : S.shapes[j]? = some (shapeAt S j) := by simp [shapeAt, List.getD, List.getElem?_eq_getElem hjS]
      have hrs := hwj.rs
      rw [show ({ H with backs := bk } : Hd).shapes = .slice (some ⟨b, 0, none⟩) l cap from Hcl.out, hsame.shapes] at hrs
      obtain ⟨k0, k1, k2, k3, k4⟩ := row5_cells hrs hget
      have hft : Fits (twinsTo S j).2 (shapeAt S j) := (Hfit.out j hjS).same hsame.classes
      have hqr := fileM_rows (twinsTo S j).2 (shapeAt S j) j
      have hq1 : (fileM (twinsTo S j).2 (shapeAt S j) j).1 < S.classes.length := by
        rw [← Hlen.out]
        unfold fileM
        split
        · rename_i u hu
          rcases hsame.al _ _ hu with h1 | h1
          · exact Hal.out _ _ h1
          · simp only; omega
        · exact hjS
      have hcall : Hid (Calls Tryz.prog 157 #[.pointer (some ⟨wb, 0, none⟩), shV (shapeAt S j), .int .i64 j] (wr.alloc (.cells #[.string (shapeAt S j).1, .int .i64 (shapeAt S j).2.1, .int .i64 (shapeAt S j).2.2.1, .int .i64 (shapeAt S j).2.2.2.1, .int .i64 (shapeAt S j).2.2.2.2] 141)) _) :=
        file_any (wr.alloc (.cells #[.string (shapeAt S j).1, .int .i64 (shapeAt S j).2.1, .int .i64 (shapeAt S j).2.2.1, .int .i64 (shapeAt S j).2.2.2.1, .int .i64 (shapeAt S j).2.2.2.2] 141)) wb { H with backs := bk } (fun k => ((Z k ∨ w.heap.size ≤ k) ∧ u3.ownBlock ≠ some k) ∧ k < wr.heap.size) (twinsTo S j).2 (shapeAt S j) j ((hwj.mono (Z' := fun k => ((Z k ∨ w.heap.size ≤ k) ∧ u3.ownBlock ≠ some k) ∧ k < wr.heap.size) (fun k hk hl => ⟨hk, hl⟩)).later ((Upd.refl [] wr).alloc _) (fun _ _ => by simp)) hft (by omega) (by have := hsame.trail; omega) (by have := hsame.files; unfold maxLen; omega) (fun k hk => by have := hk.2; simp; omega)
      have hclS : (fileM (twinsTo S j).2 (shapeAt S j) j).2.classes = S.classes := hqr.2.1.trans hsame.classes
      have Hq : Hid (twinsTo S (j + 1) = (if classAt S (fileM (twinsTo S j).2 (shapeAt S j) j).1 = classAt S j then (twinsTo S j).1 else (twinsTo S j).1 ++ [((fileM (twinsTo S j).2 (shapeAt S j) j).1, j)], (fileM (twinsTo S j).2 (shapeAt S j) j).2)) := hsucc
      clear hsucc hqr hft hrs hget hsame
      generalize fileM (twinsTo S j).2 (shapeAt S j) j = q at *
      generalize (twinsTo S j).1 = ps at *
      obtain ⟨gc, capc, hcc, _, _⟩ : ∃ gc capc, H.classes = .slice (some ⟨gc, 0, none⟩) S.classes.length capc ∧ S.classes.length ≤ capc ∧ capc ≤ maxLen := by
        rcases ownsRow_slice h.rc with ⟨_, h0⟩ | hh
        · omega
        · exact hh
      have Hcc := hide hcc
      have Hcs := hide hclS
      have hjC : j < S.classes.length := by rw [← Hlen.out]; exact hjS
      have HF : Hid (∀ bk2 w2, WebAt w2 wb { H with backs := bk2 } (fun k => (((Z k ∨ w.heap.size ≤ k) ∧ u3.ownBlock ≠ some k) ∧ k < wr.heap.size) ∨ (wr.alloc (.cells #[.string (shapeAt S j).1, .int .i64 (shapeAt S j).2.1, .int .i64 (shapeAt S j).2.2.1, .int .i64 (shapeAt S j).2.2.2.1, .int .i64 (shapeAt S j).2.2.2.2] 141)).heap.size ≤ k) q.2 → w2.cell? ⟨wb, 4, none⟩ = some (.slice (some ⟨gc, 0, none⟩) S.classes.length capc) ∧ w2.cell? ⟨gc, q.1, none⟩ = some (.int .i64 (classAt S q.1)) ∧ w2.cell? ⟨gc, j, none⟩ = some (.int .i64 (classAt S j))) := fun bk2 w2 hw2 => by
        have hr := hw2.rc
        rw [show ({ H with backs := bk2 } : Hd).classes = .slice (some ⟨gc, 0, none⟩) S.classes.length capc from Hcc.out, Hcs.out] at hr
        have hc3 := hw2.c3
        rw [show ({ H with backs := bk2 } : Hd).classes = .slice (some ⟨gc, 0, none⟩) S.classes.length capc from Hcc.out] at hc3
        exact ⟨hc3, row1_cell hr hq1, row1_cell hr hjC⟩
      have hq1' : (q.1 : Int) < (S.classes.length : Int) := by omega
      have hjC' : (j : Int) < (S.classes.length : Int) := by omega
      have Hw := hide hwj
      have Hbj := hide hbj
      unfold shV at hcall
      clear hcc hclS hwj hbj hR
      go_wp2_with (go_at_call 157; refine hcall.out.mono ?_; rintro e w2 ⟨bk2, rfl, hw2, hu2, hH2⟩; obtain ⟨y3, y4, y5⟩ := HF.out bk2 w2 hw2)
      have hszr := hupd.size
      have e1 : (wr.alloc (.cells #[.string (shapeAt S j).1, .int .i64 (shapeAt S j).2.1, .int .i64 (shapeAt S j).2.2.1, .int .i64 (shapeAt S j).2.2.2.1, .int .i64 (shapeAt S j).2.2.2.2] 141)).heap.size = wr.heap.size + 1 := by simp
      have hs2 := hu2.size
      have hv3 : ∀ k, u3.ownBlock = some k → w.heap.size ≤ k ∧ k < wr.heap.size := fun k hk => hrow.lt k hk
      have HN : Hid (Pairing w w2 wb H Z u3 ps q.2) := by
        refine ⟨⟨bk2, hw2.mono (fun k hk _ => ?_), fun k hk => ?_⟩, ?_, (hupd.alloc _).trans' hu2 (fun k hk hl => ?_)⟩
        · rcases hk with hk | hk
          · exact hk.1
          · exact ⟨.inr (by omega), fun e => by have := hv3 k e; omega⟩
        · rcases hH2 k hk with h3 | h3
          · exact Hbj.out k h3
          · exact .inr (by omega)
        · exact hu2.ownsRow (((Upd.refl [] wr).alloc _).ownsRow hrow (fun _ _ => by simp)) (fun k hk hm => (Hw.out.inZ k hm).2 hk)
        · rcases Hbj.out k hk with h3 | h3
          · exact h3
          · omega
      clear hw2 hu2 hH2 hrow hcall HF
      by_cases hcq : classAt S q.1 = classAt S j
      · have hcq' : ((classAt S q.1 : Int) != (classAt S j : Int)) = false := by simp; omega
        have hs1 := Hq.out
        rw [if_pos hcq] at hs1
        have Hs1 := hide hs1
        clear hs1 hcq
        go_wp2
        go_quiet (fail)
        go_wp2
        refine ⟨⟨j + 1, by omega, by go_num, ?_⟩, by simp [intOf]; omega⟩
        show Pairing _ _ _ _ _ _ _ _
        rw [Hs1.out]
        exact HN.out.drewN _
      · have hcq' : ((classAt S q.1 : Int) != (classAt S j : Int)) = true := by simp; omega
        have hs1 := Hq.out
        rw [if_neg hcq] at hs1
        have Hs1 := hide hs1
        clear hs1 hcq
        have hrow2 : ∀ nq, ((w2.alloc (.cells #[.int .i64 q.1, .int .i64 j] 231)).drewN nq).ownsRow w.heap.size 231 2 u3 ps.length (flat2 ps) := fun nq => (((Upd.refl [] w2).alloc _).drewN nq).ownsRow HN.out.row (fun _ _ => by simp)
        have hnews : ∀ nq, ∀ i u, [Value.int .i64 q.1, .int .i64 j][i]? = some u → ((w2.alloc (.cells #[.int .i64 q.1, .int .i64 j] 231)).drewN nq).cell? ((⟨w2.heap.size, 0, none⟩ : Addr).add i) = some u := fun nq => World.news_of_block (heap_alloc_new w2 _)
        have hone : ∀ u ∈ [Value.int .i64 q.1, .int .i64 j], u.oneCell' = true := by intro u hu'; simp at hu'; rcases hu' with rfl | rfl <;> rfl
        go_wp2
        go_quiet (fail)
        go_wp2_with (at_builtin; refine wpList_append_lies _ rfl _ _ 232 rfl w.heap.size 231 i0 (.agg #[.int .i64 0, .int .i64 0]) 2 16 Tryz.underlying232 hi hz0 hz1 hz2 rfl (by decide) u3 ps.length (flat2 ps) rfl (hrow2 _) ⟨w2.heap.size, 0, none⟩ 1 1 [.int .i64 q.1, .int .i64 j] rfl rfl (hnews _) hone (by decide) (by unfold maxLen; omega) (by omega) (by simp; omega) _ rfl ?_; intro g cap w3 hown' hgrow hat hlt3)
        refine ⟨⟨j + 1, by omega, by go_num, ?_⟩, by simp [intOf]; omega⟩
        show Pairing _ _ _ _ _ _ _ _
        rw [Hs1.out]
        exact HN.out.grow hgrow hat hown'
    · obtain rfl : j = l := by omega
      have hge : ¬ (j : Int) < (j : Int) := by omega
      have HM : Hid (twinsM S = twinsTo S j) := by show _ = _; unfold twinsM; rw [← Hl.out]
      obtain ⟨bk, hwj, hbj⟩ := hR.ex
      have hrow := hR.row
      have hupd := hR.upd
      have Hbj := hide hbj
      have Hw := hide hwj
      have Hrow := hide hrow
      clear hbj hwj hR hrow
      go_wp2
      go_ret
      exact ⟨_, rfl, bk, by rw [HM.out]; exact Hw.out, by rw [HM.out]; exact Hrow.out, hupd, Hbj.out⟩
end Go.Proofs.YtmfkpllnmmfpiaaGreatDoor
