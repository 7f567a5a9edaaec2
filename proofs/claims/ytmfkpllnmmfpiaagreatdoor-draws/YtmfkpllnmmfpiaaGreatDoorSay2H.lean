/-
  'sayEqual', 'sayUnequal', 'Say', walked.
-/
import Derived.Test.YtmfkpllnmmfpiaaGreatDoorJoinH
import Derived.Test.YtmfkpllnmmfpiaaGreatDoorReadSizeH
import Derived.Test.YtmfkpllnmmfpiaaGreatDoorReadH
import Derived.Test.YtmfkpllnmmfpiaaGreatDoorSmallH
import Derived.Laws.EntriesVeiled
import Derived.Deep.DeepMust
namespace Go.Proofs.YtmfkpllnmmfpiaaGreatDoor
open Go.RowKit

/-- What holds of a Web that sentences may be said in: its rows in order, its trail not too long. -/
structure Fine (S : WS) : Prop where
  web : Web S
  pot : Pot S
theorem Fine.trail {S : WS} (h : Fine S) (hn : S.shapes.length ≤ 400) (hs : S.said.length ≤ 1000) : S.trail.length + 1000 * reps S S.classes.length ≤ 500000 ∧ S.files + 1000 * reps S S.classes.length ≤ 500000 := by
  have h1 := h.pot.trail
  have h2 := h.pot.files
  omega

set_option maxHeartbeats 1000000 in
theorem sayUnequal_any (w : World) (wb : Nat) (H : Hd) (Z : Nat → Prop) (S : WS) (i j : Nat) (h : WebAt w wb H Z S) (hb : S.trail.length ≤ 10000000) (hsd : S.said.length ≤ 1000000) :
    Calls Tryz.prog 95 #[.pointer (some ⟨wb, 0, none⟩), .int .i64 i, .int .i64 j] w fun e w' => ∃ H', e = .returned (.tuple #[]) ∧ WebAt w' wb H' (fun k => Z k ∨ w.heap.size ≤ k) (noteM S (1, i, j)) ∧ Upd (H.blocks wb) w w' ∧ ∀ k ∈ H'.blocks wb, k ∈ H.blocks wb ∨ w.heap.size ≤ k := by
  have HC := hide (note_any w wb H Z S (1, i, j) h hb hsd)
  clear h
  go_enter Tryz.func95, Tryz.ntmps95
  go_wp2_with (go_at_call 127; refine HC.out.mono ?_; rintro e w2 ⟨H2, rfl, hw2, hu2, hH2⟩; have Hw2 := hide hw2; have Hu2 := hide hu2; have HH2 := hide hH2; clear hw2 hu2 hH2)
  go_end0
  exact ⟨H2, rfl, Hw2.out, Hu2.out, HH2.out⟩

set_option maxHeartbeats 1000000 in
theorem sayEqual_any (w : World) (wb : Nat) (H : Hd) (Z : Nat → Prop) (S : WS) (i j : Nat) (h : WebAt w wb H Z S) (hF : Fine S) (hi : i < S.classes.length) (hj : j < S.classes.length) (hn : S.shapes.length ≤ 400) (hsd : S.said.length ≤ 900) :
    Calls Tryz.prog 94 #[.pointer (some ⟨wb, 0, none⟩), .int .i64 i, .int .i64 j] w fun e w' => ∃ H', e = .returned (.tuple #[]) ∧ WebAt w' wb H' (fun k => Z k ∨ w.heap.size ≤ k) (joinM (noteM S (0, i, j)) i j) ∧ Upd (H.blocks wb) w w' ∧ ∀ k ∈ H'.blocks wb, k ∈ H.blocks wb ∨ w.heap.size ≤ k := by
  have hlen := hF.web.base.inv.len
  have ht := hF.trail hn (by omega)
  have HC := hide (note_any w wb H Z S (0, i, j) h (by omega) (by omega))
  have hp := noteM_pot hF.pot (0, i, j)
  have hJ := hF.web.joining hi hj
  have hltb := h.mem_lt
  have HP := hide (⟨hp.trail, hp.files⟩ : _ ∧ _)
  have HL := hide (fun (w2 : World) (H2 : Hd) (hw2 : WebAt w2 wb H2 (fun k => (Z k ∨ w.heap.size ≤ k) ∧ k < w2.heap.size) (noteM S (0, i, j))) => join_any w2 wb H2 _ (noteM S (0, i, j)) i j hw2 (fun k hk => hk.2) hJ (by show S.classes.length ≤ _; omega) (by have := hp.trail; simp only [noteM, List.length_append, List.length_singleton] at this ⊢; omega) (by have := hp.files; simp only [noteM] at this ⊢; omega))
  clear h hp hJ
  go_enter Tryz.func94, Tryz.ntmps94
  go_wp2_with (first
    | (go_at_call 127; refine HC.out.mono ?_; rintro e w2 ⟨H2, rfl, hw2, hu2, hH2⟩; have Hw2 := hide hw2; have Hu2 := hide hu2; have HH2 := hide hH2; clear hw2 hu2 hH2)
    | (go_at_call 128; refine (HL.out w2 H2 (Hw2.out.mono (fun k hk hl => ⟨hk, hl⟩))).mono ?_; rintro e w3 ⟨H3, rfl, hw3, hu3, hH3⟩; have Hw3 := hide hw3; have Hu3 := hide hu3; have HH3 := hide hH3; clear hw3 hu3 hH3))
  go_end0
  have s2 := Hu2.out.size
  refine ⟨H3, rfl, Hw3.out.mono (fun k hk _ => ?_), Hu2.out.trans' Hu3.out (fun k hk hl => ?_), fun k hk => ?_⟩
  · rcases hk with hk | hk
    · exact hk.1
    · exact .inr (by omega)
  · rcases HH2.out k hk with h1 | h1
    · exact h1
    · omega
  · rcases HH3.out k hk with h1 | h1
    · exact HH2.out k h1
    · exact .inr (by omega)
end Go.Proofs.YtmfkpllnmmfpiaaGreatDoor

/-
  'Say' of a Web, walked.
-/
namespace Go.Proofs.YtmfkpllnmmfpiaaGreatDoor
open Go.RowKit

theorem say_fin {w W2 w3 w4 w5 : World} {wb : Nat} {H H3 H4 H5 : Hd} {Z : Nat → Prop} {T : WS} (hs2 : w.heap.size + 2 ≤ W2.heap.size) (U2 : Upd [] w W2) (hu3 : Upd (H.blocks wb) W2.drew w3) (hH3 : ∀ k ∈ H3.blocks wb, k ∈ H.blocks wb ∨ W2.drew.heap.size ≤ k) (hu4 : Upd (H3.blocks wb) w3 w4) (hH4 : ∀ k ∈ H4.blocks wb, k ∈ H3.blocks wb ∨ w3.heap.size ≤ k)
    (hw5 : WebAt w5 wb H5 (fun k => ((Z k ∨ W2.drew.heap.size ≤ k) ∧ k < w4.heap.size) ∨ w4.heap.size ≤ k) T) (hu5 : Upd (H4.blocks wb) w4 w5) (hH5 : ∀ k ∈ H5.blocks wb, k ∈ H4.blocks wb ∨ w4.heap.size ≤ k) :
    WebAt w5 wb H5 (fun k => Z k ∨ w.heap.size ≤ k) T ∧ Upd (H.blocks wb) w w5 ∧ ∀ k ∈ H5.blocks wb, k ∈ H.blocks wb ∨ w.heap.size ≤ k := by
  have e : W2.drew.heap.size = W2.heap.size := rfl
  have s3 := hu3.size
  have s4 := hu4.size
  have h3 : ∀ k ∈ H3.blocks wb, k ∈ H.blocks wb ∨ w.heap.size ≤ k := fun k hk => (hH3 k hk).imp id (fun h => by omega)
  have h4 : ∀ k ∈ H4.blocks wb, k ∈ H.blocks wb ∨ w.heap.size ≤ k := fun k hk => by
    rcases hH4 k hk with h | h
    · exact h3 k h
    · exact .inr (by omega)
  refine ⟨hw5.mono (fun k hk _ => ?_), (((U2.drew.mono (fun x hx _ => by cases hx)).trans hu3).trans' hu4 (fun k hk hl => ?_)).trans' hu5 (fun k hk hl => ?_), fun k hk => ?_⟩
  · rcases hk with hk | hk
    · exact hk.1.imp id (fun h => by omega)
    · exact .inr (by omega)
  · rcases h3 k hk with h | h
    · exact h
    · omega
  · rcases h4 k hk with h | h
    · exact h
    · omega
  · rcases hH5 k hk with h | h
    · exact h4 k h
    · exact .inr (by omega)

set_option maxHeartbeats 4000000 in
set_option maxRecDepth 100000 in
theorem webSay_any (w : World) (wb n : Nat) (H : Hd) (Z F : Nat → Prop) (S : WS) (l r : V3) (k : Int) (x : Snt n) (h : WebAt w wb H Z S) (hs : IsSnt w F n l k r x) (hFZ : ∀ k, F k → ¬ Z k) (hZ : ∀ k, Z k → k < w.heap.size) (hF : Fine S) (hx : NarrowS x) (hn : S.shapes.length + sizeS x ≤ 400) (hsd : S.said.length ≤ 900) :
    Calls Tryz.prog 57 #[.pointer (some ⟨wb, 0, none⟩), .agg #[l.1, l.2.1, l.2.2, .int .i64 k, r.1, r.2.1, r.2.2]] w fun e w' => ∃ H', e = .returned (.tuple #[]) ∧ WebAt w' wb H' (fun k => Z k ∨ w.heap.size ≤ k) (sayM S x) ∧ Upd (H.blocks wb) w w' ∧ ∀ k ∈ H'.blocks wb, k ∈ H.blocks wb ∨ w.heap.size ≤ k := by
  obtain ⟨hl, hk, hr⟩ := hs
  obtain ⟨a, p, g, ll, cap, rfl⟩ := hl.form
  obtain ⟨a', p', g', ll', cap', rfl⟩ := hr.form
  simp only
  obtain ⟨W2, hW2⟩ : ∃ W2, W2 = (w.alloc (.cells #[.string a, .int .i64 p, .slice g ll cap, .int .i64 k, .string a', .int .i64 p', .slice g' ll' cap'] 101)).alloc (.cells #[.func (.func 94) #[] #[], .func (.func 95) #[] #[]] 159) := ⟨_, rfl⟩
  have Hk := hide hk
  clear hk
  have U2 : Upd [] w W2 := hW2 ▸ ((Upd.refl [] w).alloc _).alloc _
  have hs2 : w.heap.size + 2 ≤ W2.heap.size := by rw [hW2]; simp
  have b0 : W2.cell? ⟨w.heap.size, 0, none⟩ = some (.string a) := by rw [hW2]; go_simp
  have b1 : W2.cell? ⟨w.heap.size, 1, none⟩ = some (.int .i64 p) := by rw [hW2]; go_simp
  have b2 : W2.cell? ⟨w.heap.size, 2, none⟩ = some (.slice g ll cap) := by rw [hW2]; go_simp
  have b3 : W2.cell? ⟨w.heap.size, 3, none⟩ = some (.int .i64 k) := by rw [hW2]; go_simp
  have b4 : W2.cell? ⟨w.heap.size, 4, none⟩ = some (.string a') := by rw [hW2]; go_simp
  have b5 : W2.cell? ⟨w.heap.size, 5, none⟩ = some (.int .i64 p') := by rw [hW2]; go_simp
  have b6 : W2.cell? ⟨w.heap.size, 6, none⟩ = some (.slice g' ll' cap') := by rw [hW2]; go_simp
  have t0 : W2.cell? ⟨w.heap.size + 1, 0, none⟩ = some (.func (.func 94) #[] #[]) := by rw [hW2]; go_simp
  have t1 : W2.cell? ⟨w.heap.size + 1, 1, none⟩ = some (.func (.func 95) #[] #[]) := by rw [hW2]; go_simp
  have hltb := h.mem_lt
  have hBH : ∀ k, w.heap.size ≤ k → k ∉ H.blocks wb := fun k hk hm => by have := hltb k hm; omega
  obtain ⟨⟨p1, p2⟩, p3⟩ := addM_end n S x.left hF.web hx.1
  have p4 := addM_adds n S x.left hF.web.base.inv hx.1
  obtain ⟨⟨q1, q2⟩, q3⟩ := addM_end n (addM n S x.left).2 x.right p1 hx.2
  have q4 := addM_adds n (addM n S x.left).2 x.right p1.base.inv hx.2
  unfold sizeS at hn
  have ht := hF.trail (by omega) (by omega)
  have C1 := hide (add_ok n W2.drew wb H Z (fun k => F k ∧ k < w.heap.size) S (.string a, .int .i64 p, .slice g ll cap) x.left (h.later U2.drew (fun _ _ => by simp)) ((hl.mono (F' := fun k => F k ∧ k < w.heap.size) fun k hk hlt => ⟨hk, hlt⟩).later U2.drew (fun _ _ => by simp)) (fun k hk => hFZ k hk.1) hF.web.base.inv hx.1 ⟨by omega, by omega, by omega⟩ (fun k hk => by have := hZ k hk; show k < W2.heap.size; omega))
  have C2 := hide (fun (w3 : World) (H3 : Hd) (hw3 : WebAt w3 wb H3 (fun k => Z k ∨ W2.drew.heap.size ≤ k) (addM n S x.left).2) (hu3 : Upd (H.blocks wb) W2.drew w3) =>
    add_ok n w3 wb H3 (fun k => (Z k ∨ W2.drew.heap.size ≤ k) ∧ k < w3.heap.size) (fun k => F k ∧ k < w.heap.size) (addM n S x.left).2 (.string a', .int .i64 p', .slice g' ll' cap') x.right (hw3.mono (fun k hk hl => ⟨hk, hl⟩))
      (((hr.mono (F' := fun k => F k ∧ k < w.heap.size) fun k hk hlt => ⟨hk, hlt⟩).later U2.drew (fun _ _ => by simp)).later hu3 (fun k hk hm => hFZ k hk.1 (h.inZ k hm)))
      (fun k hk hz => by
        rcases hz.1 with hz | hz
        · exact hFZ k hk.1 hz
        · have h1 := hk.2
          have h2 : W2.heap.size ≤ k := hz
          omega) p1.base.inv hx.2 (by have := p4.hi; have := p4.trail; have := p4.files; exact ⟨by omega, by omega, by omega⟩) (fun k hk => hk.2))
  have HK := hide (fun (w3 : World) (L : List Nat) (w2 : World) (hu3 : Upd L w2 w3) (h2 : w.heap.size + 2 ≤ w2.heap.size) (hn1 : w.heap.size ∉ L) (hn2 : w.heap.size + 1 ∉ L) => (⟨fun o => hu3.cell (p := ⟨w.heap.size, o, none⟩) (by show w.heap.size < _; omega) hn1, fun o => hu3.cell (p := ⟨w.heap.size + 1, o, none⟩) (by show w.heap.size + 1 < _; omega) hn2⟩ : (∀ o, w3.cell? ⟨w.heap.size, o, none⟩ = w2.cell? ⟨w.heap.size, o, none⟩) ∧ (∀ o, w3.cell? ⟨w.heap.size + 1, o, none⟩ = w2.cell? ⟨w.heap.size + 1, o, none⟩)))
  have HN1 := hide (⟨hBH w.heap.size (Nat.le_refl _), hBH (w.heap.size + 1) (by omega)⟩ : _ ∧ _)
  have HFin := hide (fun (w4 : World) (H4 : Hd) (hw4 : WebAt w4 wb H4 (fun k => ((Z k ∨ W2.drew.heap.size ≤ k)) ∧ k < w4.heap.size) (addM n (addM n S x.left).2 x.right).2) => (⟨fun _ => sayEqual_any w4 wb H4 _ _ (addM n S x.left).1 (addM n (addM n S x.left).2 x.right).1 hw4 ⟨q1, q2.pot (p2.pot hF.pot)⟩ (by rw [← q1.base.inv.len]; have := p4.lt; have := q4.lo; omega) (by rw [← q1.base.inv.len]; exact q4.lt) (by have := p4.hi; have := q4.hi; omega) (by rw [q2.said, p2.said]; exact hsd),
    fun _ => sayUnequal_any w4 wb H4 _ _ (addM n S x.left).1 (addM n (addM n S x.left).2 x.right).1 hw4 (by have := p4.trail; have := q4.trail; omega) (by rw [q2.said, p2.said]; omega)⟩ : (x.eq = true → _) ∧ (x.eq = false → _)))
  have HM : Hid ((x.eq = true → sayM S x = joinM (noteM (addM n (addM n S x.left).2 x.right).2 (0, (addM n S x.left).1, (addM n (addM n S x.left).2 x.right).1)) (addM n S x.left).1 (addM n (addM n S x.left).2 x.right).1) ∧ (x.eq = false → sayM S x = noteM (addM n (addM n S x.left).2 x.right).2 (1, (addM n S x.left).1, (addM n (addM n S x.left).2 x.right).1))) := ⟨fun e => by unfold sayM; simp [e], fun e => by unfold sayM; simp [e]⟩
  have HU2 := hide U2
  clear p1 p2 p3 p4 q1 q2 q3 q4 h hl hr hFZ hF hx hBH U2 ht
  generalize addM n S x.left = P at *
  generalize addM n P.2 x.right = Q at *
  generalize hgs : sayM S x = T at *
  clear hgs
  cases hxe : x.eq with
  | true =>
    rw [hxe] at Hk
    have hk0 : k = 0 := Hk.out
    subst hk0
    have HF2 := hide (fun (w4 : World) (H4 : Hd) hw4 => (HFin.out w4 H4 hw4).1 hxe)
    have HM2 := hide (HM.out.1 hxe)
    clear hxe Hk HFin HM
    go_enter Tryz.func57, Tryz.ntmps57
    go_wp2_with fail
    rw [← hW2]
    clear hW2
    go_region_held3 (fun w' => w'.cell? ⟨w.heap.size, 0, none⟩ = some (.string a) ∧ w'.cell? ⟨w.heap.size, 1, none⟩ = some (.int .i64 p) ∧ w'.cell? ⟨w.heap.size, 2, none⟩ = some (.slice g ll cap) ∧ w'.cell? ⟨w.heap.size, 4, none⟩ = some (.string a') ∧ w'.cell? ⟨w.heap.size, 5, none⟩ = some (.int .i64 p') ∧ w'.cell? ⟨w.heap.size, 6, none⟩ = some (.slice g' ll' cap')) ((first | go_keep | (refine ⟨?_, ?_, ?_, ?_, ?_, ?_⟩ <;> go_simp)))
      (first
        | (go_at_call_of 96 (Value.string a); refine C1.out.mono ?_; rintro e w3 ⟨H3, rfl, hw3, hu3, hH3⟩; obtain ⟨z1, z2⟩ := HK.out w3 _ W2.drew hu3 hs2 HN1.out.1 HN1.out.2; have y0 := (z1 0).trans b0; have y1 := (z1 1).trans b1; have y2 := (z1 2).trans b2; have y3 := (z1 3).trans b3; have y4 := (z1 4).trans b4; have y5 := (z1 5).trans b5; have y6 := (z1 6).trans b6; have y7 := (z2 0).trans t0; have Hw3 := hide hw3; have Hu3 := hide hu3; have HH3 := hide hH3; clear hw3 hu3 hH3 z1 z2)
        | (go_at_call_of 96 (Value.string a'); refine (C2.out w3 H3 Hw3.out Hu3.out).mono ?_; rintro e w4 ⟨H4, rfl, hw4, hu4, hH4⟩; obtain ⟨z1, z2⟩ := HK.out w4 _ w3 hu4 (Nat.le_trans hs2 Hu3.out.size) (fun hm => (HH3.out _ hm).elim HN1.out.1 (fun (e : W2.heap.size ≤ _) => by omega)) (fun hm => (HH3.out _ hm).elim HN1.out.2 (fun (e : W2.heap.size ≤ _) => by omega)); have x0 := (z1 0).trans y0; have x1 := (z1 1).trans y1; have x2 := (z1 2).trans y2; have x3 := (z1 3).trans y3; have x4 := (z1 4).trans y4; have x5 := (z1 5).trans y5; have x6 := (z1 6).trans y6; have x7 := (z2 0).trans y7; have Hw4 := hide hw4; have Hu4 := hide hu4; have HH4 := hide hH4; clear hw4 hu4 hH4 z1 z2))
    go_wp2_with (go_at_call 94; refine (HF2.out w4 H4 (Hw4.out.mono (fun k hk hl => ⟨hk.elim (fun h => h.1) (fun h => .inr (Nat.le_trans Hu3.out.size h)), hl⟩))).mono ?_; rintro e w5 ⟨H5, rfl, hw5, hu5, hH5⟩; have Hw5 := hide hw5; have Hu5 := hide hu5; have HH5 := hide hH5; clear hw5 hu5 hH5)
    go_end0
    have := say_fin hs2 HU2.out Hu3.out HH3.out Hu4.out HH4.out Hw5.out Hu5.out HH5.out
    exact ⟨H5, rfl, by rw [HM2.out]; exact this.1, this.2⟩
  | false =>
    rw [hxe] at Hk
    have hk0 : k = 1 := Hk.out
    subst hk0
    have HF2 := hide (fun (w4 : World) (H4 : Hd) hw4 => (HFin.out w4 H4 hw4).2 hxe)
    have HM2 := hide (HM.out.2 hxe)
    clear hxe Hk HFin HM
    go_enter Tryz.func57, Tryz.ntmps57
    go_wp2_with fail
    rw [← hW2]
    clear hW2
    go_region_held3 (fun w' => w'.cell? ⟨w.heap.size, 0, none⟩ = some (.string a) ∧ w'.cell? ⟨w.heap.size, 1, none⟩ = some (.int .i64 p) ∧ w'.cell? ⟨w.heap.size, 2, none⟩ = some (.slice g ll cap) ∧ w'.cell? ⟨w.heap.size, 4, none⟩ = some (.string a') ∧ w'.cell? ⟨w.heap.size, 5, none⟩ = some (.int .i64 p') ∧ w'.cell? ⟨w.heap.size, 6, none⟩ = some (.slice g' ll' cap')) ((first | go_keep | (refine ⟨?_, ?_, ?_, ?_, ?_, ?_⟩ <;> go_simp)))
      (first
        | (go_at_call_of 96 (Value.string a); refine C1.out.mono ?_; rintro e w3 ⟨H3, rfl, hw3, hu3, hH3⟩; obtain ⟨z1, z2⟩ := HK.out w3 _ W2.drew hu3 hs2 HN1.out.1 HN1.out.2; have y0 := (z1 0).trans b0; have y1 := (z1 1).trans b1; have y2 := (z1 2).trans b2; have y3 := (z1 3).trans b3; have y4 := (z1 4).trans b4; have y5 := (z1 5).trans b5; have y6 := (z1 6).trans b6; have y7 := (z2 1).trans t1; have Hw3 := hide hw3; have Hu3 := hide hu3; have HH3 := hide hH3; clear hw3 hu3 hH3 z1 z2)
        | (go_at_call_of 96 (Value.string a'); refine (C2.out w3 H3 Hw3.out Hu3.out).mono ?_; rintro e w4 ⟨H4, rfl, hw4, hu4, hH4⟩; obtain ⟨z1, z2⟩ := HK.out w4 _ w3 hu4 (Nat.le_trans hs2 Hu3.out.size) (fun hm => (HH3.out _ hm).elim HN1.out.1 (fun (e : W2.heap.size ≤ _) => by omega)) (fun hm => (HH3.out _ hm).elim HN1.out.2 (fun (e : W2.heap.size ≤ _) => by omega)); have x0 := (z1 0).trans y0; have x1 := (z1 1).trans y1; have x2 := (z1 2).trans y2; have x3 := (z1 3).trans y3; have x4 := (z1 4).trans y4; have x5 := (z1 5).trans y5; have x6 := (z1 6).trans y6; have x7 := (z2 1).trans y7; have Hw4 := hide hw4; have Hu4 := hide hu4; have HH4 := hide hH4; clear hw4 hu4 hH4 z1 z2))
    go_wp2_with (go_at_call 95; refine (HF2.out w4 H4 (Hw4.out.mono (fun k hk hl => ⟨hk.elim (fun h => h.1) (fun h => .inr (Nat.le_trans Hu3.out.size h)), hl⟩))).mono ?_; rintro e w5 ⟨H5, rfl, hw5, hu5, hH5⟩; have Hw5 := hide hw5; have Hu5 := hide hu5; have HH5 := hide hH5; clear hw5 hu5 hH5)
    go_end0
    have := say_fin hs2 HU2.out Hu3.out HH3.out Hu4.out HH4.out Hw5.out Hu5.out HH5.out
    exact ⟨H5, rfl, by rw [HM2.out]; exact this.1, this.2⟩
end Go.Proofs.YtmfkpllnmmfpiaaGreatDoor
