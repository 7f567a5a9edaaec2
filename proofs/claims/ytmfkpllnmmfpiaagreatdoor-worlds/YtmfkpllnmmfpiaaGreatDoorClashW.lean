/- Say2, Clash -/
import Derived.Test.YtmfkpllnmmfpiaaGreatDoorSayW
import Derived.Laws.EntriesVeiled
import Derived.Deep.DeepMust
namespace Go.Proofs.YtmfkpllnmmfpiaaGreatDoor
open Go.RowKit
theorem say_fin {w W2 w3 w4 w5 : World} {wb : Nat} {H H3 H4 H5 : Hd} {Z : Nat → Prop} {T : WS} (hs2 : w.heap.size + 2 ≤ W2.heap.size) (U2 : Upd [] w W2) (hu3 : Upd (H.blocks wb) W2.drew w3) (hH3 : ∀ k ∈ H3.blocks wb, k ∈ H.blocks wb ∨ W2.drew.heap.size ≤ k) (hu4 : Upd (H3.blocks wb) w3 w4) (hH4 : ∀ k ∈ H4.blocks wb, k ∈ H3.blocks wb ∨ w3.heap.size ≤ k)
  (hw5 : WebAt w5 wb H5 (fun k => ((Z k ∨ W2.drew.heap.size ≤ k) ∧ k < w4.heap.size) ∨ w4.heap.size ≤ k) T) (hu5 : Upd (H4.blocks wb) w4 w5) (hH5 : ∀ k ∈ H5.blocks wb, k ∈ H4.blocks wb ∨ w4.heap.size ≤ k) :
  WebAt w5 wb H5 (fun k => Z k ∨ w.heap.size ≤ k) T ∧ Upd (H.blocks wb) w w5 ∧ ∀ k ∈ H5.blocks wb, k ∈ H.blocks wb ∨ w.heap.size ≤ k := by
 have e : W2.drew.heap.size = W2.heap.size := rfl
 have s3 := hu3.size
 have s4 := hu4.size
 have h3 : ∀ k ∈ H3.blocks wb, k ∈ H.blocks wb ∨ w.heap.size ≤ k := fun k hk => (hH3 k hk).imp id (fun h => by omega)
 have h4 : ∀ k ∈ H4.blocks wb, k ∈ H.blocks wb ∨ w.heap.size ≤ k := fun k hk => by
  rcases hH4 k hk with h | h
  ·exact h3 k h
  ·exact .inr (by omega)
 refine ⟨hw5.mono (fun k hk _ => ?_), (((U2.drew.mono (fun x hx _ => by cases hx)).trans hu3).trans' hu4 (fun k hk hl => ?_)).trans' hu5 (fun k hk hl => ?_), fun k hk => ?_⟩
 ·rcases hk with hk | hk
  ·exact hk.1.imp id (fun h => by omega)
  ·exact .inr (by omega)
 ·rcases h3 k hk with h | h
  ·exact h
  ·omega
 ·rcases h4 k hk with h | h
  ·exact h
  ·omega
 ·rcases hH5 k hk with h | h
  ·exact h4 k h
  ·exact .inr (by omega)
set_option maxHeartbeats 4000000 in
set_option maxRecDepth 100000 in
theorem webSay_any (w : World) (wb n : Nat) (H : Hd) (Z F : Nat → Prop) (S : WS) (l r : V3) (k : Int) (x : Snt n) (h : WebAt w wb H Z S) (hs : IsSnt w F n l k r x) (hFZ : ∀ k, F k → ¬ Z k) (hZ : ∀ k, Z k → k < w.heap.size) (hF : Fine S) (hx : NarrowS x) (hn : S.shapes.length + sizeS x ≤ 400) (hsd : S.said.length ≤ 900) :
  Calls Tryz.prog 57 #[.pointer (some ⟨wb, 0, none⟩), .agg #[l.1, l.2.1, l.2.2, .int .i64 k, r.1, r.2.1, r.2.2]] w fun e w' => ∃ H', e = .returned (.tuple #[]) ∧ WebAt w' wb H' (fun k => Z k ∨ w.heap.size ≤ k) (sayM S x) ∧ Upd (H.blocks wb) w w' ∧ ∀ k ∈ H'.blocks wb, k ∈ H.blocks wb ∨ w.heap.size ≤ k := by
 obtain ⟨hl, hk, hr⟩ := hs
 obtain ⟨a, p, g, ll, cap, rfl⟩ := hl.form
 obtain ⟨a', p', g', ll', cap', rfl⟩ := hr.form
 simp only
 obtain ⟨W2, hW2⟩ : ∃ W2, W2 = (w.alloc (.cells #[.string a, .int .i64 p, .slice g ll cap, .int .i64 k, .string a', .int .i64 p', .slice g' ll' cap'] 101)).alloc (.cells #[.func (.func 94) #[] #[], .func (.func 95) #[] #[]] 159) := ⟨_, rfl⟩
 have Hk := hide hk
 clear hk
 have U2 : Upd [] w W2 := hW2 ▸ ((Upd.refl [] w).alloc _).alloc _
 have hs2 : w.heap.size + 2 ≤ W2.heap.size := by rw [hW2]; simp
 have b0 : W2.cell? ⟨w.heap.size, 0, none⟩ = some (.string a) := by rw [hW2]; go_simp
 have b1 : W2.cell? ⟨w.heap.size, 1, none⟩ = some (.int .i64 p) := by rw [hW2]; go_simp
 have b2 : W2.cell? ⟨w.heap.size, 2, none⟩ = some (.slice g ll cap) := by rw [hW2]; go_simp
 have b3 : W2.cell? ⟨w.heap.size, 3, none⟩ = some (.int .i64 k) := by rw [hW2]; go_simp
 have b4 : W2.cell? ⟨w.heap.size, 4, none⟩ = some (.string a') := by rw [hW2]; go_simp
 have b5 : W2.cell? ⟨w.heap.size, 5, none⟩ = some (.int .i64 p') := by rw [hW2]; go_simp
 have b6 : W2.cell? ⟨w.heap.size, 6, none⟩ = some (.slice g' ll' cap') := by rw [hW2]; go_simp
 have t0 : W2.cell? ⟨w.heap.size + 1, 0, none⟩ = some (.func (.func 94) #[] #[]) := by rw [hW2]; go_simp
 have t1 : W2.cell? ⟨w.heap.size + 1, 1, none⟩ = some (.func (.func 95) #[] #[]) := by rw [hW2]; go_simp
 have hltb := h.mem_lt
 have hBH : ∀ k, w.heap.size ≤ k → k ∉ H.blocks wb := fun k hk hm => by have := hltb k hm; omega
 obtain ⟨⟨p1, p2⟩, p3⟩ := addM_end n S x.left hF.web hx.1
 have p4 := addM_adds n S x.left hF.web.base.inv hx.1
 obtain ⟨⟨q1, q2⟩, q3⟩ := addM_end n (addM n S x.left).2 x.right p1 hx.2
 have q4 := addM_adds n (addM n S x.left).2 x.right p1.base.inv hx.2
 unfold sizeS at hn
 have ht := hF.trail (by omega) (by omega)
 have C1 := hide (add_ok n W2.drew wb H Z (fun k => F k ∧ k < w.heap.size) S (.string a, .int .i64 p, .slice g ll cap) x.left (h.later U2.drew (fun _ _ => by simp)) ((hl.mono (F' := fun k => F k ∧ k < w.heap.size) fun k hk hlt => ⟨hk, hlt⟩).later U2.drew (fun _ _ => by simp)) (fun k hk => hFZ k hk.1) hF.web.base.inv hx.1 ⟨by omega, by omega, by omega⟩ (fun k hk => by have := hZ k hk; show k < W2.heap.size; omega))
 have C2 := hide (fun (w3 : World) (H3 : Hd) (hw3 : WebAt w3 wb H3 (fun k => Z k ∨ W2.drew.heap.size ≤ k) (addM n S x.left).2) (hu3 : Upd (H.blocks wb) W2.drew w3) =>
  add_ok n w3 wb H3 (fun k => (Z k ∨ W2.drew.heap.size ≤ k) ∧ k < w3.heap.size) (fun k => F k ∧ k < w.heap.size) (addM n S x.left).2 (.string a', .int .i64 p', .slice g' ll' cap') x.right (hw3.mono (fun k hk hl => ⟨hk, hl⟩))
   (((hr.mono (F' := fun k => F k ∧ k < w.heap.size) fun k hk hlt => ⟨hk, hlt⟩).later U2.drew (fun _ _ => by simp)).later hu3 (fun k hk hm => hFZ k hk.1 (h.inZ k hm)))
   (fun k hk hz => by
    rcases hz.1 with hz | hz
    ·exact hFZ k hk.1 hz
    ·have h1 := hk.2
     have h2 : W2.heap.size ≤ k := hz
     omega) p1.base.inv hx.2 (by have := p4.hi; have := p4.trail; have := p4.files; exact ⟨by omega, by omega, by omega⟩) (fun k hk => hk.2))
 have HK := hide (fun (w3 : World) (L : List Nat) (w2 : World) (hu3 : Upd L w2 w3) (h2 : w.heap.size + 2 ≤ w2.heap.size) (hn1 : w.heap.size ∉ L) (hn2 : w.heap.size + 1 ∉ L) => (⟨fun o => hu3.cell (p := ⟨w.heap.size, o, none⟩) (by show w.heap.size < _; omega) hn1, fun o => hu3.cell (p := ⟨w.heap.size + 1, o, none⟩) (by show w.heap.size + 1 < _; omega) hn2⟩ : (∀ o, w3.cell? ⟨w.heap.size, o, none⟩ = w2.cell? ⟨w.heap.size, o, none⟩) ∧ (∀ o, w3.cell? ⟨w.heap.size + 1, o, none⟩ = w2.cell? ⟨w.heap.size + 1, o, none⟩)))
 have HN1 := hide (⟨hBH w.heap.size (Nat.le_refl _), hBH (w.heap.size + 1) (by omega)⟩ : _ ∧ _)
 have HFin := hide (fun (w4 : World) (H4 : Hd) (hw4 : WebAt w4 wb H4 (fun k => ((Z k ∨ W2.drew.heap.size ≤ k)) ∧ k < w4.heap.size) (addM n (addM n S x.left).2 x.right).2) => (⟨fun _ => sayEqual_any w4 wb H4 _ _ (addM n S x.left).1 (addM n (addM n S x.left).2 x.right).1 hw4 ⟨q1, q2.pot (p2.pot hF.pot)⟩ (by rw [← q1.base.inv.len]; have := p4.lt; have := q4.lo; omega) (by rw [← q1.base.inv.len]; exact q4.lt) (by have := p4.hi; have := q4.hi; omega) (by rw [q2.said, p2.said]; exact hsd),
  fun _ => sayUnequal_any w4 wb H4 _ _ (addM n S x.left).1 (addM n (addM n S x.left).2 x.right).1 hw4 (by have := p4.trail; have := q4.trail; omega) (by rw [q2.said, p2.said]; omega)⟩ : (x.eq = true → _) ∧ (x.eq = false → _)))
 have HM : Hid ((x.eq = true → sayM S x = joinM (noteM (addM n (addM n S x.left).2 x.right).2 (0, (addM n S x.left).1, (addM n (addM n S x.left).2 x.right).1)) (addM n S x.left).1 (addM n (addM n S x.left).2 x.right).1) ∧ (x.eq = false → sayM S x = noteM (addM n (addM n S x.left).2 x.right).2 (1, (addM n S x.left).1, (addM n (addM n S x.left).2 x.right).1))) := ⟨fun e => by unfold sayM; simp [e], fun e => by unfold sayM; simp [e]⟩
 have HU2 := hide U2
 clear p1 p2 p3 p4 q1 q2 q3 q4 h hl hr hFZ hF hx hBH U2 ht
 generalize addM n S x.left = P at *
 generalize addM n P.2 x.right = Q at *
 generalize hgs : sayM S x = T at *
 clear hgs
 cases hxe : x.eq with
 | true =>
  rw [hxe] at Hk
  have hk0 : k = 0 := Hk.out
  subst hk0
  have HF2 := hide (fun (w4 : World) (H4 : Hd) hw4 => (HFin.out w4 H4 hw4).1 hxe)
  have HM2 := hide (HM.out.1 hxe)
  clear hxe Hk HFin HM
  go_enter Tryz.func57, Tryz.ntmps57
  go_wp2_with fail
  rw [← hW2]
  clear hW2
  go_region_held3 (fun w' => w'.cell? ⟨w.heap.size, 0, none⟩ = some (.string a) ∧ w'.cell? ⟨w.heap.size, 1, none⟩ = some (.int .i64 p) ∧ w'.cell? ⟨w.heap.size, 2, none⟩ = some (.slice g ll cap) ∧ w'.cell? ⟨w.heap.size, 4, none⟩ = some (.string a') ∧ w'.cell? ⟨w.heap.size, 5, none⟩ = some (.int .i64 p') ∧ w'.cell? ⟨w.heap.size, 6, none⟩ = some (.slice g' ll' cap')) ((first | go_keep | (refine ⟨?_, ?_, ?_, ?_, ?_, ?_⟩ <;> go_simp)))
   (first
    | (go_at_call_of 96 (Value.string a); refine C1.out.mono ?_; rintro e w3 ⟨H3, rfl, hw3, hu3, hH3⟩; obtain ⟨z1, z2⟩ := HK.out w3 _ W2.drew hu3 hs2 HN1.out.1 HN1.out.2; have y0 := (z1 0).trans b0; have y1 := (z1 1).trans b1; have y2 := (z1 2).trans b2; have y3 := (z1 3).trans b3; have y4 := (z1 4).trans b4; have y5 := (z1 5).trans b5; have y6 := (z1 6).trans b6; have y7 := (z2 0).trans t0; have Hw3 := hide hw3; have Hu3 := hide hu3; have HH3 := hide hH3; clear hw3 hu3 hH3 z1 z2)
    | (go_at_call_of 96 (Value.string a'); refine (C2.out w3 H3 Hw3.out Hu3.out).mono ?_; rintro e w4 ⟨H4, rfl, hw4, hu4, hH4⟩; obtain ⟨z1, z2⟩ := HK.out w4 _ w3 hu4 (Nat.le_trans hs2 Hu3.out.size) (fun hm => (HH3.out _ hm).elim HN1.out.1 (fun (e : W2.heap.size ≤ _) => by omega)) (fun hm => (HH3.out _ hm).elim HN1.out.2 (fun (e : W2.heap.size ≤ _) => by omega)); have x0 := (z1 0).trans y0; have x1 := (z1 1).trans y1; have x2 := (z1 2).trans y2; have x3 := (z1 3).trans y3; have x4 := (z1 4).trans y4; have x5 := (z1 5).trans y5; have x6 := (z1 6).trans y6; have x7 := (z2 0).trans y7; have Hw4 := hide hw4; have Hu4 := hide hu4; have HH4 := hide hH4; clear hw4 hu4 hH4 z1 z2))
  go_wp2_with (go_at_call 94; refine (HF2.out w4 H4 (Hw4.out.mono (fun k hk hl => ⟨hk.elim (fun h => h.1) (fun h => .inr (Nat.le_trans Hu3.out.size h)), hl⟩))).mono ?_; rintro e w5 ⟨H5, rfl, hw5, hu5, hH5⟩; have Hw5 := hide hw5; have Hu5 := hide hu5; have HH5 := hide hH5; clear hw5 hu5 hH5)
  go_end0
  have := say_fin hs2 HU2.out Hu3.out HH3.out Hu4.out HH4.out Hw5.out Hu5.out HH5.out
  exact ⟨H5, rfl, by rw [HM2.out]; exact this.1, this.2⟩
 | false =>
  rw [hxe] at Hk
  have hk0 : k = 1 := Hk.out
  subst hk0
  have HF2 := hide (fun (w4 : World) (H4 : Hd) hw4 => (HFin.out w4 H4 hw4).2 hxe)
  have HM2 := hide (HM.out.2 hxe)
  clear hxe Hk HFin HM
  go_enter Tryz.func57, Tryz.ntmps57
  go_wp2_with fail
  rw [← hW2]
  clear hW2
  go_region_held3 (fun w' => w'.cell? ⟨w.heap.size, 0, none⟩ = some (.string a) ∧ w'.cell? ⟨w.heap.size, 1, none⟩ = some (.int .i64 p) ∧ w'.cell? ⟨w.heap.size, 2, none⟩ = some (.slice g ll cap) ∧ w'.cell? ⟨w.heap.size, 4, none⟩ = some (.string a') ∧ w'.cell? ⟨w.heap.size, 5, none⟩ = some (.int .i64 p') ∧ w'.cell? ⟨w.heap.size, 6, none⟩ = some (.slice g' ll' cap')) ((first | go_keep | (refine ⟨?_, ?_, ?_, ?_, ?_, ?_⟩ <;> go_simp)))
   (first
    | (go_at_call_of 96 (Value.string a); refine C1.out.mono ?_; rintro e w3 ⟨H3, rfl, hw3, hu3, hH3⟩; obtain ⟨z1, z2⟩ := HK.out w3 _ W2.drew hu3 hs2 HN1.out.1 HN1.out.2; have y0 := (z1 0).trans b0; have y1 := (z1 1).trans b1; have y2 := (z1 2).trans b2; have y3 := (z1 3).trans b3; have y4 := (z1 4).trans b4; have y5 := (z1 5).trans b5; have y6 := (z1 6).trans b6; have y7 := (z2 1).trans t1; have Hw3 := hide hw3; have Hu3 := hide hu3; have HH3 := hide hH3; clear hw3 hu3 hH3 z1 z2)
    | (go_at_call_of 96 (Value.string a'); refine (C2.out w3 H3 Hw3.out Hu3.out).mono ?_; rintro e w4 ⟨H4, rfl, hw4, hu4, hH4⟩; obtain ⟨z1, z2⟩ := HK.out w4 _ w3 hu4 (Nat.le_trans hs2 Hu3.out.size) (fun hm => (HH3.out _ hm).elim HN1.out.1 (fun (e : W2.heap.size ≤ _) => by omega)) (fun hm => (HH3.out _ hm).elim HN1.out.2 (fun (e : W2.heap.size ≤ _) => by omega)); have x0 := (z1 0).trans y0; have x1 := (z1 1).trans y1; have x2 := (z1 2).trans y2; have x3 := (z1 3).trans y3; have x4 := (z1 4).trans y4; have x5 := (z1 5).trans y5; have x6 := (z1 6).trans y6; have x7 := (z2 1).trans y7; have Hw4 := hide hw4; have Hu4 := hide hu4; have HH4 := hide hH4; clear hw4 hu4 hH4 z1 z2))
  go_wp2_with (go_at_call 95; refine (HF2.out w4 H4 (Hw4.out.mono (fun k hk hl => ⟨hk.elim (fun h => h.1) (fun h => .inr (Nat.le_trans Hu3.out.size h)), hl⟩))).mono ?_; rintro e w5 ⟨H5, rfl, hw5, hu5, hH5⟩; have Hw5 := hide hw5; have Hu5 := hide hu5; have HH5 := hide hH5; clear hw5 hu5 hH5)
  go_end0
  have := say_fin hs2 HU2.out Hu3.out HH3.out Hu4.out HH4.out Hw5.out Hu5.out HH5.out
  exact ⟨H5, rfl, by rw [HM2.out]; exact this.1, this.2⟩
end Go.Proofs.YtmfkpllnmmfpiaaGreatDoor

namespace Go.Proofs.YtmfkpllnmmfpiaaGreatDoor
open Go.RowKit
def badOf (S : WS) (x : Nat × Nat × Nat) : Bool := x.1 == 1 && classAt S x.2.1 == classAt S x.2.2
def clashM (S : WS) : Bool := S.said.any (badOf S)
theorem flatSaid_get {l : List (Nat × Nat × Nat)} {i : Nat} {s : Nat × Nat × Nat} (h : l[i]? = some s) : (flatSaid l)[i * 3]? = some (.int .i64 s.1) ∧ (flatSaid l)[i * 3 + 1]? = some (.int .i64 s.2.1) ∧ (flatSaid l)[i * 3 + 2]? = some (.int .i64 s.2.2) := by
 induction l generalizing i with
 | nil => simp at h
 | cons d ds ih =>
  cases i with
  | zero => simp at h; subst h; simp [flatSaid]
  | succ i =>
   have := ih (i := i) (by simpa using h)
   have e : (i + 1) * 3 = i * 3 + 1 + 1 + 1 := by omega
   rw [e]
   simpa [flatSaid] using this
theorem rowSaid_cells {w : World} {base e g len cap n : Nat} {l : List (Nat × Nat × Nat)} {s : Nat × Nat × Nat} {i : Nat} (h : w.ownsRow base e 3 (.slice (some ⟨g, 0, none⟩) len cap) n (flatSaid l)) (hi : l[i]? = some s) :
  w.cell? ⟨g, i * 3, none⟩ = some (.int .i64 s.1) ∧ w.cell? ⟨g, i * 3 + 1, none⟩ = some (.int .i64 s.2.1) ∧ w.cell? ⟨g, i * 3 + 2, none⟩ = some (.int .i64 s.2.2) := by
 obtain ⟨hl, hr⟩ := h
 rcases hr with ⟨hv, _⟩ | ⟨g', cap', cur, hv, _, hg, _, _, hcs, htk⟩
 ·cases hv
 ·cases hv
  have hc := flatSaid_get hi
  have key : ∀ j u, (flatSaid l)[j]? = some u → w.cell? ⟨g, j, none⟩ = some u := by
   intro j u hu
   rw [cell_of_row w g j cur e (0, 0) hg]
   rw [← htk, List.getElem?_take] at hu
   split at hu
   ·simpa using hu
   ·cases hu
  exact ⟨key _ _ hc.1, key _ _ hc.2.1, key _ _ hc.2.2⟩
set_option maxHeartbeats 1000000 in
set_option maxRecDepth 100000 in
theorem clash1_any (w : World) (wb bw : Nat) (H : Hd) (Z : Nat → Prop) (S : WS) (x : Nat × Nat × Nat) (h : WebAt w wb H Z S) (hw : w.cell? ⟨bw, 0, none⟩ = some (.pointer (some ⟨wb, 0, none⟩))) (h1 : x.2.1 < S.classes.length) (h2 : x.2.2 < S.classes.length) :
  Calls Tryz.prog 81 #[.agg #[.int .i64 x.1, .int .i64 x.2.1, .int .i64 x.2.2], .pointer (some ⟨bw, 0, none⟩)] w fun e w' => e = .returned (.bool (badOf S x)) ∧ Upd [] w w' := by
 obtain ⟨g, cap, hcl, _, _⟩ : ∃ g cap, H.classes = .slice (some ⟨g, 0, none⟩) S.classes.length cap ∧ S.classes.length ≤ cap ∧ cap ≤ maxLen := by
  rcases ownsRow_slice h.rc with ⟨_, h0⟩ | hh
  ·omega
  ·exact hh
 obtain ⟨W1, hW1⟩ : ∃ W1, W1 = w.alloc (.cells #[.int .i64 x.1, .int .i64 x.2.1, .int .i64 x.2.2] 134) := ⟨_, rfl⟩
 have U1 : Upd [] w W1 := hW1 ▸ (Upd.refl [] w).alloc _
 have b0 : W1.cell? ⟨w.heap.size, 0, none⟩ = some (.int .i64 x.1) := by rw [hW1]; go_simp
 have b1 : W1.cell? ⟨w.heap.size, 1, none⟩ = some (.int .i64 x.2.1) := by rw [hW1]; go_simp
 have b2 : W1.cell? ⟨w.heap.size, 2, none⟩ = some (.int .i64 x.2.2) := by rw [hW1]; go_simp
 have hw1 := (U1.cell (p := ⟨bw, 0, none⟩) (World.block_lt_of_cell? _ _ hw) (by simp)).trans hw
 have hweb := h.later U1 (fun _ _ => by simp)
 have c3 := hweb.c3
 rw [hcl] at c3
 have hrc := hweb.rc
 rw [hcl] at hrc
 have k1 : W1.cell? ⟨g, x.2.1, none⟩ = some (.int .i64 (classAt S x.2.1)) := row1_cell hrc h1
 have k2 : W1.cell? ⟨g, x.2.2, none⟩ = some (.int .i64 (classAt S x.2.2)) := row1_cell hrc h2
 have h1' : (x.2.1 : Int) < (S.classes.length : Int) := by omega
 have h2' : (x.2.2 : Int) < (S.classes.length : Int) := by omega
 have HU := hide U1
 clear hcl hrc hweb h hw U1
 by_cases hx : x.1 = 1
 ·have hg : ((x.1 : Int) == 1) = true := by simp; omega
  have HB : Hid (badOf S x = ((classAt S x.2.1 : Int) == (classAt S x.2.2 : Int))) := by
   show _ = _
   unfold badOf
   rw [hx]
   by_cases e : classAt S x.2.1 = classAt S x.2.2
   ·simp [e]
   ·have e' : ¬ ((classAt S x.2.1 : Int) = (classAt S x.2.2 : Int)) := by omega
    have e1 : (classAt S x.2.1 == classAt S x.2.2) = false := by simpa using e
    have e2 : ((classAt S x.2.1 : Int) == (classAt S x.2.2 : Int)) = false := by simpa using e'
    rw [e1, e2]; rfl
  clear hx
  go_enter Tryz.func81, Tryz.ntmps81
  go_wp2
  rw [← hW1]
  clear hW1
  go_quiet (fail)
  go_wp2
  go_ret
  exact ⟨by rw [HB.out]; rfl, HU.out.drewN _⟩
 ·have hg : ((x.1 : Int) == 1) = false := by simp; omega
  have HB : Hid (badOf S x = false) := by
   show _ = _
   unfold badOf
   have e1 : (x.1 == 1) = false := by simpa using hx
   rw [e1]; rfl
  clear hx
  go_enter Tryz.func81, Tryz.ntmps81
  go_wp2
  rw [← hW1]
  clear hW1
  go_quiet (fail)
  go_wp2
  go_ret
  exact ⟨by rw [HB.out]; rfl, HU.out.drewN _⟩
theorem said_slice {w : World} {wb : Nat} {H : Hd} {Z : Nat → Prop} {S : WS} (h : WebAt w wb H Z S) : ∃ g cap, H.said = .slice g S.said.length cap ∧ S.said.length ≤ cap ∧ cap ≤ maxLen ∧ (0 < S.said.length → ∃ b, g = some ⟨b, 0, none⟩) := by
 rcases ownsRow_slice h.rd with ⟨h1, h2⟩ | ⟨g, cap, h1, h2, h3⟩
 ·exact ⟨none, 0, by rw [h1, h2], by omega, by simp [maxLen], fun e => by omega⟩
 ·exact ⟨_, cap, h1, h2, h3, fun _ => ⟨g, rfl⟩⟩
set_option maxHeartbeats 2000000 in
set_option maxRecDepth 100000 in
theorem index_any (w : World) (wb bw : Nat) (H : Hd) (Z : Nat → Prop) (S : WS) (h : WebAt w wb H Z S) (hw : w.cell? ⟨bw, 0, none⟩ = some (.pointer (some ⟨wb, 0, none⟩))) (hin : ∀ x ∈ S.said, x.2.1 < S.classes.length ∧ x.2.2 < S.classes.length) (hsd : S.said.length ≤ 1000000) :
  Calls Tryz.prog 114 #[H.said, .func (.func 81) #[] #[.pointer (some ⟨bw, 0, none⟩)]] w fun e w' => ∃ r : Int, e = .returned (.int .i64 r) ∧ decide (0 ≤ r) = clashM S ∧ Upd [] w w' := by
 obtain ⟨g, cap, hd, hcap, hcm, hg⟩ := said_slice h
 rw [hd]
 unfold maxLen at hcm
 have hbl : bw < w.heap.size := World.block_lt_of_cell? _ _ hw
 have HC := hide (fun (wr : World) (hu : Upd [] w wr) (x : Nat × Nat × Nat) (hx : x ∈ S.said) => clash1_any wr wb bw H Z S x (h.later hu (fun _ _ => by simp)) ((hu.cell (p := ⟨bw, 0, none⟩) hbl (by simp)).trans hw) (hin x hx).1 (hin x hx).2)
 have HR := hide h.rd
 have HD := hide hd
 have HG := hide hg
 have Hs0 := hide (Upd.refl [] w)
 clear h hd hg hw hin
 go_enter Tryz.func114, Tryz.ntmps114
 go_wp2
 go_loopw [8] (fun i wr => ∃ j : Nat, j ≤ S.said.length ∧ i = .int .i64 j ∧ Hid ((∀ k, k < j → ∀ x, S.said[k]? = some x → badOf S x = false) ∧ Upd [] w wr)) (fun i _ => S.said.length - (intOf i).toNat)
 case atStart => exact ⟨0, Nat.zero_le _, rfl, fun k hk => by omega, Hs0.out⟩
 case round =>
  obtain ⟨j, hj, rfl, HJ⟩ := hrel
  by_cases hjl : j < S.said.length
  ·have hjl' : (j : Int) < (S.said.length : Int) := by omega
   obtain ⟨b, rfl⟩ := HG.out (by omega)
   have hget := List.getElem?_eq_getElem hjl
   have hmem := List.getElem_mem hjl
   have hrd := HR.out
   rw [HD.out] at hrd
   obtain ⟨k0, k1, k2⟩ := rowSaid_cells hrd hget
   have hbw : b < w.heap.size := ownsRow_lt hrd rfl
   have m0 := (HJ.out.2.cell (p := ⟨b, j * 3, none⟩) hbw (by simp)).trans k0
   have m1 := (HJ.out.2.cell (p := ⟨b, j * 3 + 1, none⟩) hbw (by simp)).trans k1
   have m2 := (HJ.out.2.cell (p := ⟨b, j * 3 + 2, none⟩) hbw (by simp)).trans k2
   have HC2 := hide (HC.out wr HJ.out.2 _ hmem)
   have Hget := hide hget
   have Hmem := hide hmem
   generalize S.said[j] = x at *
   clear hrd k0 k1 k2 hget hmem HC
   cases hbx : badOf S x with
   | true =>
    have Hbx := hide hbx
    rw [hbx] at HC2
    clear hbx
    go_wp2_with (go_at_call 81; refine HC2.out.mono ?_; rintro e w2 ⟨rfl, hu2⟩; have Hu2 := hide hu2; clear hu2)
    go_ret
    refine ⟨j, rfl, ?_, HJ.out.2.trans Hu2.out⟩
    have : clashM S = true := List.any_eq_true.2 ⟨x, Hmem.out, Hbx.out⟩
    rw [this]
    simp
   | false =>
    have Hbx := hide hbx
    rw [hbx] at HC2
    clear hbx
    go_wp2_with (go_at_call 81; refine HC2.out.mono ?_; rintro e w2 ⟨rfl, hu2⟩; have Hu2 := hide hu2; clear hu2)
    refine ⟨⟨j + 1, by omega, by go_num, fun k hk y hy => ?_, HJ.out.2.trans Hu2.out⟩, by simp [intOf]; omega⟩
    by_cases e : k = j
    ·subst e
     have := Hget.out
     rw [this] at hy
     cases hy
     exact Hbx.out
    ·exact HJ.out.1 k (by omega) y hy
  ·obtain rfl : j = S.said.length := by omega
   have hge : ¬ (S.said.length : Int) < (S.said.length : Int) := by omega
   go_wp2
   go_ret
   refine ⟨-1, rfl, ?_, HJ.out.2⟩
   have : clashM S = false := by
    unfold clashM
    rw [List.any_eq_false]
    intro x hx
    obtain ⟨i, hi, rfl⟩ := List.getElem_of_mem hx
    rw [HJ.out.1 i hi _ (List.getElem?_eq_getElem hi)]
    simp
   rw [this]
   rfl
set_option maxHeartbeats 1000000 in
theorem contains_any (w : World) (wb bw : Nat) (H : Hd) (Z : Nat → Prop) (S : WS) (h : WebAt w wb H Z S) (hw : w.cell? ⟨bw, 0, none⟩ = some (.pointer (some ⟨wb, 0, none⟩))) (hin : ∀ x ∈ S.said, x.2.1 < S.classes.length ∧ x.2.2 < S.classes.length) (hsd : S.said.length ≤ 1000000) :
  Calls Tryz.prog 80 #[H.said, .func (.func 81) #[] #[.pointer (some ⟨bw, 0, none⟩)]] w fun e w' => e = .returned (.bool (clashM S)) ∧ Upd [] w w' := by
 have HC := hide (index_any w wb bw H Z S h hw hin hsd)
 clear h hw hin
 go_enter Tryz.func80, Tryz.ntmps80
 go_wp2_with (go_at_call 114; refine HC.out.mono ?_; rintro e w2 ⟨r, rfl, hr, hu⟩; have Hr := hide hr; have Hu := hide hu; clear hr hu)
 go_ret
 exact ⟨by rw [← Hr.out]; rfl, Hu.out⟩
set_option maxHeartbeats 1000000 in
theorem webClash_any (w : World) (wb : Nat) (H : Hd) (Z : Nat → Prop) (S : WS) (h : WebAt w wb H Z S) (hin : ∀ x ∈ S.said, x.2.1 < S.classes.length ∧ x.2.2 < S.classes.length) (hsd : S.said.length ≤ 1000000) :
  Calls Tryz.prog 45 #[.pointer (some ⟨wb, 0, none⟩)] w fun e w' => e = .returned (.bool (clashM S)) ∧ Upd [] w w' := by
 have hmf : ∀ (fn : Fn) (first cap : Array Value) (w : World), (Instr.makeFunc fn first cap).run Tryz.prog w = .ok (.func fn first cap) w := fun _ _ _ _ => rfl
 obtain ⟨W1, hW1⟩ : ∃ W1, W1 = w.alloc (.cells #[.pointer (some ⟨wb, 0, none⟩)] 27) := ⟨_, rfl⟩
 have U1 : Upd [] w W1 := hW1 ▸ (Upd.refl [] w).alloc _
 have b0 : W1.cell? ⟨w.heap.size, 0, none⟩ = some (.pointer (some ⟨wb, 0, none⟩)) := by rw [hW1]; go_simp
 have hweb := h.later U1 (fun _ _ => by simp)
 have c5 := hweb.c5
 obtain ⟨g0, cap0, hd0, _⟩ := said_slice h
 have HD : ∃ g cap, H.said = .slice g S.said.length cap := ⟨g0, cap0, hd0⟩
 clear hd0
 have HC := hide (contains_any W1 wb w.heap.size H Z S hweb b0 hin hsd)
 have HU := hide U1
 clear h hin hweb U1
 obtain ⟨g, cap, hd⟩ : ∃ g cap, H.said = .slice g S.said.length cap := HD
 rw [hd] at c5 HC
 clear hd
 subst hW1
 go_enter Tryz.func45, Tryz.ntmps45
 go_wp2_with (go_at_call 80; refine HC.out.mono ?_; rintro e w2 ⟨rfl, hu⟩; have Hu := hide hu; clear hu)
 go_ret
 exact ⟨rfl, HU.out.trans Hu.out⟩
end Go.Proofs.YtmfkpllnmmfpiaaGreatDoor
