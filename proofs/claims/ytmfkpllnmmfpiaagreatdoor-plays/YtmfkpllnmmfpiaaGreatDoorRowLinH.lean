/- BookWhy, LawWhy, RowCmp, RowLin -/
import Derived.Test.YtmfkpllnmmfpiaaGreatDoorWebWhyH
import Derived.Test.YtmfkpllnmmfpiaaGreatDoorRefSortH
import Derived.Test.YtmfkpllnmmfpiaaGreatDoorBackwardH
import Derived.Test.YtmfkpllnmmfpiaaGreatDoorRefWhyH
import Derived.Test.YtmfkpllnmmfpiaaGreatDoorPlacesH
import Derived.Deep.RegionHeld3
namespace Go.Proofs.YtmfkpllnmmfpiaaGreatDoor
open Go.RowKit
set_option maxHeartbeats 2000000 in
set_option maxRecDepth 100000 in
theorem webWhy_no (w : World) (wb n : Nat) (H : Hd) (Z F : Nat → Prop) (S : WS) (l r : V3) (k : Int) (x : Snt n) (h : WebAt w wb H Z S) (hs : IsSnt w F n l k r x) (hFZ : ∀ k, F k → ¬ Z k) (hZ : ∀ k, Z k → k < w.heap.size)
  (hF : Fine S) (hx : NarrowS x) (hn : S.shapes.length + sizeS x ≤ 400) (hsd : S.said.length + 1 ≤ 900) (hfo : followsM S x = false) :
  Calls Tryz.prog 61 #[.pointer (some ⟨wb, 0, none⟩), .agg #[l.1, l.2.1, l.2.2, .int .i64 k, r.1, r.2.1, r.2.2]] w fun e w' => e = .returned (.tuple #[.slice none 0 0, .bool false]) ∧ ∃ H', WebAt w' wb H' (fun k => Z k ∨ w.heap.size ≤ k) S ∧ Upd (H.blocks wb) w w' ∧ ∀ k ∈ H'.blocks wb, k ∈ H.blocks wb ∨ w.heap.size ≤ k := by
 obtain ⟨hl, hk, hr⟩ := hs
 obtain ⟨a, p, g, ll, cap, rfl⟩ := hl.form
 obtain ⟨a', p', g', ll', cap', rfl⟩ := hr.form
 simp only
 subst hk
 have HFo := hide (fun (X : Obj) => webFollows_any (w.alloc X) wb n H Z (fun k => F k ∧ k < w.heap.size) S (.string a, .int .i64 p, .slice g ll cap) (.string a', .int .i64 p', .slice g' ll' cap') (signInt x.eq) x (h.later ((Upd.refl [] w).alloc X) (fun _ _ => by simp)) ⟨(hl.mono (F' := fun k => F k ∧ k < w.heap.size) fun k hk hl => ⟨hk, hl⟩).later ((Upd.refl [] w).alloc X) (fun _ _ => by simp), rfl, (hr.mono (F' := fun k => F k ∧ k < w.heap.size) fun k hk hl => ⟨hk, hl⟩).later ((Upd.refl [] w).alloc X) (fun _ _ => by simp)⟩ (fun k hk => hFZ k hk.1) (fun k hk => by have := hZ k hk; simp; omega) hF hx hn hsd)
 rw [hfo] at HFo
 clear h hl hr hF hx hfo hFZ hZ
 simp only at HFo
 go_enter Tryz.func61, Tryz.ntmps61
 go_wp2_with (go_at_call 60; refine (HFo.out _).mono ?_; rintro e w2 ⟨rfl, H2, hw2, hu2, hH2⟩; have Hw2 := hide hw2; have Hu2 := hide hu2; have HH2 := hide hH2; clear hw2 hu2 hH2)
 go_ret2
 exact ⟨rfl, H2, Hw2.out.mono (fun k hk _ => hk.imp id (fun h => by simp at h; omega)), (((Upd.refl [] w).alloc _).mono (fun x hx _ => by cases hx)).trans Hu2.out, fun k hk => (HH2.out k hk).imp id (fun h => by simp at h; omega)⟩
def WhyDone (w : World) (bb : Nat) (Z : Nat → Prop) (S : WS) (l : List Nat) (e : Ending) (w' : World) : Prop :=
 ∃ v m, e = .returned (.tuple #[v, .int .i64 0, .int .i64 0]) ∧ w.heap.size ≤ m ∧ BookAt w' bb (fun k => (Z k ∨ w.heap.size ≤ k) ∧ k < m ∧ k < w'.heap.size) S ∧ (∃ L, (∀ k ∈ L, Z k) ∧ Upd L w w') ∧ w'.ownsRow m 3 1 v l.length (intsOf l)
structure BookOK (S : WS) (L : List ST) : Prop where
 holds : Holds S L
 small : SmallL L
 tag : TagOK S
set_option maxHeartbeats 4000000 in
set_option maxRecDepth 100000 in
theorem bookWhy_yes (s : ByteArray) (w : World) (bb : Nat) (Z : Nat → Prop) (S : WS) (L : List ST) (hmax : s.size ≤ maxLen) (h : BookAt w bb Z S) (hE : ErrTab w) (hK : BookOK S L) {x : Snt (fuelOf s)} (hr : (readOf s).1 = some x) (hfo : followsM S x = true) :
  Calls Tryz.prog 27 #[.pointer (some ⟨bb, 0, none⟩), .string s] w (WhyDone w bb Z S (whyL (otherM ⟨_, contra x⟩ (sentsX S)) (sentsX S))) := by
 obtain ⟨hnar, hsz, _⟩ := readOf_small hr
 have HRd := hide (bookRead_fine s w bb hmax h.self hE hr)
 obtain ⟨wb, H, hc1, hw⟩ := h.ex
 have hlt := h.lt
 have ht := h.terms
 have hs := h.saids
 have Hh := hide h
 have Hw := hide hw
 obtain ⟨hu, hsub⟩ := hK.holds.under hnar hsz ht
 have hO := hu.other hsub (hK.holds.subs hK.small (fun t ht => known_append.2 (.inl ht)))
 have HC := hide (fun (w2 : World) (X : Obj) (hu : Upd [] w w2) a p g l c k a' p' g' l' c' (hx2 : IsSnt w2 (fun k => w.heap.size ≤ k) (fuelOf s) (.string a, .int .i64 p, .slice g l c) k (.string a', .int .i64 p', .slice g' l' c') x) =>
  webWhy_yes (w2.alloc X).drew wb (fuelOf s) H (fun k => Z k ∧ k ≠ bb) (fun k => w.heap.size ≤ k) S (.string a, .int .i64 p, .slice g l c) (.string a', .int .i64 p', .slice g' l' c') k x (hw.later (hu.alloc X).drew (fun _ _ => by simp))
   ⟨hx2.1.later ((Upd.refl [] w2).alloc X).drew (fun _ _ => by simp), hx2.2.1, hx2.2.2.later ((Upd.refl [] w2).alloc X).drew (fun _ _ => by simp)⟩ (fun k hk hz => by have := h.low k hz.1; omega) (fun k hk => Nat.lt_of_lt_of_le (h.low k hk.1) (hu.alloc X).size) h.fine hnar hsz ht hs hK.tag hO hfo)
 clear h hE hr hw hnar hK hO hu hsub hfo
 generalize whyL (otherM ⟨_, contra x⟩ (sentsX S)) (sentsX S) = l at *
 go_enter Tryz.func27, Tryz.ntmps27
 go_wp2_with (go_at_call 54; refine HRd.out.mono ?_; rintro e w2 ⟨a, p, g, l, c, k, a', p', g', l', c', rfl, hu2, hx2⟩; have Hu2 := hide hu2; have Hx2 := hide hx2; clear hu2 hx2)
 have U := Hu2.out.alloc (.cells #[.string a, .int .i64 p, .slice g l c, .int .i64 k, .string a', .int .i64 p', .slice g' l' c'] 101)
 have c1 := (U.cell (p := ⟨bb, 1, none⟩) hlt (by simp)).trans hc1
 have HU := hide U
 clear U
 go_region_with (go_at_call 61; refine (HC.out w2 _ Hu2.out a p g l c k a' p' g' l' c' Hx2.out).mono ?_; rintro e w3 ⟨v3, m3, H3, rfl, hm3, hw3, hu3, hH3, hr3⟩; have Hm3 := hide hm3; have Hw3 := hide hw3; have Hu3 := hide hu3; have HH3 := hide hH3; have Hr3 := hide hr3; clear hm3 hw3 hu3 hH3 hr3)
 all_goals (
  go_wp2
  go_ret3
  have U3 := (HU.out.drew.mono (L' := H.blocks wb) (fun x hx _ => by cases hx)).trans Hu3.out
  have s2 := HU.out.size
  have s3 : w.heap.size ≤ m3 := Nat.le_trans s2 Hm3.out
  have hb : bb ∉ H.blocks wb := fun hm => (Hw.out.inZ bb hm).2 rfl
  have s4 := U3.size
  refine ⟨v3, m3, rfl, s3, ⟨by omega, (U3.cell (p := ⟨bb, 0, none⟩) hlt hb).trans Hh.out.self, ⟨wb, H3, (U3.cell (p := ⟨bb, 1, none⟩) hlt hb).trans hc1, Hw3.out.mono (fun k hk hl => ?_)⟩, ⟨.inl Hh.out.own, by omega, by omega⟩, fun k hk => hk.2.2, Hh.out.fine, ht, hs⟩, ⟨H.blocks wb, fun k hk => (Hw.out.inZ k hk).1, U3⟩, Hr3.out⟩
  rcases hk with hk | hk
  ·have := Hh.out.low k hk.1
   exact ⟨⟨.inl hk.1, by omega, hl⟩, hk.2⟩
  ·have h9 : w.heap.size ≤ k := Nat.le_trans s2 hk.1
   exact ⟨⟨.inr h9, hk.2, hl⟩, by omega⟩)
set_option maxHeartbeats 4000000 in
set_option maxRecDepth 100000 in
theorem bookWhy_no (s : ByteArray) (w : World) (bb : Nat) (Z : Nat → Prop) (S : WS) (hmax : s.size ≤ maxLen) (h : BookAt w bb Z S) (hE : ErrTab w) {x : Snt (fuelOf s)} (hr : (readOf s).1 = some x) (hfo : followsM S x = false) :
  Calls Tryz.prog 27 #[.pointer (some ⟨bb, 0, none⟩), .string s] w fun e w' => e = .returned (.tuple #[.slice none 0 0, .int .i64 5, .int .i64 0]) ∧ BookAt w' bb (fun k => (Z k ∨ w.heap.size ≤ k) ∧ k < w'.heap.size) S ∧ ∃ L, (∀ k ∈ L, Z k) ∧ Upd L w w' := by
 obtain ⟨hnar, hsz, _⟩ := readOf_small hr
 have HRd := hide (bookRead_fine s w bb hmax h.self hE hr)
 obtain ⟨wb, H, hc1, hw⟩ := h.ex
 have hlt := h.lt
 have ht := h.terms
 have hs := h.saids
 have Hh := hide h
 have Hw := hide hw
 have HC := hide (fun (w2 : World) (X : Obj) (hu : Upd [] w w2) a p g l c k a' p' g' l' c' (hx2 : IsSnt w2 (fun k => w.heap.size ≤ k) (fuelOf s) (.string a, .int .i64 p, .slice g l c) k (.string a', .int .i64 p', .slice g' l' c') x) =>
  webWhy_no (w2.alloc X).drew wb (fuelOf s) H (fun k => Z k ∧ k ≠ bb) (fun k => w.heap.size ≤ k) S (.string a, .int .i64 p, .slice g l c) (.string a', .int .i64 p', .slice g' l' c') k x (hw.later (hu.alloc X).drew (fun _ _ => by simp))
   ⟨hx2.1.later ((Upd.refl [] w2).alloc X).drew (fun _ _ => by simp), hx2.2.1, hx2.2.2.later ((Upd.refl [] w2).alloc X).drew (fun _ _ => by simp)⟩ (fun k hk hz => by have := h.low k hz.1; omega) (fun k hk => Nat.lt_of_lt_of_le (h.low k hk.1) (hu.alloc X).size) h.fine hnar (by omega) (by omega) hfo)
 clear h hE hr hw hnar hfo
 go_enter Tryz.func27, Tryz.ntmps27
 go_wp2_with (go_at_call 54; refine HRd.out.mono ?_; rintro e w2 ⟨a, p, g, l, c, k, a', p', g', l', c', rfl, hu2, hx2⟩; have Hu2 := hide hu2; have Hx2 := hide hx2; clear hu2 hx2)
 have U := Hu2.out.alloc (.cells #[.string a, .int .i64 p, .slice g l c, .int .i64 k, .string a', .int .i64 p', .slice g' l' c'] 101)
 have c1 := (U.cell (p := ⟨bb, 1, none⟩) hlt (by simp)).trans hc1
 have HU := hide U
 clear U
 go_region_with (go_at_call 61; refine (HC.out w2 _ Hu2.out a p g l c k a' p' g' l' c' Hx2.out).mono ?_; rintro e w3 ⟨rfl, H3, hw3, hu3, hH3⟩; have Hw3 := hide hw3; have Hu3 := hide hu3; clear hw3 hu3 hH3)
 all_goals (
  go_wp2
  go_ret3
  have U3 := (HU.out.drew.mono (L' := H.blocks wb) (fun x hx _ => by cases hx)).trans Hu3.out
  have s2 := HU.out.size
  refine ⟨rfl, ?_, H.blocks wb, fun k hk => (Hw.out.inZ k hk).1, U3⟩
  exact WebAt.book Hh.out hc1 Hw.out.inZ U3 (Hw3.out.mono (fun k hk _ => hk.imp id (fun h => Nat.le_trans s2 h))) Hh.out.fine ht hs)
theorem bookWhy_bad (s : ByteArray) (w : World) (bb : Nat) (Z : Nat → Prop) (S : WS) (hmax : s.size ≤ maxLen) (h : BookAt w bb Z S) (hE : ErrTab w) (hr : (readOf s).1 = none) :
  Calls Tryz.prog 27 #[.pointer (some ⟨bb, 0, none⟩), .string s] w fun e w' => e = .returned (.tuple #[.slice none 0 0, .int .i64 (errOf (readOf s).2.1), .int .i64 (readOf s).2.2]) ∧ BookAt w' bb (fun k => (Z k ∨ w.heap.size ≤ k) ∧ k < w'.heap.size) S ∧ ∃ L, (∀ k ∈ L, Z k) ∧ Upd L w w' := by
 have HRd := hide (bookRead_any s w bb hmax h.self hE)
 have HB := hide (fun (w' : World) (U : Upd [] w w') => h.wider U)
 have hne : (errOf (readOf s).2.1 != 0) = true := errOf_ne hr
 clear h hE hr
 go_enter Tryz.func27, Tryz.ntmps27
 go_wp2_with (go_at_call 54; refine HRd.out.mono ?_; rintro e w2 ⟨a, p, g, l, c, k, a', p', g', l', c', rfl, hu2, _⟩; have Hu2 := hide hu2; clear hu2)
 go_ret3
 have U := Hu2.out.alloc (.cells #[.string a, .int .i64 p, .slice g l c, .int .i64 k, .string a', .int .i64 p', .slice g' l' c'] 101)
 exact ⟨rfl, HB.out _ U, [], fun k hk => (by cases hk), U⟩
end Go.Proofs.YtmfkpllnmmfpiaaGreatDoor

namespace Go.Proofs.YtmfkpllnmmfpiaaGreatDoor
open Go.RowKit
theorem intRow_form {w : World} {base : Nat} {v : Value} {l : List Nat} (h : w.ownsRow base 3 1 v l.length (intsOf l)) : ∃ a cap, v = .slice a l.length cap ∧ l.length ≤ cap ∧ cap ≤ maxLen ∧ (0 < l.length → ∃ g, a = some ⟨g, 0, none⟩ ∧ g < w.heap.size ∧ ∀ (i t : Nat), l[i]? = some t → w.cell? ⟨g, i, none⟩ = some (.int .i64 t)) := by
 rcases ownsRow_slice h with ⟨h1, h2⟩ | ⟨g, cap, h1, h2, h3⟩
 ·rw [h2]
  exact ⟨none, 0, h1, Nat.le_refl _, by simp [maxLen], fun h => absurd h (Nat.lt_irrefl _)⟩
 ·subst h1
  refine ⟨_, cap, rfl, h2, h3, fun _ => ⟨g, rfl, ownsRow_lt h rfl, fun i t ht => ?_⟩⟩
  have hi := (List.getElem?_eq_some_iff.1 ht).1
  have := h.cellAt i (by omega)
  rw [this]
  simp [intsOf, ht]
set_option maxHeartbeats 2000000 in
set_option maxRecDepth 100000 in
theorem sameInts_form (w : World) (v1 v2 : Value) (l1 l2 : List Nat) (h1 : ∃ a cap, v1 = .slice a l1.length cap ∧ l1.length ≤ cap ∧ cap ≤ maxLen ∧ (0 < l1.length → ∃ g, a = some ⟨g, 0, none⟩ ∧ g < w.heap.size ∧ ∀ (i t : Nat), l1[i]? = some t → w.cell? ⟨g, i, none⟩ = some (.int .i64 t))) (h2 : ∃ a cap, v2 = .slice a l2.length cap ∧ l2.length ≤ cap ∧ cap ≤ maxLen ∧ (0 < l2.length → ∃ g, a = some ⟨g, 0, none⟩ ∧ g < w.heap.size ∧ ∀ (i t : Nat), l2[i]? = some t → w.cell? ⟨g, i, none⟩ = some (.int .i64 t))) :
  Calls Tryz.prog 71 #[v1, v2] w fun e w' => e = .returned (.bool (decide (l1 = l2))) ∧ ∃ n, w' = w.drewN n := by
 obtain ⟨a1, cap1, hv1, c11, c12, f1⟩ := h1
 obtain ⟨a2, cap2, hv2, c21, c22, f2⟩ := h2
 subst hv1 hv2
 unfold maxLen at c12 c22
 by_cases hl : l1.length = l2.length
 ·obtain ⟨n, hn⟩ : ∃ n, l1.length = n := ⟨_, rfl⟩
  have hn2 : l2.length = n := by rw [← hl, hn]
  rw [hn] at c11 f1 ⊢
  rw [hn2] at c21 f2 ⊢
  have F1 := hide f1
  have F2 := hide f2
  have Hn := hide hn
  have Hn2 := hide hn2
  clear f1 f2 hn hn2 hl
  go_enter Tryz.func71, Tryz.ntmps71
  go_wp2
  go_loopw [5] (fun i wr => ∃ j m : Nat, j ≤ n ∧ i = .int .i64 j ∧ wr = w.drewN m ∧ Hid (∀ q, q < j → l1[q]? = l2[q]?)) (fun i _ => n - (intOf i).toNat)
  case atStart => exact ⟨0, 0, Nat.zero_le _, rfl, rfl, fun q hq => by omega⟩
  case round =>
   obtain ⟨j, m, hj, rfl, rfl, HJ⟩ := hrel
   by_cases hjn : j < n
   ·have hjI : (j : Int) < (n : Int) := by omega
    obtain ⟨x, hx⟩ : ∃ x, l1[j]? = some x := ⟨_, List.getElem?_eq_getElem (by rw [Hn.out]; exact hjn)⟩
    obtain ⟨y, hy⟩ : ∃ y, l2[j]? = some y := ⟨_, List.getElem?_eq_getElem (by rw [Hn2.out]; exact hjn)⟩
    obtain ⟨g1, rfl, _, k1⟩ := F1.out (by omega)
    obtain ⟨g2, rfl, _, k2⟩ := F2.out (by omega)
    have q1 := k1 j x hx
    have q2 := k2 j y hy
    have Hx := hide hx
    have Hy := hide hy
    clear k1 k2 hx hy
    by_cases he : x = y
    ·subst he
     go_wp2_with fail
     go_quiet (fail)
     go_wp2
     refine ⟨⟨j + 1, _, by omega, by simp, rfl, fun q hq => ?_⟩, by simp [intOf]; omega⟩
     by_cases e : q < j
     ·exact HJ.out q e
     ·obtain rfl : q = j := by omega
      rw [Hx.out, Hy.out]
    ·have he2 : ¬ (x : Int) = (y : Int) := by omega
     have he3 : ((x : Int) == (y : Int)) = false := by simp; omega
     have HF : Hid (decide (l1 = l2) = false) := by
      show _ = _
      rw [decide_eq_false_iff_not]
      rintro rfl
      have := Hx.out
      rw [Hy.out] at this
      exact he (Option.some.inj this).symm
     go_wp2_with fail
     go_quiet (fail)
     go_wp2
     go_ret
     exact ⟨by rw [HF.out]; rfl, m + nq, by simp⟩
   ·have hjI : ¬ (j : Int) < (n : Int) := by omega
    have HF : Hid (decide (l1 = l2) = true) := by
     show _ = _
     rw [decide_eq_true_eq]
     refine List.ext_getElem? fun q => ?_
     by_cases e : q < j
     ·exact HJ.out q e
     ·rw [List.getElem?_eq_none (by rw [Hn.out]; omega), List.getElem?_eq_none (by rw [Hn2.out]; omega)]
    go_wp2
    go_ret
    exact ⟨by rw [HF.out]; rfl, m, rfl⟩
 ·have hl2 : ¬ (l1.length : Int) = (l2.length : Int) := by omega
  have hl3 : ((l1.length : Int) == (l2.length : Int)) = false := by simp; omega
  have HF : Hid (decide (l1 = l2) = false) := by
   show _ = _
   rw [decide_eq_false_iff_not]
   rintro rfl
   exact hl rfl
  clear f1 f2 hl
  go_enter Tryz.func71, Tryz.ntmps71
  go_wp2
  go_ret
  exact ⟨by rw [HF.out]; rfl, 0, rfl⟩
theorem sameInts_any (w : World) (B1 B2 : Nat) (v1 v2 : Value) (l1 l2 : List Nat) (h1 : w.ownsRow B1 3 1 v1 l1.length (intsOf l1)) (h2 : w.ownsRow B2 3 1 v2 l2.length (intsOf l2)) :
  Calls Tryz.prog 71 #[v1, v2] w fun e w' => e = .returned (.bool (decide (l1 = l2))) ∧ ∃ n, w' = w.drewN n := sameInts_form w v1 v2 l1 l2 (intRow_form h1) (intRow_form h2)
theorem BookAt.monoZ {w : World} {bb : Nat} {Z Z' : Nat → Prop} {S : WS} (h : BookAt w bb Z S) (hm : ∀ k, Z k → Z' k) (hl : ∀ k, Z' k → k < w.heap.size) : BookAt w bb Z' S := by
 obtain ⟨wb, H, hc, hw⟩ := h.ex
 exact ⟨h.lt, h.self, ⟨wb, H, hc, hw.mono fun k hk _ => ⟨hm k hk.1, hk.2⟩⟩, hm _ h.own, hl, h.fine, h.terms, h.saids⟩
theorem bookWhy_any (s : ByteArray) (w : World) (bb : Nat) (Z : Nat → Prop) (S : WS) (L : List ST) (hmax : s.size ≤ maxLen) (h : BookAt w bb Z S) (hE : ErrTab w) (hK : Both S L) :
  Calls Tryz.prog 27 #[.pointer (some ⟨bb, 0, none⟩), .string s] w fun e w' => ∃ v m, e = .returned (.tuple #[v, .int .i64 (whyRB L s).2.1, .int .i64 (whyRB L s).2.2]) ∧ w.heap.size ≤ m ∧ BookAt w' bb (fun k => (Z k ∨ w.heap.size ≤ k) ∧ k < m ∧ k < w'.heap.size) S ∧ (∃ K, (∀ k ∈ K, Z k) ∧ Upd K w w') ∧ w'.ownsRow m 3 1 v (whyRB L s).1.length (intsOf (whyRB L s).1) := by
 obtain ⟨r1, r2⟩ := refRead_eq s
 cases hr : (readOf s).1 with
 | none =>
  have HF : whyRB L s = ([], errOf (readOf s).2.1, (((readOf s).2.2 : Nat) : Int)) := by unfold whyRB; rw [r2 hr]
  rw [HF]
  refine (bookWhy_bad s w bb Z S hmax h hE hr).mono ?_
  rintro e w' ⟨he, hb, K, hK', U⟩
  exact ⟨.slice none 0 0, w'.heap.size, he, U.size, hb.monoZ (fun k hk => ⟨hk.1, hk.2, hk.2⟩) (fun k hk => hk.2.2), ⟨K, hK', U⟩, ⟨rfl, .inl ⟨rfl, rfl⟩⟩⟩
 | some x =>
  obtain ⟨hn, hz, _⟩ := readOf_small hr
  obtain ⟨o1, _, _⟩ := readOf_ok hr
  have ht := h.terms
  have e1 := hK.holds.follows_iff hn (by omega)
  have e2 := clashR_iff (L := L ++ [contraT (eraseS x)]) (fun t ht => by
   simp only [List.mem_append, List.mem_singleton] at ht
   rcases ht with ht | rfl
   ·exact hK.ok t ht
   ·exact o1)
  cases hf : followsM S x with
  | false =>
   have hc : clashR (L ++ [contraT (eraseS x)]) = false := by
    cases hcc : clashR (L ++ [contraT (eraseS x)]) with
    | false => rfl
    | true => have := e1.2 (e2.1 hcc); rw [hf] at this; cases this
   have HF : whyRB L s = ([], 5, 0) := by unfold whyRB; rw [r1 x hr]; simp only [hc]; rfl
   rw [HF]
   refine (bookWhy_no s w bb Z S hmax h hE hr hf).mono ?_
   rintro e w' ⟨he, hb, K, hK', U⟩
   exact ⟨.slice none 0 0, w'.heap.size, he, U.size, hb.monoZ (fun k hk => ⟨hk.1, hk.2, hk.2⟩) (fun k hk => hk.2.2), ⟨K, hK', U⟩, ⟨rfl, .inl ⟨rfl, rfl⟩⟩⟩
  | true =>
   have hc : clashR (L ++ [contraT (eraseS x)]) = true := e2.2 (e1.1 hf)
   have hw1 := hK.holds.why_is hK.small hn hz ht
   have hw2 := whyDoc_is (L := L) (c := contraT (eraseS x)) hK.ok o1
   have HF : whyRB L s = (whyL (otherM ⟨_, contra x⟩ (sentsX S)) (sentsX S), 0, 0) := by
    unfold whyRB
    rw [r1 x hr]
    simp only [hc, if_true]
    rw [hw1.unique hw2]
   rw [HF]
   exact bookWhy_yes s w bb Z S L hmax h hE ⟨hK.holds, hK.small, hK.holds.tags⟩ hr hf
set_option maxHeartbeats 2000000 in
set_option maxRecDepth 100000 in
theorem whyL_any (s : ByteArray) (hmax : s.size ≤ maxLen) (w : World) (xb : Nat) (Z : Nat → Prop) (S : WS) (L : List ST) (M : List Nat) (h : BothAt w xb Z S L M) :
  Calls Tryz.prog 36 #[.pointer (some ⟨xb, 0, none⟩), .string s] w fun e w' => ∃ v, e = .returned (.tuple #[v, .bool true]) ∧ Left w w' xb Z S L M := by
 obtain ⟨bb, rb, Zb, Zr, c0, c1, hb, hr, z1, z2⟩ := h.ex
 have HS := hide (bookWhy_any s w bb Zb S L hmax hb h.err h.both)
 have HR := hide (fun (w1 : World) (K : List Nat) (hK : ∀ k ∈ K, Zb k) (U : Upd K w w1) => refWhy_any s w1 rb Zr L M (hr.later U (fun k hk hm => (z1 k (hK k hm)).2.1 hk)) h.both.ok h.both.small (by have := h.both.length; have := h.both.saids; omega))
 have Hfin := hide (fun (w1 w2 : World) (K1 : List Nat) hb1 (hK1 : ∀ k ∈ K1, Zb k) (U1 : Upd K1 w w1) (U2 : Upd [] w1 w2) => h.step (w1 := w1) (w2 := w2) (K1 := K1) (K2 := []) (S' := S) (L' := L) (M' := M) c0 c1 hr z1 z2 hb1 hK1 U1 ((hr.later U1 (fun k hk hm => (z1 k (hK1 k hm)).2.1 hk)).wider U2) (fun k hk => (by cases hk)) U2 h.both)
 have Hc1 : Hid (∀ (w1 : World) (K : List Nat), (∀ k ∈ K, Zb k) → Upd K w w1 → w1.cell? ⟨xb, 1, none⟩ = some (.pointer (some ⟨rb, 0, none⟩))) := fun w1 K hK U => (U.cell (p := ⟨xb, 1, none⟩) h.lt (fun hm => (z1 _ (hK _ hm)).2.2 rfl)).trans c1
 clear h hb hr z1 z2
 obtain ⟨⟨l, r2, r3⟩, hr⟩ : ∃ r, whyRB L s = r := ⟨_, rfl⟩
 rw [hr] at HS HR
 simp only at HS HR
 clear hr c1
 go_enter Tryz.func36, Tryz.ntmps36
 go_wp2_with (first
  | (go_at_call 27; refine HS.out.mono ?_; rintro e w1 ⟨v1, m1, rfl, hm1, hb1, ⟨K1, hK1, U1⟩, hr1⟩; have k1 := Hc1.out w1 K1 hK1 U1; have HR1 := hide (HR.out w1 K1 hK1 U1); have Hb1 := hide hb1; have HK1 := hide hK1; have HU1 := hide U1; have Hr1 := hide hr1; clear hb1 hK1 U1 hr1)
  | (go_at_call 70; refine HR1.out.mono ?_; rintro e w2 ⟨v2, rfl, hu2, hr2⟩; have HU2 := hide hu2; have Hsi := hide (sameInts_any w2 _ _ v1 v2 l l (hu2.ownsRow Hr1.out (fun _ _ => by simp)) hr2); rw [decide_eq_true rfl] at Hsi; clear hu2 hr2)
  | (go_at_call 71; refine Hsi.out.mono ?_; rintro e w4 ⟨rfl, m, hw4⟩; rw [hw4]; clear hw4 w4)
  | (go_at_call 30; refine (numL_any _ _).mono ?_; rintro e w3 ⟨rfl, hw3⟩; rw [hw3]; clear hw3 w3))
 go_ret2
 exact ⟨v1, by simp, Hfin.out w1 (w2.drewN m) K1 (Hb1.out.monoZ (fun k hk => ⟨hk.1, hk.2.2⟩) (fun k hk => hk.2)) HK1.out HU1.out (HU2.out.drewN m)⟩
theorem Since.why {w0 w : World} {xb : Nat} {S : WS} {L : List ST} {M : List Nat} (h : Since w0 w xb S L M) (s : ByteArray) (hmax : s.size ≤ maxLen) :
  Calls Tryz.prog 36 #[.pointer (some ⟨xb, 0, none⟩), .string s] w fun e w' => ∃ v, e = .returned (.tuple #[v, .bool true]) ∧ Since w0 w' xb S L M :=
 (whyL_any s hmax w xb _ S L M h.1).mono fun _ _ ⟨v, he, hl⟩ => ⟨v, he, h.left hl⟩
end Go.Proofs.YtmfkpllnmmfpiaaGreatDoor

namespace Go.Proofs.YtmfkpllnmmfpiaaGreatDoor
open Go.RowKit Go.Shelf Go.Sort
structure RowP where
 name : ByteArray
 args : List Nat
 value : Nat
instance : Inhabited RowP := ⟨⟨⟨#[]⟩, [], 0⟩⟩
def cmpI (a b : Nat) : Int := if a < b then -1 else if b < a then 1 else 0
def cmpArgs : List Nat → List Nat → Int
 | [], [] => 0
 | [], _ :: _ => -1
 | _ :: _, [] => 1
 | a :: l, b :: m => if cmpI a b ≠ 0 then cmpI a b else cmpArgs l m
def firstNZ : List Int → Int
 | [] => 0
 | a :: l => if a ≠ 0 then a else firstNZ l
def cmpRow (x y : RowP) : Int := firstNZ [Lib.compareBytes x.name.data.toList y.name.data.toList, cmpI x.args.length y.args.length, cmpArgs x.args y.args]
theorem cmpI_zero {a b : Nat} : cmpI a b = 0 ↔ a = b := by
 unfold cmpI
 split
 ·simp; omega
 ·split
  ·simp; omega
  ·simp; omega
theorem cmpArgs_step {l m : List Nat} {j a b : Nat} (h1 : l[j]? = some a) (h2 : m[j]? = some b) : cmpArgs (l.drop j) (m.drop j) = if cmpI a b ≠ 0 then cmpI a b else cmpArgs (l.drop (j + 1)) (m.drop (j + 1)) := by
 have e1 := (List.getElem?_eq_some_iff.1 h1)
 have e2 := (List.getElem?_eq_some_iff.1 h2)
 obtain ⟨p1, q1⟩ := e1
 obtain ⟨p2, q2⟩ := e2
 rw [List.drop_eq_getElem_cons p1, List.drop_eq_getElem_cons p2, q1, q2]
 rfl
def IntsAt (w : World) (v : Value) (l : List Nat) : Prop := ∃ a cap, v = .slice a l.length cap ∧ l.length ≤ cap ∧ cap ≤ maxLen ∧ (0 < l.length → ∃ g, a = some ⟨g, 0, none⟩ ∧ g < w.heap.size ∧ ∀ (i t : Nat), l[i]? = some t → w.cell? ⟨g, i, none⟩ = some (.int .i64 t))
theorem IntsAt.later {w w' : World} {v : Value} {l : List Nat} {K : List Nat} (h : IntsAt w v l) (hu : Upd K w w') (hK : ∀ k, v.ownBlock = some k → k ∉ K) : IntsAt w' v l := by
 obtain ⟨a, cap, hv, h1, h2, h3⟩ := h
 refine ⟨a, cap, hv, h1, h2, fun hp => ?_⟩
 obtain ⟨g, rfl, hg, hc⟩ := h3 hp
 refine ⟨g, rfl, Nat.lt_of_lt_of_le hg hu.size, fun i t ht => (hu.cell (p := ⟨g, i, none⟩) hg (hK g (by rw [hv]; rfl))).trans (hc i t ht)⟩
theorem isNaN_any (a : Int) (w : World) : Calls Tryz.prog 147 #[.int .i64 a] w fun e w' => e = .returned (.bool false) ∧ w' = w := by
 go_enter Tryz.func147, Tryz.ntmps147
 go_wp2
 go_ret
 exact ⟨by simp, rfl⟩
set_option maxHeartbeats 1000000 in
theorem cmpInt_any (a b : Nat) (w : World) : Calls Tryz.prog 121 #[.int .i64 a, .int .i64 b] w fun e w' => e = .returned (.int .i64 (cmpI a b)) ∧ w' = w := by
 unfold cmpI
 by_cases h1 : a < b
 ·have h1' : (a : Int) < (b : Int) := by omega
  rw [if_pos h1]
  go_enter Tryz.func121, Tryz.ntmps121
  go_wp2_with (go_at_call 147; refine (isNaN_any _ _).mono ?_; rintro e w3 ⟨rfl, hw3⟩; rw [hw3]; clear hw3 w3)
  go_ret
  exact ⟨rfl, rfl⟩
 ·have h1' : ¬ (a : Int) < (b : Int) := by omega
  rw [if_neg h1]
  by_cases h2 : b < a
  ·have h2' : (b : Int) < (a : Int) := by omega
   rw [if_pos h2]
   go_enter Tryz.func121, Tryz.ntmps121
   go_wp2_with (go_at_call 147; refine (isNaN_any _ _).mono ?_; rintro e w3 ⟨rfl, hw3⟩; rw [hw3]; clear hw3 w3)
   go_ret
   exact ⟨rfl, rfl⟩
  ·have h2' : ¬ (b : Int) < (a : Int) := by omega
   rw [if_neg h2]
   go_enter Tryz.func121, Tryz.ntmps121
   go_wp2_with (go_at_call 147; refine (isNaN_any _ _).mono ?_; rintro e w3 ⟨rfl, hw3⟩; rw [hw3]; clear hw3 w3)
   go_ret
   exact ⟨rfl, rfl⟩
set_option maxHeartbeats 4000000 in
set_option maxRecDepth 100000 in
theorem slicesCompare_any (w : World) (v1 v2 : Value) (l1 l2 : List Nat) (h1 : IntsAt w v1 l1) (h2 : IntsAt w v2 l2) :
  Calls Tryz.prog 122 #[v1, v2] w fun e w' => e = .returned (.int .i64 (cmpArgs l1 l2)) ∧ w' = w := by
 obtain ⟨a1, cap1, hv1, c11, c12, f1⟩ := h1
 obtain ⟨a2, cap2, hv2, c21, c22, f2⟩ := h2
 subst hv1 hv2
 obtain ⟨n1, hn1⟩ : ∃ n, l1.length = n := ⟨_, rfl⟩
 obtain ⟨n2, hn2⟩ : ∃ n, l2.length = n := ⟨_, rfl⟩
 rw [hn1] at c11 f1 ⊢
 rw [hn2] at c21 f2 ⊢
 have F1 := hide f1
 have F2 := hide f2
 have Hn1 := hide hn1
 have Hn2 := hide hn2
 unfold maxLen at c12 c22
 clear f1 f2 hn1 hn2
 go_enter Tryz.func122, Tryz.ntmps122
 go_wp2
 go_loopw [11] (fun i wr => ∃ j : Nat, j ≤ n1 ∧ j ≤ n2 ∧ i = .int .i64 j ∧ wr = w ∧ Hid (cmpArgs l1 l2 = cmpArgs (l1.drop j) (l2.drop j))) (fun i _ => n1 - (intOf i).toNat)
 case atStart => exact ⟨0, Nat.zero_le _, Nat.zero_le _, rfl, rfl, rfl⟩
 case round =>
  obtain ⟨j, hj1, hj2, rfl, hwr, HJ⟩ := hrel
  rw [hwr]
  clear hwr wr
  by_cases hjn : j < n1
  ·have hjI : (j : Int) < (n1 : Int) := by omega
   obtain ⟨a, ha⟩ : ∃ a, l1[j]? = some a := ⟨_, List.getElem?_eq_getElem (by rw [Hn1.out]; exact hjn)⟩
   obtain ⟨g1, rfl, _, k1⟩ := F1.out (by omega)
   have q1 := k1 j a ha
   by_cases hjm : j < n2
   ·have hjm' : ¬ (n2 : Int) ≤ (j : Int) := by omega
    have hjm2 : (j : Int) < (n2 : Int) := by omega
    obtain ⟨b, hb⟩ : ∃ b, l2[j]? = some b := ⟨_, List.getElem?_eq_getElem (by rw [Hn2.out]; exact hjm)⟩
    obtain ⟨g2, rfl, _, k2⟩ := F2.out (by omega)
    have q2 := k2 j b hb
    have hst := cmpArgs_step ha hb
    have HC := hide (cmpInt_any a b w)
    obtain ⟨c, hc⟩ : ∃ c, cmpI a b = c := ⟨_, rfl⟩
    rw [hc] at hst HC
    clear k1 k2 ha hb hc
    by_cases hc0 : c = 0
    ·have HN : Hid (cmpArgs l1 l2 = cmpArgs (l1.drop (j + 1)) (l2.drop (j + 1))) := by show _ = _; rw [HJ.out, hst, if_neg (by simp [hc0])]
     subst hc0
     clear hst
     go_wp2_with (go_at_call 121; refine HC.out.mono ?_; rintro e w3 ⟨rfl, hw3⟩; rw [hw3]; clear hw3 w3)
     refine ⟨⟨j + 1, by omega, by omega, by simp, trivial, HN⟩, ?_⟩
     simp [intOf]
     omega
    ·have HN : Hid (cmpArgs l1 l2 = c) := by show _ = _; rw [HJ.out, hst, if_pos hc0]
     have hcb : (c != 0) = true := by simpa using hc0
     clear hst
     go_wp2_with (go_at_call 121; refine HC.out.mono ?_; rintro e w3 ⟨rfl, hw3⟩; rw [hw3]; clear hw3 w3)
     go_ret
     exact ⟨by rw [HN.out]; rfl, rfl⟩
   ·have hjm' : (n2 : Int) ≤ (j : Int) := by omega
    have HN : Hid (cmpArgs l1 l2 = 1) := by
     show _ = _
     have p1 := (List.getElem?_eq_some_iff.1 ha).1
     rw [HJ.out, List.drop_eq_getElem_cons p1, show l2.drop j = [] from List.drop_eq_nil_of_le (by rw [Hn2.out]; omega)]
     rfl
    clear k1 ha
    go_wp2
    go_ret
    exact ⟨by rw [HN.out]; rfl, rfl⟩
  ·have hjI : ¬ (j : Int) < (n1 : Int) := by omega
   by_cases hlt : n1 < n2
   ·have hlt' : (n1 : Int) < (n2 : Int) := by omega
    have HN : Hid (cmpArgs l1 l2 = -1) := by
     show _ = _
     rw [HJ.out, show l1.drop j = [] from List.drop_eq_nil_of_le (by rw [Hn1.out]; omega), List.drop_eq_getElem_cons (l := l2) (by rw [Hn2.out]; omega)]
     rfl
    go_wp2
    go_ret
    exact ⟨by rw [HN.out]; rfl, rfl⟩
   ·have hlt' : ¬ (n1 : Int) < (n2 : Int) := by omega
    have HN : Hid (cmpArgs l1 l2 = 0) := by
     show _ = _
     rw [HJ.out, show l1.drop j = [] from List.drop_eq_nil_of_le (by rw [Hn1.out]; omega), show l2.drop j = [] from List.drop_eq_nil_of_le (by rw [Hn2.out]; omega)]
     rfl
    go_wp2
    go_ret
    exact ⟨by rw [HN.out]; rfl, rfl⟩
set_option maxHeartbeats 4000000 in
set_option maxRecDepth 100000 in
theorem cmpOr_any (w : World) (g : Nat) (a b c : Int) (h0 : w.cell? ⟨g, 0, none⟩ = some (.int .i64 a)) (h1 : w.cell? ⟨g, 1, none⟩ = some (.int .i64 b)) (h2 : w.cell? ⟨g, 2, none⟩ = some (.int .i64 c)) :
  Calls Tryz.prog 120 #[.slice (some ⟨g, 0, none⟩) 3 3] w fun e w' => e = .returned (.int .i64 (firstNZ [a, b, c])) ∧ w' = w := by
 have hf : firstNZ [a, b, c] = if a ≠ 0 then a else if b ≠ 0 then b else c := by
  simp only [firstNZ]
  by_cases ha : a = 0
  ·by_cases hb : b = 0
   ·by_cases hc : c = 0
    ·simp [ha, hb, hc]
    ·simp [ha, hb, hc]
   ·simp [ha, hb]
  ·simp [ha]
 rw [hf]
 obtain ⟨R, hR⟩ : ∃ R, (if a ≠ 0 then a else if b ≠ 0 then b else c) = R := ⟨_, rfl⟩
 rw [hR]
 have HRR := hide hR
 clear hR
 have HC : Hid (∀ j, j < 3 → w.cell? ⟨g, j, none⟩ = some (.int .i64 ([a, b, c].getD j 0))) := fun j hj => by
  match j, hj with
  | 0, _ => exact h0
  | 1, _ => exact h1
  | 2, _ => exact h2
 clear h0 h1 h2 hf
 go_enter Tryz.func120, Tryz.ntmps120
 go_wp2
 go_loopw [8] (fun i wr => ∃ j : Nat, j ≤ 3 ∧ i = .int .i64 j ∧ wr = w ∧ Hid (∀ q, q < j → [a, b, c].getD q 0 = 0)) (fun i _ => 3 - (intOf i).toNat)
 case atStart => exact ⟨0, Nat.zero_le _, rfl, rfl, fun q hq => by omega⟩
 case round =>
  obtain ⟨j, hj, rfl, hwr, HJ⟩ := hrel
  rw [hwr]
  clear hwr wr
  by_cases hjn : j < 3
  ·have hjI : (j : Int) < 3 := by omega
   have q0 := HC.out j hjn
   obtain ⟨z, hz⟩ : ∃ z, [a, b, c].getD j 0 = z := ⟨_, rfl⟩
   rw [hz] at q0
   have Hz := hide hz
   clear hz
   by_cases hz0 : z = 0
   ·have HN : Hid (∀ q, q < j + 1 → [a, b, c].getD q 0 = 0) := fun q hq => by
     by_cases e : q < j
     ·exact HJ.out q e
     ·obtain rfl : q = j := by omega
      rw [Hz.out, hz0]
    subst hz0
    go_wp2
    refine ⟨⟨j + 1, by omega, by simp, trivial, HN⟩, ?_⟩
    simp [intOf]
    omega
   ·have hzb : (z != 0) = true := by simpa using hz0
    have HN : Hid (R = z) := by
     show _ = _
     rw [← HRR.out]
     have hz := Hz.out
     match j, hjn with
     | 0, _ =>
      have e : a = z := hz
      rw [if_pos (by rw [e]; exact hz0), e]
     | 1, _ =>
      have e0 : a = 0 := HJ.out 0 (by omega)
      have e : b = z := hz
      rw [if_neg (by simp [e0]), if_pos (by rw [e]; exact hz0), e]
     | 2, _ =>
      have e0 : a = 0 := HJ.out 0 (by omega)
      have e1 : b = 0 := HJ.out 1 (by omega)
      have e : c = z := hz
      rw [if_neg (by simp [e0]), if_neg (by simp [e1]), e]
    go_wp2
    go_ret
    exact ⟨by rw [HN.out]; rfl, rfl⟩
  ·have hjI : ¬ (j : Int) < 3 := by omega
   have HN : Hid (R = 0) := by
    show _ = _
    rw [← HRR.out]
    have e0 : a = 0 := HJ.out 0 (by omega)
    have e1 : b = 0 := HJ.out 1 (by omega)
    have e2 : c = 0 := HJ.out 2 (by omega)
    rw [if_neg (by simp [e0]), if_neg (by simp [e1]), e2]
   go_wp2
   go_ret
   exact ⟨by rw [HN.out]; rfl, rfl⟩
set_option maxHeartbeats 4000000 in
set_option maxRecDepth 100000 in
theorem compareRows_any (x y : RowP) (vx vy : Value) (W : World) (hx : IntsAt W vx x.args) (hy : IntsAt W vy y.args) :
  Calls Tryz.prog 85 #[.agg #[.string x.name, vx, .int .i64 x.value], .agg #[.string y.name, vy, .int .i64 y.value]] W fun e w' => e = .returned (.int .i64 (cmpRow x y)) ∧ ∃ q os', w' = grow (W.drewN q) os' := by
 have HS := hide (fun W' => stringsCompare_any x.name y.name W')
 have HI := hide (fun W' => cmpInt_any x.args.length y.args.length W')
 have HA := hide (fun W' (hU : Upd [] W W') => slicesCompare_any W' vx vy x.args y.args (hx.later hU (fun _ _ => by simp)) (hy.later hU (fun _ _ => by simp)))
 obtain ⟨ax, capx, hvx, _, _, _⟩ := hx
 obtain ⟨ay, capy, hvy, _, _, _⟩ := hy
 unfold cmpRow
 obtain ⟨a, ha⟩ : ∃ a, Lib.compareBytes x.name.data.toList y.name.data.toList = a := ⟨_, rfl⟩
 obtain ⟨b, hb⟩ : ∃ b, cmpI x.args.length y.args.length = b := ⟨_, rfl⟩
 obtain ⟨c, hc⟩ : ∃ c, cmpArgs x.args y.args = c := ⟨_, rfl⟩
 obtain ⟨nx, hnx⟩ : ∃ nx, x.args.length = nx := ⟨_, rfl⟩
 obtain ⟨ny, hny⟩ : ∃ ny, y.args.length = ny := ⟨_, rfl⟩
 rw [ha] at HS ⊢
 rw [hb] at HI ⊢
 rw [hc] at HA ⊢
 rw [hnx] at HI hvx
 rw [hny] at HI hvy
 subst hvx hvy
 clear ha hb hc hnx hny
 obtain ⟨xn, hxn⟩ : ∃ xn, x.name = xn := ⟨_, rfl⟩
 obtain ⟨yn, hyn⟩ : ∃ yn, y.name = yn := ⟨_, rfl⟩
 rw [hxn] at HS ⊢
 rw [hyn] at HS ⊢
 clear hxn hyn
 obtain ⟨R, hR⟩ : ∃ R, firstNZ [a, b, c] = R := ⟨_, rfl⟩
 rw [hR]
 have HRr := hide hR
 clear hR
 go_enter Tryz.func85, Tryz.ntmps85
 go_wp2_with fail
 obtain ⟨W1, hW1⟩ : ∃ W1, W1 = (W.alloc (.cells #[.string xn, .slice ax nx capx, .int .i64 x.value] 88)).alloc (.cells #[.string yn, .slice ay ny capy, .int .i64 y.value] 88) := ⟨_, rfl⟩
 have hU1 : Upd [] W W1 := by rw [hW1]; exact ((Upd.refl [] W).alloc _).alloc _
 have e0 : W1.cell? ⟨W.heap.size, 0, none⟩ = some (.string xn) := by rw [hW1]; go_simp
 have e1 : W1.cell? ⟨W.heap.size, 1, none⟩ = some (.slice ax nx capx) := by rw [hW1]; go_simp
 have d0 : W1.cell? ⟨W.heap.size + 1, 0, none⟩ = some (.string yn) := by rw [hW1]; go_simp
 have d1 : W1.cell? ⟨W.heap.size + 1, 1, none⟩ = some (.slice ay ny capy) := by rw [hW1]; go_simp
 have HW1 : Hid (∃ os, W1 = grow W os) := ⟨_, by rw [hW1, alloc_eq_grow, alloc_eq_grow, grow_grow]⟩
 rw [← hW1]
 have HA1 := hide (HA.out W1.drew hU1.drew)
 clear hW1 hU1 HA
 have HO : Hid (Calls Tryz.prog 120 #[.slice (some ⟨W1.heap.size, 0, none⟩) 3 3] (W1.drew.alloc (.cells #[.int .i64 a, .int .i64 b, .int .i64 c] 3)) fun e w' => e = .returned (.int .i64 (firstNZ [a, b, c])) ∧ w' = W1.drew.alloc (.cells #[.int .i64 a, .int .i64 b, .int .i64 c] 3)) :=
  cmpOr_any (W1.drew.alloc (.cells #[.int .i64 a, .int .i64 b, .int .i64 c] 3)) W1.heap.size a b c (by go_simp) (by go_simp) (by go_simp)
 rw [HRr.out] at HO
 go_region_held3 (fun w' => w'.cell? ⟨W.heap.size, 0, none⟩ = some (.string xn) ∧ w'.cell? ⟨W.heap.size, 1, none⟩ = some (.slice ax nx capx) ∧ w'.cell? ⟨W.heap.size + 1, 0, none⟩ = some (.string yn) ∧ w'.cell? ⟨W.heap.size + 1, 1, none⟩ = some (.slice ay ny capy)) ((first | go_keep | (refine ⟨?_, ?_, ?_, ?_⟩ <;> go_simp)))
  (first
   | (go_at_call 117; refine (HS.out _).mono ?_; rintro e w3 ⟨rfl, hw3⟩; rw [hw3]; clear hw3 w3)
   | (go_at_call 121; refine (HI.out _).mono ?_; rintro e w3 ⟨rfl, hw3⟩; rw [hw3]; clear hw3 w3)
   | (go_at_call 122; refine HA1.out.mono ?_; rintro e w3 ⟨rfl, hw3⟩; rw [hw3]; clear hw3 w3)
   | (go_at_call 120; refine HO.out.mono ?_; rintro e w3 ⟨rfl, hw3⟩; rw [hw3]; clear hw3 w3))
 all_goals (
  go_wp2
  go_ret
  obtain ⟨os, hos⟩ := HW1.out
  exact ⟨rfl, 1, _, by rw [hos, alloc_eq_grow, grow_grow]; rfl⟩)
end Go.Proofs.YtmfkpllnmmfpiaaGreatDoor

namespace Go.Proofs.YtmfkpllnmmfpiaaGreatDoor
open Go.RowKit Go.Shelf Go.Sort
structure Lin {β : Type} (c : β → β → Int) : Prop where
 eq : ∀ a b, c a b = 0 ↔ a = b
 tr : ∀ a b d, c a b < 0 → c b d < 0 → c a d < 0
 tot : ∀ a b, c a b < 0 ∨ a = b ∨ c b a < 0
theorem Lin.irr {β : Type} {c : β → β → Int} (h : Lin c) (a : β) : ¬ c a a < 0 := by rw [(h.eq a a).2 rfl]; omega
def lex2 {β γ : Type} (c : β → β → Int) (d : γ → γ → Int) (x y : β × γ) : Int := if c x.1 y.1 ≠ 0 then c x.1 y.1 else d x.2 y.2
theorem lex2_lt {β γ : Type} {c : β → β → Int} {d : γ → γ → Int} (hc : Lin c) {x y : β × γ} : lex2 c d x y < 0 ↔ c x.1 y.1 < 0 ∨ (x.1 = y.1 ∧ d x.2 y.2 < 0) := by
 unfold lex2
 by_cases h : c x.1 y.1 = 0
 ·rw [if_neg (by simp [h])]
  have e := (hc.eq _ _).1 h
  constructor
  ·exact fun hd => .inr ⟨e, hd⟩
  ·rintro (h1 | h1)
   ·omega
   ·exact h1.2
 ·rw [if_pos h]
  constructor
  ·exact fun hd => .inl hd
  ·rintro (h1 | h1)
   ·exact h1
   ·exact absurd ((hc.eq _ _).2 h1.1) h
theorem Lin.lex {β γ : Type} {c : β → β → Int} {d : γ → γ → Int} (hc : Lin c) (hd : Lin d) : Lin (lex2 c d) := by
 refine ⟨fun a b => ?_, fun a b e h1 h2 => ?_, fun a b => ?_⟩
 ·unfold lex2
  by_cases h : c a.1 b.1 = 0
  ·rw [if_neg (by simp [h]), hd.eq]
   have e := (hc.eq _ _).1 h
   exact ⟨fun e2 => Prod.ext e e2, fun e2 => by rw [e2]⟩
  ·rw [if_pos h]
   exact ⟨fun e => absurd e h, fun e => absurd ((hc.eq _ _).2 (by rw [e])) h⟩
 ·rw [lex2_lt hc] at h1 h2 ⊢
  rcases h1 with h1 | ⟨e1, h1⟩
  ·rcases h2 with h2 | ⟨e2, _⟩
   ·exact .inl (hc.tr _ _ _ h1 h2)
   ·exact .inl (by rw [← e2]; exact h1)
  ·rcases h2 with h2 | ⟨e2, h2⟩
   ·exact .inl (by rw [e1]; exact h2)
   ·exact .inr ⟨e1.trans e2, hd.tr _ _ _ h1 h2⟩
 ·rw [lex2_lt hc, lex2_lt hc]
  rcases hc.tot a.1 b.1 with h | h | h
  ·exact .inl (.inl h)
  ·rcases hd.tot a.2 b.2 with k | k | k
   ·exact .inl (.inr ⟨h, k⟩)
   ·exact .inr (.inl (Prod.ext h k))
   ·exact .inr (.inr (.inr ⟨h.symm, k⟩))
  ·exact .inr (.inr (.inl h))
theorem lin_bytes : Lin Lib.compareBytes := by
 refine ⟨fun a b => (cmpB_lt a b).2, fun a b d h1 h2 => ?_, fun a b => ?_⟩
 ·exact (cmpB_lt a d).1.2 (List.lt_trans ((cmpB_lt a b).1.1 h1) ((cmpB_lt b d).1.1 h2))
 ·rcases List.le_total a b with h | h
  ·rcases List.le_iff_lt_or_eq.1 h with h1 | h1
   ·exact .inl ((cmpB_lt a b).1.2 h1)
   ·exact .inr (.inl h1)
  ·rcases List.le_iff_lt_or_eq.1 h with h1 | h1
   ·exact .inr (.inr ((cmpB_lt b a).1.2 h1))
   ·exact .inr (.inl h1.symm)
theorem cmpI_lt {a b : Nat} : cmpI a b < 0 ↔ a < b := by
 unfold cmpI
 split
 ·simp; omega
 ·split
  ·simp; omega
  ·simp; omega
theorem lin_int : Lin cmpI := ⟨fun a b => cmpI_zero, fun a b d h1 h2 => by rw [cmpI_lt] at *; omega, fun a b => by rw [cmpI_lt, cmpI_lt]; omega⟩
theorem cmpArgs_cons (a b : Nat) (l m : List Nat) : cmpArgs (a :: l) (b :: m) = lex2 cmpI cmpArgs (a, l) (b, m) := rfl
theorem lin_args : Lin cmpArgs := by
 have h1 : ∀ l m, cmpArgs l m = 0 ↔ l = m := by
  intro l
  induction l with
  | nil => intro m; cases m <;> simp [cmpArgs]
  | cons a l ih =>
   intro m
   cases m with
   | nil => simp [cmpArgs]
   | cons b m =>
    unfold cmpArgs
    by_cases h : cmpI a b = 0
    ·rw [if_neg (by simp [h]), ih m]
     have e := cmpI_zero.1 h
     simp [e]
    ·rw [if_pos h]
     exact ⟨fun e => absurd e h, fun e => absurd (cmpI_zero.2 (by simp at e; exact e.1)) h⟩
 have hlt : ∀ a b l m, cmpArgs (a :: l) (b :: m) < 0 ↔ a < b ∨ (a = b ∧ cmpArgs l m < 0) := fun a b l m => by
  rw [cmpArgs_cons, lex2_lt lin_int, cmpI_lt]
 refine ⟨h1, fun l => ?_, fun l => ?_⟩
 ·induction l with
  | nil =>
   intro m d k1 k2
   cases m with
   | nil => simp [cmpArgs] at k1
   | cons b m =>
    cases d with
    | nil => simp [cmpArgs] at k2
    | cons c d => simp [cmpArgs]
  | cons a l ih =>
   intro m d k1 k2
   cases m with
   | nil => simp [cmpArgs] at k1
   | cons b m =>
    cases d with
    | nil => simp [cmpArgs] at k2
    | cons c d =>
     rw [hlt] at k1 k2 ⊢
     rcases k1 with k1 | ⟨e1, k1⟩
     ·rcases k2 with k2 | ⟨e2, _⟩
      ·exact .inl (by omega)
      ·exact .inl (by omega)
     ·rcases k2 with k2 | ⟨e2, k2⟩
      ·exact .inl (by omega)
      ·exact .inr ⟨by omega, ih m d k1 k2⟩
 ·induction l with
  | nil => intro m; cases m <;> simp [cmpArgs]
  | cons a l ih =>
   intro m
   cases m with
   | nil => simp [cmpArgs]
   | cons b m =>
    rw [hlt, hlt]
    rcases Nat.lt_trichotomy a b with h | h | h
    ·exact .inl (.inl h)
    ·rcases ih m with k | k | k
     ·exact .inl (.inr ⟨h, k⟩)
     ·exact .inr (.inl (by rw [h, k]))
     ·exact .inr (.inr (.inr ⟨h.symm, k⟩))
    ·exact .inr (.inr (.inl h))
def keyR (x : RowP) : List UInt8 × Nat × List Nat := (x.name.data.toList, x.args.length, x.args)
def cmpK : List UInt8 × Nat × List Nat → List UInt8 × Nat × List Nat → Int := lex2 Lib.compareBytes (lex2 cmpI cmpArgs)
theorem lin_key : Lin cmpK := lin_bytes.lex (lin_int.lex lin_args)
theorem cmpRow_key (x y : RowP) : cmpRow x y = cmpK (keyR x) (keyR y) := by
 unfold cmpRow cmpK lex2 keyR
 simp only [firstNZ]
 by_cases h1 : Lib.compareBytes x.name.data.toList y.name.data.toList = 0
 ·by_cases h2 : cmpI x.args.length y.args.length = 0
  ·by_cases h3 : cmpArgs x.args y.args = 0
   ·simp [h1, h2, h3]
   ·simp [h1, h2, h3]
  ·simp [h1, h2]
 ·simp [h1]
theorem keyR_eq {x y : RowP} : keyR x = keyR y ↔ x.name = y.name ∧ x.args = y.args := by
 unfold keyR
 simp only [Prod.mk.injEq]
 constructor
 ·rintro ⟨h1, _, h3⟩
  exact ⟨ByteArray.ext (Array.ext' h1), h3⟩
 ·rintro ⟨h1, h2⟩
  rw [h1, h2]
  exact ⟨rfl, rfl, rfl⟩
theorem swo_of {α : Type} {β : Type} {c : β → β → Int} (h : Lin c) (f : α → β) : SWO (ltOf fun x y => c (f x) (f y)) where
 irrefl x := by
  unfold ltOf
  simpa using h.irr (f x)
 trans x y z h1 h2 := by
  unfold ltOf at *
  simp only [decide_eq_true_eq] at *
  exact h.tr _ _ _ h1 h2
 ntrans x y z h1 h2 := by
  unfold ltOf at *
  simp only [decide_eq_false_iff_not] at *
  intro h3
  rcases h.tot (f x) (f y) with k | k | k
  ·exact h1 k
  ·exact h2 (by rw [← k]; exact h3)
  ·exact h2 (h.tr _ _ _ k h3)
end Go.Proofs.YtmfkpllnmmfpiaaGreatDoor
