/- BookRead, BookAsk, BookSay, Mark, BookMark -/
import Derived.Test.YtmfkpllnmmfpiaaGreatDoorBookW
import Derived.Test.YtmfkpllnmmfpiaaGreatDoorWithW
import Derived.Test.YtmfkpllnmmfpiaaGreatDoorJoinModelW
namespace Go.Proofs.YtmfkpllnmmfpiaaGreatDoor
open Go.RowKit
def errOf (f : Int) : Int := errZ.getD f.toNat 0
theorem readOf_kind (s : ByteArray) : 0 ≤ (readOf s).2.1 ∧ (readOf s).2.1 ≤ 5 := by
 unfold readOf
 split
 ·simp
 ·split
  ·simp
  ·split
   ·rename_i h
    have := rangeOf_kind h
    simp only at this ⊢
    omega
   ·split
    ·rename_i h
     have := rangeOf_kind h
     simp only at this ⊢
     omega
    ·simp
def BookRead (s : ByteArray) (w : World) (e : Ending) (w' : World) : Prop :=
 ∃ (a : ByteArray) (p : Int) (g : Option Addr) (l c : Nat) (k : Int) (a' : ByteArray) (p' : Int) (g' : Option Addr) (l' c' : Nat),
  e = .returned (.tuple #[.agg #[.string a, .int .i64 p, .slice g l c, .int .i64 k, .string a', .int .i64 p', .slice g' l' c'], .int .i64 (errOf (readOf s).2.1), .int .i64 (readOf s).2.2]) ∧
  Upd [] w w' ∧
  ∀ x, (readOf s).1 = some x → IsSnt w' (fun k => w.heap.size ≤ k) (fuelOf s) (.string a, .int .i64 p, .slice g l c) k (.string a', .int .i64 p', .slice g' l' c') x
set_option maxHeartbeats 2000000 in
set_option maxRecDepth 100000 in
theorem bookRead_any (s : ByteArray) (w : World) (bb : Nat) (hmax : s.size ≤ maxLen) (hs : w.cell? ⟨bb, 0, none⟩ = some (.pointer (some ⟨bb, 0, none⟩))) (hE : ErrTab w) :
  Calls Tryz.prog 54 #[.pointer (some ⟨bb, 0, none⟩), .string s] w (BookRead s w) := by
 obtain ⟨W1, hW1⟩ : ∃ W1, W1 = w.alloc (.cells zero7 101) := ⟨_, rfl⟩
 have U1 : Upd [] w W1 := hW1 ▸ (Upd.refl [] w).alloc _
 have hsl : bb < w.heap.size := World.block_lt_of_cell? _ _ hs
 have HCl := hide (closed_made bb W1 ((U1.cell (p := ⟨bb, 0, none⟩) hsl (by simp)).trans hs))
 have HRd := hide (read_any s W1 hmax)
 have HK := hide (readOf_kind s)
 subst hW1
 go_enter Tryz.func54, Tryz.ntmps54
 go_wp2_with (first
  | (go_at_call 44; refine HCl.out.mono ?_; rintro e w2 ⟨rfl, hw2⟩; rw [hw2]; clear hw2 w2)
  | (go_at_call 93; refine HRd.out.mono ?_; rintro e w2 ⟨a, p, g, l, c, k, a', p', g', l', c', rfl, hb2, hx2⟩; have Hb2 := hide hb2; have Hx2 := hide hx2; clear hb2 hx2))
 have hU2 : Upd [] w w2 := (((Upd.refl [] w).alloc _)).trans (Upd.of_below Hb2.out)
 have hs2 := hU2.size
 have hs2' : w.heap.size < w2.heap.size := by have := Hb2.out.size; simp at this; omega
 obtain ⟨W3, hW3⟩ : ∃ W3, W3 = w2.alloc (.cells #[.string a, .int .i64 p, .slice g l c, .int .i64 k, .string a', .int .i64 p', .slice g' l' c'] 101) := ⟨_, rfl⟩
 rw [← hW3]
 have U3 : Upd [] w2 W3 := hW3 ▸ (Upd.refl [] w2).alloc _
 have e0 : W3.cell? ⟨w2.heap.size, 0, none⟩ = some (.string a) := by rw [hW3]; go_simp
 have e1 : W3.cell? ⟨w2.heap.size, 1, none⟩ = some (.int .i64 p) := by rw [hW3]; go_simp
 have e2 : W3.cell? ⟨w2.heap.size, 2, none⟩ = some (.slice g l c) := by rw [hW3]; go_simp
 have e3 : W3.cell? ⟨w2.heap.size, 3, none⟩ = some (.int .i64 k) := by rw [hW3]; go_simp
 have e4 : W3.cell? ⟨w2.heap.size, 4, none⟩ = some (.string a') := by rw [hW3]; go_simp
 have e5 : W3.cell? ⟨w2.heap.size, 5, none⟩ = some (.int .i64 p') := by rw [hW3]; go_simp
 have e6 : W3.cell? ⟨w2.heap.size, 6, none⟩ = some (.slice g' l' c') := by rw [hW3]; go_simp
 have hb7 := (((Box7.new w 101).later (Upd.of_below (L := []) Hb2.out) (by simp)).later U3 (by simp))
 obtain ⟨d0, d1, d2, d3, d4, d5, d6⟩ := hb7.cells
 have df := hb7.free
 obtain ⟨i, hi, hi5⟩ : ∃ i : Nat, (readOf s).2.1 = (i : Int) ∧ i ≤ 5 := ⟨(readOf s).2.1.toNat, by have := HK.out; omega, by have := HK.out; omega⟩
 have Hi := hide hi
 have HX := hide Hx2.out
 have hErr := (hE.later hU2 (by simp)).later U3 (by simp)
 have ht : W3.cell? ⟨0, i, none⟩ = some (.int .i64 (errZ.getD i 0)) := hErr.2 i (by omega)
 have hErrOf : Hid (errOf (readOf s).2.1 = errZ.getD i 0) := by show _ = _; unfold errOf; rw [hi]; rfl
 have hw0 : w.heap.size ≠ 0 := by have := hE.1; omega
 have hw20 : w2.heap.size ≠ 0 := by omega
 have hww : w.heap.size ≠ w2.heap.size := by omega
 have hi6 : (i : Int) < 6 := by omega
 have HU := hide (hU2.trans U3)
 have HU3 := hide U3
 rw [hi]
 generalize errZ.getD i 0 = er at *
 clear hb7 hU2 U3 hErr hi Hx2 hW3 hE HCl HRd HK U1
 go_region
 go_wp2
 refine bodyPost_ret (v := .tuple #[.agg #[.string a, .int .i64 p, .slice g l c, .int .i64 k, .string a', .int .i64 p', .slice g' l' c'], .int .i64 er, .int .i64 (readOf s).2.2]) (by simp [results, Tryz.results54, go_sem, d0, d1, d2, d3, d4, d5, d6]) rfl ?_
 have U7 := (upd7 W3 w.heap.size (.string a) (.int .i64 p) (.slice g l c) (.int .i64 k) (.string a') (.int .i64 p') (.slice g' l' c')).drew
 refine ⟨a, p, g, l, c, k, a', p', g', l', c', by rw [hErrOf.out], HU.out.trans' U7 (fun x hx hlt => by simp at hx; omega), fun x hx => ?_⟩
 obtain ⟨h1, h2, h3⟩ := HX.out x hx
 have hk : ∀ k, (w.alloc (.cells zero7 101)).heap.size ≤ k → k ∉ [w.heap.size] := fun k hk hm => by simp at hk hm; omega
 exact ⟨((h1.later HU3.out (fun _ _ => by simp)).later U7 hk).mono (fun k hk _ => by simp at hk; omega), h2, ((h3.later HU3.out (fun _ _ => by simp)).later U7 hk).mono (fun k hk _ => by simp at hk; omega)⟩
end Go.Proofs.YtmfkpllnmmfpiaaGreatDoor

namespace Go.Proofs.YtmfkpllnmmfpiaaGreatDoor
open Go.RowKit
def followsOf (S : WS) (s : ByteArray) : Bool × Int × Nat :=
 match (readOf s).1 with
 | some x => (followsM S x, 0, 0)
 | none => (false, errOf (readOf s).2.1, (readOf s).2.2)
theorem WebAt.book {w w' : World} {bb wb : Nat} {H H' : Hd} {Z : Nat → Prop} {S : WS} (h : BookAt w bb Z S) (hc : w.cell? ⟨bb, 1, none⟩ = some (.pointer (some ⟨wb, 0, none⟩))) (hH : ∀ k ∈ H.blocks wb, Z k ∧ k ≠ bb) (U : Upd (H.blocks wb) w w') {T : WS} (hw : WebAt w' wb H' (fun k => (Z k ∧ k ≠ bb) ∨ w.heap.size ≤ k) T) (hf : Fine T) (ht : T.shapes.length ≤ 100) (hs : T.said.length ≤ 40) :
  BookAt w' bb (fun k => (Z k ∨ w.heap.size ≤ k) ∧ k < w'.heap.size) T := by
 have hb : bb ∉ H.blocks wb := fun hm => (hH bb hm).2 rfl
 have hlt := h.lt
 refine ⟨Nat.lt_of_lt_of_le h.lt U.size, (U.cell (p := ⟨bb, 0, none⟩) h.lt hb).trans h.self, ⟨wb, H', (U.cell (p := ⟨bb, 1, none⟩) h.lt hb).trans hc, hw.mono (fun k hk hl => ?_)⟩, ⟨.inl h.own, Nat.lt_of_lt_of_le h.lt U.size⟩, fun k hk => hk.2, hf, ht, hs⟩
 rcases hk with hk | hk
 ·exact ⟨⟨.inl hk.1, hl⟩, hk.2⟩
 ·exact ⟨⟨.inr hk, hl⟩, by omega⟩
theorem readOf_bad {s : ByteArray} (h : (readOf s).1 = none) : 1 ≤ (readOf s).2.1 ∧ (readOf s).2.1 ≤ 5 := by
 revert h
 unfold readOf
 split
 ·simp
 ·split
  ·simp
  ·split
   ·rename_i h
    have := rangeOf_kind h
    intro _
    simp only at this ⊢
    omega
   ·split
    ·rename_i h
     have := rangeOf_kind h
     intro _
     simp only at this ⊢
     omega
    ·simp
theorem errOf_ne {s : ByteArray} (h : (readOf s).1 = none) : (errOf (readOf s).2.1 != 0) = true := by
 have h1 := readOf_bad h
 generalize (readOf s).2.1 = f at *
 obtain ⟨i, rfl⟩ : ∃ i : Nat, f = (i : Int) := ⟨f.toNat, by omega⟩
 have h2 : 1 ≤ i := by omega
 have h3 : i ≤ 5 := by omega
 clear h1
 match i, h2, h3 with
 | 1, _, _ => rfl
 | 2, _, _ => rfl
 | 3, _, _ => rfl
 | 4, _, _ => rfl
 | 5, _, _ => rfl
 | i + 6, _, h3 => omega
theorem BookAt.wider {w w' : World} {bb : Nat} {Z : Nat → Prop} {S : WS} (h : BookAt w bb Z S) (U : Upd [] w w') : BookAt w' bb (fun k => (Z k ∨ w.heap.size ≤ k) ∧ k < w'.heap.size) S := by
 have h1 := h.later U (fun _ _ => by simp)
 obtain ⟨wb, H, hc, hw⟩ := h1.ex
 exact ⟨h1.lt, h1.self, ⟨wb, H, hc, hw.mono (fun k hk hl => ⟨⟨.inl hk.1, hl⟩, hk.2⟩)⟩, ⟨.inl h.own, h1.lt⟩, fun k hk => hk.2, h.fine, h.terms, h.saids⟩
theorem bookRead_fine (s : ByteArray) (w : World) (bb : Nat) (hmax : s.size ≤ maxLen) (hs : w.cell? ⟨bb, 0, none⟩ = some (.pointer (some ⟨bb, 0, none⟩))) (hE : ErrTab w) {x : Snt (fuelOf s)} (hx : (readOf s).1 = some x) :
  Calls Tryz.prog 54 #[.pointer (some ⟨bb, 0, none⟩), .string s] w fun e w' => ∃ (a : ByteArray) (p : Int) (g : Option Addr) (l c : Nat) (k : Int) (a' : ByteArray) (p' : Int) (g' : Option Addr) (l' c' : Nat),
   e = .returned (.tuple #[.agg #[.string a, .int .i64 p, .slice g l c, .int .i64 k, .string a', .int .i64 p', .slice g' l' c'], .int .i64 0, .int .i64 0]) ∧ Upd [] w w' ∧ IsSnt w' (fun k => w.heap.size ≤ k) (fuelOf s) (.string a, .int .i64 p, .slice g l c) k (.string a', .int .i64 p', .slice g' l' c') x := by
 refine (bookRead_any s w bb hmax hs hE).mono ?_
 rintro e w2 ⟨a, p, g, l, c, k, a', p', g', l', c', rfl, hu, hx2⟩
 have h1 := (readOf_small hx).2.2
 refine ⟨a, p, g, l, c, k, a', p', g', l', c', ?_, hu, hx2 x hx⟩
 rw [h1]
 rfl
set_option maxHeartbeats 4000000 in
set_option maxRecDepth 100000 in
theorem follows_any (s : ByteArray) (w : World) (bb : Nat) (Z : Nat → Prop) (S : WS) (hmax : s.size ≤ maxLen) (h : BookAt w bb Z S) (hE : ErrTab w) :
  Calls Tryz.prog 26 #[.pointer (some ⟨bb, 0, none⟩), .string s] w fun e w' => e = .returned (.tuple #[.bool (followsOf S s).1, .int .i64 (followsOf S s).2.1, .int .i64 (followsOf S s).2.2]) ∧ BookAt w' bb (fun k => (Z k ∨ w.heap.size ≤ k) ∧ k < w'.heap.size) S ∧ ∃ L, (∀ k ∈ L, Z k) ∧ Upd L w w' := by
 cases hr : (readOf s).1 with
 | none =>
  have HRd := hide (bookRead_any s w bb hmax h.self hE)
  have HF : Hid (followsOf S s = (false, errOf (readOf s).2.1, (readOf s).2.2)) := by show _ = _; unfold followsOf; rw [hr]
  have HB := hide (fun (w' : World) (U : Upd [] w w') => h.wider U)
  have hne : (errOf (readOf s).2.1 != 0) = true := errOf_ne hr
  clear h hE hr
  go_enter Tryz.func26, Tryz.ntmps26
  go_wp2_with (go_at_call 54; refine HRd.out.mono ?_; rintro e w2 ⟨a, p, g, l, c, k, a', p', g', l', c', rfl, hu2, _⟩; have Hu2 := hide hu2; clear hu2)
  go_ret3
  have U := Hu2.out.alloc (.cells #[.string a, .int .i64 p, .slice g l c, .int .i64 k, .string a', .int .i64 p', .slice g' l' c'] 101)
  exact ⟨by rw [HF.out]; rfl, HB.out _ U, [], fun k hk => (by cases hk), U⟩
 | some x =>
  obtain ⟨hnar, hsz, _⟩ := readOf_small hr
  have HF : Hid (followsOf S s = (followsM S x, 0, 0)) := by show _ = _; unfold followsOf; rw [hr]
  have HRd := hide (bookRead_fine s w bb hmax h.self hE hr)
  obtain ⟨wb, H, hc1, hw⟩ := h.ex
  have hlt := h.lt
  have ht := h.terms
  have hs := h.saids
  have Hh := hide h
  have Hw := hide hw
  have HC := hide (fun (w2 : World) (X : Obj) (hu : Upd [] w w2) a p g l c k a' p' g' l' c' (hx2 : IsSnt w2 (fun k => w.heap.size ≤ k) (fuelOf s) (.string a, .int .i64 p, .slice g l c) k (.string a', .int .i64 p', .slice g' l' c') x) =>
   webFollows_any (w2.alloc X).drew wb (fuelOf s) H (fun k => Z k ∧ k ≠ bb) (fun k => w.heap.size ≤ k) S (.string a, .int .i64 p, .slice g l c) (.string a', .int .i64 p', .slice g' l' c') k x (hw.later (hu.alloc X).drew (fun _ _ => by simp))
    ⟨hx2.1.later ((Upd.refl [] w2).alloc X).drew (fun _ _ => by simp), hx2.2.1, hx2.2.2.later ((Upd.refl [] w2).alloc X).drew (fun _ _ => by simp)⟩ (fun k hk hz => by have := h.low k hz.1; omega) (fun k hk => Nat.lt_of_lt_of_le (h.low k hk.1) (hu.alloc X).size) h.fine hnar (by omega) (by omega))
  have HN := hide hnar
  clear h hE hr hw hnar
  go_enter Tryz.func26, Tryz.ntmps26
  go_wp2_with (go_at_call 54; refine HRd.out.mono ?_; rintro e w2 ⟨a, p, g, l, c, k, a', p', g', l', c', rfl, hu2, hx2⟩; have Hu2 := hide hu2; have Hx2 := hide hx2; clear hu2 hx2)
  have U := Hu2.out.alloc (.cells #[.string a, .int .i64 p, .slice g l c, .int .i64 k, .string a', .int .i64 p', .slice g' l' c'] 101)
  have c1 := (U.cell (p := ⟨bb, 1, none⟩) hlt (by simp)).trans hc1
  have HU := hide U
  clear U
  go_region_with (go_at_call 60; refine (HC.out w2 _ Hu2.out a p g l c k a' p' g' l' c' Hx2.out).mono ?_; rintro e w3 ⟨rfl, H3, hw3, hu3, hH3⟩; have Hw3 := hide hw3; have Hu3 := hide hu3; have HH3 := hide hH3; clear hw3 hu3 hH3)
  all_goals (
   go_wp2
   go_ret3
   have U3 := (HU.out.drew.mono (L' := H.blocks wb) (fun x hx _ => by cases hx)).trans Hu3.out
   have s2 := HU.out.size
   refine ⟨by rw [HF.out]; rfl, ?_, H.blocks wb, fun k hk => (Hw.out.inZ k hk).1, U3⟩
   exact WebAt.book Hh.out hc1 Hw.out.inZ U3 (Hw3.out.mono (fun k hk _ => hk.imp id (fun h => Nat.le_trans s2 h))) Hh.out.fine ht hs)
set_option maxHeartbeats 1000000 in
set_option maxRecDepth 100000 in
theorem clash_any (w : World) (bb : Nat) (Z : Nat → Prop) (S : WS) (h : BookAt w bb Z S) :
  Calls Tryz.prog 16 #[.pointer (some ⟨bb, 0, none⟩)] w fun e w' => e = .returned (.bool (clashM S)) ∧ Upd [] w w' := by
 obtain ⟨wb, H, hc1, hw⟩ := h.ex
 have HCl := hide (closed_made bb w h.self)
 have HC := hide (webClash_any w wb H _ S hw h.fine.web.base.saidLt (by have := h.saids; omega))
 clear h hw
 go_enter Tryz.func16, Tryz.ntmps16
 go_wp2_with (first
  | (go_at_call 44; refine HCl.out.mono ?_; rintro e w2 ⟨rfl, hw2⟩; rw [hw2]; clear hw2 w2)
  | (go_at_call 45; refine HC.out.mono ?_; rintro e w3 ⟨rfl, hu3⟩; have Hu3 := hide hu3; clear hu3))
 go_ret
 exact ⟨rfl, Hu3.out⟩
end Go.Proofs.YtmfkpllnmmfpiaaGreatDoor

namespace Go.Proofs.YtmfkpllnmmfpiaaGreatDoor
open Go.RowKit
def sayOf (S : WS) (s : ByteArray) : (Nat × Int × Nat) × WS :=
 match (readOf s).1 with
 | none => ((0, errOf (readOf s).2.1, (readOf s).2.2), S)
 | some x => if 40 ≤ S.said.length then ((0, 4, 0), S) else if 100 < (sayM S x).shapes.length then ((0, 4, 0), S) else ((S.said.length, 0, 0), sayM S x)
set_option maxHeartbeats 4000000 in
set_option maxRecDepth 100000 in
theorem say_any (s : ByteArray) (w : World) (bb : Nat) (Z : Nat → Prop) (S : WS) (hmax : s.size ≤ maxLen) (h : BookAt w bb Z S) (hE : ErrTab w) :
  Calls Tryz.prog 25 #[.pointer (some ⟨bb, 0, none⟩), .string s] w fun e w' => e = .returned (.tuple #[.int .i64 (sayOf S s).1.1, .int .i64 (sayOf S s).1.2.1, .int .i64 (sayOf S s).1.2.2]) ∧ BookAt w' bb (fun k => (Z k ∨ w.heap.size ≤ k) ∧ k < w'.heap.size) (sayOf S s).2 ∧ ∃ L, (∀ k ∈ L, Z k) ∧ Upd L w w' := by
 cases hr : (readOf s).1 with
 | none =>
  have HRd := hide (bookRead_any s w bb hmax h.self hE)
  have HF : Hid (sayOf S s = ((0, errOf (readOf s).2.1, (readOf s).2.2), S)) := by show _ = _; unfold sayOf; rw [hr]
  have HB := hide (fun (w' : World) (U : Upd [] w w') => h.wider U)
  have hne : (errOf (readOf s).2.1 != 0) = true := errOf_ne hr
  clear h hE hr
  go_enter Tryz.func25, Tryz.ntmps25
  go_wp2_with (go_at_call 54; refine HRd.out.mono ?_; rintro e w2 ⟨a, p, g, l, c, k, a', p', g', l', c', rfl, hu2, _⟩; have Hu2 := hide hu2; clear hu2)
  go_ret3
  have U := Hu2.out.alloc (.cells #[.string a, .int .i64 p, .slice g l c, .int .i64 k, .string a', .int .i64 p', .slice g' l' c'] 101)
  exact ⟨by rw [HF.out]; rfl, by rw [HF.out]; exact HB.out _ U, [], fun k hk => (by cases hk), U⟩
 | some x =>
  obtain ⟨hnar, hsz, _⟩ := readOf_small hr
  have HRd := hide (bookRead_fine s w bb hmax h.self hE hr)
  obtain ⟨wb, H, hc1, hw⟩ := h.ex
  have hlt := h.lt
  have ht := h.terms
  have hs := h.saids
  have E := sayM_end h.fine.web hnar (by omega)
  have hEl := E.len
  obtain ⟨_, _, _, _, hEs⟩ := E.said
  have hEs' : (sayM S x).said.length = S.said.length + 1 := by rw [hEs]; simp
  have hE3 := ((⟨E.web, E.pot h.fine.pot⟩ : Fine (sayM S x)).trail (by omega) (by omega)).1
  have Hh := hide h
  have Hw := hide hw
  have HB := hide (fun (w' : World) (U : Upd [] w w') => h.wider U)
  have HbbN : Hid (bb ∉ H.blocks wb) := fun hm => (hw.inZ bb hm).2 rfl
  have HC := hide (fun (w2 : World) (X : Obj) (nq : Nat) (hu : Upd [] w w2) a p g l c k a' p' g' l' c' (hx2 : IsSnt w2 (fun k => w.heap.size ≤ k) (fuelOf s) (.string a, .int .i64 p, .slice g l c) k (.string a', .int .i64 p', .slice g' l' c') x) =>
   webSay_any ((w2.alloc X).drewN nq).drew wb (fuelOf s) H (fun k => Z k ∧ k ≠ bb) (fun k => w.heap.size ≤ k) S (.string a, .int .i64 p, .slice g l c) (.string a', .int .i64 p', .slice g' l' c') k x (hw.later ((hu.alloc X).drewN nq).drew (fun _ _ => by simp))
    ⟨hx2.1.later (((Upd.refl [] w2).alloc X).drewN nq).drew (fun _ _ => by simp), hx2.2.1, hx2.2.2.later (((Upd.refl [] w2).alloc X).drewN nq).drew (fun _ _ => by simp)⟩ (fun k hk hz => by have := h.low k hz.1; omega) (fun k hk => Nat.lt_of_lt_of_le (h.low k hk.1) (hu.alloc X).size) h.fine hnar (by omega) (by omega))
  have HSd := hide (fun (w2 : World) (X : Obj) (nq : Nat) (hu : Upd [] w w2) => sayings_any ((w2.alloc X).drewN nq) wb H _ S (hw.later ((hu.alloc X).drewN nq) (fun _ _ => by simp)))
  have HHe := hide (fun (w2 : World) (X : Obj) (nq : Nat) (hu : Upd [] w w2) => here_any ((w2.alloc X).drewN nq) wb H _ S (hw.later ((hu.alloc X).drewN nq) (fun _ _ => by simp)))
  have HTm := hide (fun (w3 : World) (H3 : Hd) (Z3 : Nat → Prop) (hw3 : WebAt w3 wb H3 Z3 (sayM S x)) => terms_any w3 wb H3 Z3 (sayM S x) hw3)
  have HBk := hide (fun (w3 : World) (H3 : Hd) (Z3 : Nat → Prop) (hw3 : WebAt w3 wb H3 Z3 (sayM S x)) => backTo_any w3 wb H3 Z3 (sayM S x) S hw3 (E.goes S (Goes.refl S)) (by omega))
  have Hfine : Hid (Fine (sayM S x)) := ⟨E.web, E.pot h.fine.pot⟩
  have HsaidL := hide hEs'
  have HF : Hid (sayOf S s = if 40 ≤ S.said.length then ((0, 4, 0), S) else if 100 < (sayM S x).shapes.length then ((0, 4, 0), S) else ((S.said.length, 0, 0), sayM S x)) := by show _ = _; unfold sayOf; rw [hr]
  clear h hE hr hw hnar E hEs hEs' hEl hE3
  generalize sayM S x = T at *
  by_cases h40 : 40 ≤ S.said.length
  ·have h40' : (40 : Int) ≤ (S.said.length : Int) := by omega
   rw [if_pos h40] at HF
   clear h40
   go_enter Tryz.func25, Tryz.ntmps25
   go_wp2_with (go_at_call 54; refine HRd.out.mono ?_; rintro e w2 ⟨a, p, g, l, c, k, a', p', g', l', c', rfl, hu2, hx2⟩; have Hu2 := hide hu2; have Hx2 := hide hx2; clear hu2 hx2)
   have U := Hu2.out.alloc (.cells #[.string a, .int .i64 p, .slice g l c, .int .i64 k, .string a', .int .i64 p', .slice g' l' c'] 101)
   have c1 := (U.cell (p := ⟨bb, 1, none⟩) hlt (by simp)).trans hc1
   have HU := hide U
   clear U
   go_quiet (first | (go_at_call 55; exact Calls.quiet_of_same (HSd.out w2 _ _ Hu2.out)) | (go_at_call 56; exact Calls.quiet_of_same (HHe.out w2 _ _ Hu2.out)))
   go_wp2
   go_ret3
   exact ⟨by rw [HF.out]; rfl, by rw [HF.out]; exact HB.out _ (HU.out.drewN nq), [], fun k hk => (by cases hk), HU.out.drewN nq⟩
  ·have h40' : ¬ (40 : Int) ≤ (S.said.length : Int) := by omega
   have h40n : S.said.length < 40 := by omega
   rw [if_neg h40] at HF
   clear h40
   by_cases h100 : 100 < T.shapes.length
   ·have h100' : (100 : Int) < (T.shapes.length : Int) := by omega
    rw [if_pos h100] at HF
    clear h100
    go_enter Tryz.func25, Tryz.ntmps25
    go_wp2_with (go_at_call 54; refine HRd.out.mono ?_; rintro e w2 ⟨a, p, g, l, c, k, a', p', g', l', c', rfl, hu2, hx2⟩; have Hu2 := hide hu2; have Hx2 := hide hx2; clear hu2 hx2)
    have U := Hu2.out.alloc (.cells #[.string a, .int .i64 p, .slice g l c, .int .i64 k, .string a', .int .i64 p', .slice g' l' c'] 101)
    have c1 := (U.cell (p := ⟨bb, 1, none⟩) hlt (by simp)).trans hc1
    have HU := hide U
    clear U
    go_quiet (first | (go_at_call 55; exact Calls.quiet_of_same (HSd.out w2 _ _ Hu2.out)) | (go_at_call 56; exact Calls.quiet_of_same (HHe.out w2 _ _ Hu2.out)))
    go_wp2
    obtain ⟨W3, hW3⟩ : ∃ W3, W3 = w2.alloc (.cells #[.string a, .int .i64 p, .slice g l c, .int .i64 k, .string a', .int .i64 p', .slice g' l' c'] 101) := ⟨_, rfl⟩
    have e0 : W3.cell? ⟨w2.heap.size, 0, none⟩ = some (.string a) := by rw [hW3]; go_simp
    have e1 : W3.cell? ⟨w2.heap.size, 1, none⟩ = some (.int .i64 p) := by rw [hW3]; go_simp
    have e2 : W3.cell? ⟨w2.heap.size, 2, none⟩ = some (.slice g l c) := by rw [hW3]; go_simp
    have e3 : W3.cell? ⟨w2.heap.size, 3, none⟩ = some (.int .i64 k) := by rw [hW3]; go_simp
    have e4 : W3.cell? ⟨w2.heap.size, 4, none⟩ = some (.string a') := by rw [hW3]; go_simp
    have e5 : W3.cell? ⟨w2.heap.size, 5, none⟩ = some (.int .i64 p') := by rw [hW3]; go_simp
    have e6 : W3.cell? ⟨w2.heap.size, 6, none⟩ = some (.slice g' l' c') := by rw [hW3]; go_simp
    rw [← hW3] at c1 HU ⊢
    have HC3 := hide (HC.out w2 (.cells #[.string a, .int .i64 p, .slice g l c, .int .i64 k, .string a', .int .i64 p', .slice g' l' c'] 101) nq Hu2.out a p g l c k a' p' g' l' c' Hx2.out)
    rw [← hW3] at HC3
    clear hW3
    go_region_with (go_at_call 57; refine HC3.out.mono ?_; rintro e w3 ⟨H3, rfl, hw3, hu3, hH3⟩; have c3 := (hu3.cell (p := ⟨bb, 1, none⟩) (Nat.lt_of_lt_of_le hlt HU.out.size) HbbN.out).trans c1; have Hw3 := hide hw3; have Hu3 := hide hu3; have HH3 := hide hH3; clear hw3 hu3 hH3)
    all_goals (
     go_wp2_with (first
      | (go_at_call 58; refine (HTm.out w3 H3 _ Hw3.out).mono ?_; rintro e w4 ⟨rfl, hw4⟩; rw [hw4]; clear hw4 w4)
      | (go_at_call 59; refine (HBk.out w3 H3 _ Hw3.out).mono ?_; rintro e w5 ⟨rfl, H5, hw5, hu5, hH5⟩; have Hw5 := hide hw5; have Hu5 := hide hu5; have HH5 := hide hH5; clear hw5 hu5 hH5))
     go_ret3
     have U3 := ((HU.out.drewN nq).drew.mono (L' := H.blocks wb) (fun x hx _ => by cases hx)).trans Hu3.out
     have s2 := HU.out.size
     have U5 := U3.trans' Hu5.out (fun k hk hl => by
      rcases HH3.out k hk with h1 | h1
      ·exact h1
      ·exact absurd (Nat.le_trans s2 h1) (by omega))
     refine ⟨by rw [HF.out]; rfl, by rw [HF.out]; exact WebAt.book Hh.out hc1 Hw.out.inZ U5 (Hw5.out.mono (fun k hk _ => hk.imp id (fun h => Nat.le_trans s2 h))) Hh.out.fine ht hs, H.blocks wb, fun k hk => (Hw.out.inZ k hk).1, U5⟩)

   ·have h100' : ¬ (100 : Int) < (T.shapes.length : Int) := by omega
    have h100n : T.shapes.length ≤ 100 := by omega
    rw [if_neg h100] at HF
    clear h100
    go_enter Tryz.func25, Tryz.ntmps25
    go_wp2_with (go_at_call 54; refine HRd.out.mono ?_; rintro e w2 ⟨a, p, g, l, c, k, a', p', g', l', c', rfl, hu2, hx2⟩; have Hu2 := hide hu2; have Hx2 := hide hx2; clear hu2 hx2)
    have U := Hu2.out.alloc (.cells #[.string a, .int .i64 p, .slice g l c, .int .i64 k, .string a', .int .i64 p', .slice g' l' c'] 101)
    have c1 := (U.cell (p := ⟨bb, 1, none⟩) hlt (by simp)).trans hc1
    have HU := hide U
    clear U
    go_quiet (first | (go_at_call 55; exact Calls.quiet_of_same (HSd.out w2 _ _ Hu2.out)) | (go_at_call 56; exact Calls.quiet_of_same (HHe.out w2 _ _ Hu2.out)))
    go_wp2
    obtain ⟨W3, hW3⟩ : ∃ W3, W3 = w2.alloc (.cells #[.string a, .int .i64 p, .slice g l c, .int .i64 k, .string a', .int .i64 p', .slice g' l' c'] 101) := ⟨_, rfl⟩
    have e0 : W3.cell? ⟨w2.heap.size, 0, none⟩ = some (.string a) := by rw [hW3]; go_simp
    have e1 : W3.cell? ⟨w2.heap.size, 1, none⟩ = some (.int .i64 p) := by rw [hW3]; go_simp
    have e2 : W3.cell? ⟨w2.heap.size, 2, none⟩ = some (.slice g l c) := by rw [hW3]; go_simp
    have e3 : W3.cell? ⟨w2.heap.size, 3, none⟩ = some (.int .i64 k) := by rw [hW3]; go_simp
    have e4 : W3.cell? ⟨w2.heap.size, 4, none⟩ = some (.string a') := by rw [hW3]; go_simp
    have e5 : W3.cell? ⟨w2.heap.size, 5, none⟩ = some (.int .i64 p') := by rw [hW3]; go_simp
    have e6 : W3.cell? ⟨w2.heap.size, 6, none⟩ = some (.slice g' l' c') := by rw [hW3]; go_simp
    rw [← hW3] at c1 HU ⊢
    have HC3 := hide (HC.out w2 (.cells #[.string a, .int .i64 p, .slice g l c, .int .i64 k, .string a', .int .i64 p', .slice g' l' c'] 101) nq Hu2.out a p g l c k a' p' g' l' c' Hx2.out)
    rw [← hW3] at HC3
    clear hW3
    go_region_with (go_at_call 57; refine HC3.out.mono ?_; rintro e w3 ⟨H3, rfl, hw3, hu3, hH3⟩; have c3 := (hu3.cell (p := ⟨bb, 1, none⟩) (Nat.lt_of_lt_of_le hlt HU.out.size) HbbN.out).trans c1; have Hw3 := hide hw3; have Hu3 := hide hu3; have HH3 := hide hH3; clear hw3 hu3 hH3)
    all_goals (
     go_wp2_with (go_at_call 58; refine (HTm.out w3 H3 _ Hw3.out).mono ?_; rintro e w4 ⟨rfl, hw4⟩; rw [hw4]; clear hw4 w4)
     go_ret3
     have U3 := ((HU.out.drewN nq).drew.mono (L' := H.blocks wb) (fun x hx _ => by cases hx)).trans Hu3.out
     have s2 := HU.out.size
     refine ⟨by rw [HF.out]; rfl, by rw [HF.out]; exact WebAt.book Hh.out hc1 Hw.out.inZ U3 (Hw3.out.mono (fun k hk _ => hk.imp id (fun h => Nat.le_trans s2 h))) Hfine.out (by omega) (by rw [HsaidL.out]; omega), H.blocks wb, fun k hk => (Hw.out.inZ k hk).1, U3⟩)
end Go.Proofs.YtmfkpllnmmfpiaaGreatDoor

namespace Go.Proofs.YtmfkpllnmmfpiaaGreatDoor
open Go.RowKit
theorem undo1_marks (S : WS) (u : Un) : (undo1 S u).marks = S.marks := by
 unfold undo1
 repeat' split
 all_goals rfl
theorem CanBack.marks : ∀ {n : Nat} {S S0 : WS}, CanBack n S S0 → S.marks = S0.marks
 | 0, _, _, h => by have e : _ = _ := h; rw [e]
 | n + 1, S, S0, ⟨us, u, _, _, hc⟩ => by
  have h1 := CanBack.marks hc
  rw [undo1_marks] at h1
  exact h1
theorem Goes.marks {S0 S : WS} (h : Goes S0 S) : S.marks = S0.marks := by
 obtain ⟨n, _, hc⟩ := h
 exact hc.marks
end Go.Proofs.YtmfkpllnmmfpiaaGreatDoor

namespace Go.Proofs.YtmfkpllnmmfpiaaGreatDoor
open Go.RowKit
theorem Fine.marks {S : WS} (h : Fine S) (m : List Nat) : Fine { S with marks := m } := by
 have hr : ∀ k, reps { S with marks := m } k = reps S k := fun k => reps_congr k fun _ _ => Iff.rfl
 refine ⟨⟨⟨⟨h.web.base.inv.len, h.web.base.inv.nums, h.web.base.inv.cl, h.web.base.inv.al, h.web.base.inv.nu⟩, h.web.base.good, h.web.base.num, h.web.base.rep, h.web.base.saidLt, fun R hR => h.web.base.cls R ⟨hR.refl, hR.symm, hR.trans, hR.said, hR.cong⟩, fun R hR => h.web.base.alk R ⟨hR.refl, hR.symm, hR.trans, hR.said, hR.cong⟩⟩, h.web.eqs, fun i s hi => ?_⟩, ⟨?_, ?_⟩⟩
 ·rw [key_same (S := { S with marks := m }) (T := S) rfl]
  exact h.web.stable i s hi
 ·rw [hr]
  exact h.pot.trail
 ·rw [hr]
  exact h.pot.files
end Go.Proofs.YtmfkpllnmmfpiaaGreatDoor
