/-
  A Book in memory; New.
-/
import Derived.Test.YtmfkpllnmmfpiaaGreatDoorWithH
import Derived.Test.YtmfkpllnmmfpiaaGreatDoorReadSizeH
import Derived.Test.YtmfkpllnmmfpiaaGreatDoorReadH
import Derived.LaidEql
namespace Go.Proofs.YtmfkpllnmmfpiaaGreatDoor
open Go.RowKit

def noWS : WS := ⟨[], fun _ => none, [], fun _ => none, [], [], 0, 0, []⟩
theorem noWS_fine : Fine noWS := by
  have hI : Inv noWS := ⟨rfl, rfl, fun c hc => (nomatch hc), fun s t h => (nomatch h), fun s t h => (nomatch h)⟩
  have hB : Base noWS := ⟨hI, fun i s h => (by simp [noWS] at h), fun s i => (by simp [noWS]), fun i hi => (by simp [noWS] at hi), fun x hx => (nomatch hx), fun R _ i hi => (by simp [noWS] at hi), fun R _ k t h => (nomatch h)⟩
  exact ⟨⟨hB, fun x hx => (nomatch hx), fun i s h => (by simp [noWS] at h)⟩, ⟨Nat.le_refl _, Nat.le_refl _⟩⟩

/-- The Book in block bb is S; all that belongs to it lies in blocks of the set Z. -/
structure BookAt (w : World) (bb : Nat) (Z : Nat → Prop) (S : WS) : Prop where
  lt : bb < w.heap.size
  self : w.cell? ⟨bb, 0, none⟩ = some (.pointer (some ⟨bb, 0, none⟩))
  ex : ∃ wb H, w.cell? ⟨bb, 1, none⟩ = some (.pointer (some ⟨wb, 0, none⟩)) ∧ WebAt w wb H (fun k => Z k ∧ k ≠ bb) S
  own : Z bb
  low : ∀ k, Z k → k < w.heap.size
  fine : Fine S
  terms : S.shapes.length ≤ 100
  saids : S.said.length ≤ 40
theorem BookAt.later {w w' : World} {L : List Nat} {bb : Nat} {Z : Nat → Prop} {S : WS} (h : BookAt w bb Z S) (U : Upd L w w') (hL : ∀ k, Z k → k ∉ L) : BookAt w' bb Z S := by
  obtain ⟨wb, H, hc, hw⟩ := h.ex
  have hb := hL bb h.own
  exact ⟨Nat.lt_of_lt_of_le h.lt U.size, (U.cell (p := ⟨bb, 0, none⟩) h.lt hb).trans h.self, ⟨wb, H, (U.cell (p := ⟨bb, 1, none⟩) h.lt hb).trans hc, hw.later U (fun k hk => hL k hk.1)⟩, h.own, fun k hk => Nat.lt_of_lt_of_le (h.low k hk) U.size, h.fine, h.terms, h.saids⟩

/-- The table of errors is what its text says. -/
def errZ : List Int := [0, 1, 2, 3, 3, 3]
def ErrTab (w : World) : Prop := 0 < w.heap.size ∧ ∀ i, i < 6 → w.cell? ⟨0, i, none⟩ = some (.int .i64 (errZ.getD i 0))
theorem ErrTab.later {w w' : World} {L : List Nat} (h : ErrTab w) (U : Upd L w w') (hL : 0 ∉ L) : ErrTab w' := ⟨Nat.lt_of_lt_of_le h.1 U.size, fun i hi => (U.cell (p := ⟨0, i, none⟩) h.1 hL).trans (h.2 i hi)⟩

theorem equal_same_book (d b : Nat) (w : World) : (Op.equalIn (d + 1) 25 (.pointer (some ⟨b, 0, none⟩)) (.pointer (some ⟨b, 0, none⟩))).run Tryz.prog w = .ok true w := by
  simp [Op.equalIn, run_underlying Tryz.underlying25, run_sameAddr_same]
theorem neq_same_book (b : Nat) (w : World) : (binOp .neq 25 (.pointer (some ⟨b, 0, none⟩)) (.pointer (some ⟨b, 0, none⟩))).run Tryz.prog w = .ok (.bool false) w := by
  have h : (Op.equal 25 (.pointer (some ⟨b, 0, none⟩)) (.pointer (some ⟨b, 0, none⟩))).run Tryz.prog w = .ok true w := equal_same_book 9999 b w
  simp only [binOp]
  simp [h]
set_option maxHeartbeats 400000 in
set_option maxRecDepth 100000 in
theorem closed_made (bb : Nat) (w : World) (h : w.cell? ⟨bb, 0, none⟩ = some (.pointer (some ⟨bb, 0, none⟩))) :
    Calls Tryz.prog 44 #[.pointer (some ⟨bb, 0, none⟩)] w fun e w' => e = .returned (.bool false) ∧ w' = w := by
  have hn := neq_same_book bb w
  go_enter Tryz.func44, Tryz.ntmps44
  go_wp2
  go_ret
  exact ⟨rfl, rfl⟩

set_option maxHeartbeats 1000000 in
set_option maxRecDepth 100000 in
theorem webNew_any (w : World) : Calls Tryz.prog 90 #[] w fun e w' => ∃ wb H, e = .returned (.pointer (some ⟨wb, 0, none⟩)) ∧ WebAt w' wb H (fun k => w.heap.size ≤ k) noWS ∧ Upd [] w w' := by
  have hmm := run_makeMap (P := Tryz.prog) 108
  go_enter Tryz.func90, Tryz.ntmps90
  go_wp2
  go_ret
  have U := (((Upd.refl [] w).alloc (.map #[] 0)).alloc (.map #[] 0)).alloc (.cells #[.slice none 0 0, .slice none 0 0, .slice none 0 0, .map (some w.heap.size), .slice none 0 0, .map (some (w.heap.size + 1)), .slice none 0 0] 111)
  refine ⟨w.heap.size + 1 + 1, ⟨.slice none 0 0, .slice none 0 0, .slice none 0 0, .slice none 0 0, w.heap.size, w.heap.size + 1, .slice none 0 0⟩, rfl, ?_, U⟩
  have m1 : MapIs ((w.alloc (.map #[] 0)).alloc (.map #[] 0)) (w.heap.size + 1) 0 (fun _ => none) := by
    have := MapIs.new (w.alloc (.map #[] 0))
    simpa using this
  have U3 := (Upd.refl [] ((w.alloc (.map #[] 0)).alloc (.map #[] 0))).alloc (.cells #[.slice none 0 0, .slice none 0 0, .slice none 0 0, .map (some w.heap.size), .slice none 0 0, .map (some (w.heap.size + 1)), .slice none 0 0] 111)
  have hsz : ((w.alloc (.map #[] 0)).alloc (.map #[] 0)).heap.size = w.heap.size + 1 + 1 := by simp
  have hcell := fun j => cell_new_row (w := (w.alloc (.map #[] 0)).alloc (.map #[] 0)) (e := 111) (j := j) (arr := #[.slice none 0 0, .slice none 0 0, .slice none 0 0, .map (some w.heap.size), .slice none 0 0, .map (some (w.heap.size + 1)), .slice none 0 0])
  rw [hsz] at hcell
  exact {
    lt := by simp
    free := fun o => (hcell o).2
    c0 := (hcell 0).1
    c1 := (hcell 2).1
    c2 := (hcell 3).1
    c3 := (hcell 4).1
    c4 := (hcell 5).1
    c5 := (hcell 6).1
    cm := (hcell 1).1
    rs := World.ownsRow_nil _ _ _ _
    rc := World.ownsRow_nil _ _ _ _
    rd := World.ownsRow_nil _ _ _ _
    rm := World.ownsRow_nil _ _ _ _
    mn := ((MapIs.new w).later ((Upd.refl [] _).alloc (.map #[] 0)) (by simp)).later U3 (by simp)
    ma := m1.later U3 (by simp)
    apart := by simp [Hd.blocks, Value.ownBlock]; omega
    rb := ⟨[], World.ownsRow_nil _ _ _ _, trivial⟩
    inZ := fun k hk => by
      simp [Hd.blocks, Value.ownBlock] at hk
      omega }

set_option maxHeartbeats 1000000 in
set_option maxRecDepth 100000 in
theorem new_any (w : World) : Calls Tryz.prog 49 #[] w fun e w' => ∃ bb, e = .returned (.pointer (some ⟨bb, 0, none⟩)) ∧ BookAt w' bb (fun k => w.heap.size ≤ k ∧ k < w'.heap.size) noWS ∧ Upd [] w w' := by
  have HN := hide (webNew_any w)
  go_enter Tryz.func49, Tryz.ntmps49
  go_wp2_with (go_at_call 90; refine HN.out.mono ?_; rintro e w2 ⟨wb, H, rfl, hw2, hu2⟩; have Hw2 := hide hw2; have Hu2 := hide hu2; clear hw2 hu2)
  go_ret
  have U := Hu2.out.alloc (.cells #[.pointer (some ⟨w2.heap.size, 0, none⟩), .pointer (some ⟨wb, 0, none⟩)] 29)
  have s2 := Hu2.out.size
  have hcell := fun j => cell_new_row (w := w2) (e := 29) (j := j) (arr := #[.pointer (some ⟨w2.heap.size, 0, none⟩), .pointer (some ⟨wb, 0, none⟩)])
  refine ⟨w2.heap.size, rfl, ⟨by simp, (hcell 0).1, ⟨wb, H, (hcell 1).1, ?_⟩, ⟨s2, by simp⟩, fun k hk => hk.2, noWS_fine, Nat.zero_le _, Nat.zero_le _⟩, U⟩
  refine ((Hw2.out.mono (Z' := fun k => w.heap.size ≤ k ∧ k < w2.heap.size) (fun k hk hl => ⟨hk, hl⟩)).later ((Upd.refl [] w2).alloc _) (fun _ _ => by simp)).mono (fun k hk hl => ⟨⟨hk.1, hl⟩, by have := hk.2; omega⟩)
end Go.Proofs.YtmfkpllnmmfpiaaGreatDoor

/-
  A Book reads a sentence.
-/
namespace Go.Proofs.YtmfkpllnmmfpiaaGreatDoor
open Go.RowKit

/-- How a fault of a text is called outside. -/
def errOf (f : Int) : Int := errZ.getD f.toNat 0
theorem readOf_kind (s : ByteArray) : 0 ≤ (readOf s).2.1 ∧ (readOf s).2.1 ≤ 5 := by
  unfold readOf
  split
  · simp
  · split
    · simp
    · split
      · rename_i h
        have := rangeOf_kind h
        simp only at this ⊢
        omega
      · split
        · rename_i h
          have := rangeOf_kind h
          simp only at this ⊢
          omega
        · simp

/-- What reading in a Book comes to. -/
def BookRead (s : ByteArray) (w : World) (e : Ending) (w' : World) : Prop :=
  ∃ (a : ByteArray) (p : Int) (g : Option Addr) (l c : Nat) (k : Int) (a' : ByteArray) (p' : Int) (g' : Option Addr) (l' c' : Nat),
    e = .returned (.tuple #[.agg #[.string a, .int .i64 p, .slice g l c, .int .i64 k, .string a', .int .i64 p', .slice g' l' c'], .int .i64 (errOf (readOf s).2.1), .int .i64 (readOf s).2.2]) ∧
    Upd [] w w' ∧
    ∀ x, (readOf s).1 = some x → IsSnt w' (fun k => w.heap.size ≤ k) (fuelOf s) (.string a, .int .i64 p, .slice g l c) k (.string a', .int .i64 p', .slice g' l' c') x

set_option maxHeartbeats 2000000 in
set_option maxRecDepth 100000 in
theorem bookRead_any (s : ByteArray) (w : World) (bb : Nat) (hmax : s.size ≤ maxLen) (hs : w.cell? ⟨bb, 0, none⟩ = some (.pointer (some ⟨bb, 0, none⟩))) (hE : ErrTab w) :
    Calls Tryz.prog 54 #[.pointer (some ⟨bb, 0, none⟩), .string s] w (BookRead s w) := by
  obtain ⟨W1, hW1⟩ : ∃ W1, W1 = w.alloc (.cells zero7 101) := ⟨_, rfl⟩
  have U1 : Upd [] w W1 := hW1 ▸ (Upd.refl [] w).alloc _
  have hsl : bb < w.heap.size := World.block_lt_of_cell? _ _ hs
  have HCl := hide (closed_made bb W1 ((U1.cell (p := ⟨bb, 0, none⟩) hsl (by simp)).trans hs))
  have HRd := hide (read_any s W1 hmax)
  have HK := hide (readOf_kind s)
  subst hW1
  go_enter Tryz.func54, Tryz.ntmps54
  go_wp2_with (first
    | (go_at_call 44; refine HCl.out.mono ?_; rintro e w2 ⟨rfl, hw2⟩; rw [hw2]; clear hw2 w2)
    | (go_at_call 93; refine HRd.out.mono ?_; rintro e w2 ⟨a, p, g, l, c, k, a', p', g', l', c', rfl, hb2, hx2⟩; have Hb2 := hide hb2; have Hx2 := hide hx2; clear hb2 hx2))
  have hU2 : Upd [] w w2 := (((Upd.refl [] w).alloc _)).trans (Upd.of_below Hb2.out)
  have hs2 := hU2.size
  have hs2' : w.heap.size < w2.heap.size := by have := Hb2.out.size; simp at this; omega
  obtain ⟨W3, hW3⟩ : ∃ W3, W3 = w2.alloc (.cells #[.string a, .int .i64 p, .slice g l c, .int .i64 k, .string a', .int .i64 p', .slice g' l' c'] 101) := ⟨_, rfl⟩
  rw [← hW3]
  have U3 : Upd [] w2 W3 := hW3 ▸ (Upd.refl [] w2).alloc _
  have e0 : W3.cell? ⟨w2.heap.size, 0, none⟩ = some (.string a) := by rw [hW3]; go_simp
  have e1 : W3.cell? ⟨w2.heap.size, 1, none⟩ = some (.int .i64 p) := by rw [hW3]; go_simp
  have e2 : W3.cell? ⟨w2.heap.size, 2, none⟩ = some (.slice g l c) := by rw [hW3]; go_simp
  have e3 : W3.cell? ⟨w2.heap.size, 3, none⟩ = some (.int .i64 k) := by rw [hW3]; go_simp
  have e4 : W3.cell? ⟨w2.heap.size, 4, none⟩ = some (.string a') := by rw [hW3]; go_simp
  have e5 : W3.cell? ⟨w2.heap.size, 5, none⟩ = some (.int .i64 p') := by rw [hW3]; go_simp
  have e6 : W3.cell? ⟨w2.heap.size, 6, none⟩ = some (.slice g' l' c') := by rw [hW3]; go_simp
  have hb7 := (((Box7.new w 101).later (Upd.of_below (L := []) Hb2.out) (by simp)).later U3 (by simp))
  obtain ⟨d0, d1, d2, d3, d4, d5, d6⟩ := hb7.cells
  have df := hb7.free
  obtain ⟨i, hi, hi5⟩ : ∃ i : Nat, (readOf s).2.1 = (i : Int) ∧ i ≤ 5 := ⟨(readOf s).2.1.toNat, by have := HK.out; omega, by have := HK.out; omega⟩
  have Hi := hide hi
  have HX := hide Hx2.out
  have hErr := (hE.later hU2 (by simp)).later U3 (by simp)
  have ht : W3.cell? ⟨0, i, none⟩ = some (.int .i64 (errZ.getD i 0)) := hErr.2 i (by omega)
  have hErrOf : Hid (errOf (readOf s).2.1 = errZ.getD i 0) := by show _ = _; unfold errOf; rw [hi]; rfl
  have hw0 : w.heap.size ≠ 0 := by have := hE.1; omega
  have hw20 : w2.heap.size ≠ 0 := by omega
  have hww : w.heap.size ≠ w2.heap.size := by omega
  have hi6 : (i : Int) < 6 := by omega
  have HU := hide (hU2.trans U3)
  have HU3 := hide U3
  rw [hi]
  generalize errZ.getD i 0 = er at *
  clear hb7 hU2 U3 hErr hi Hx2 hW3 hE HCl HRd HK U1
  go_region
  go_wp2
  refine bodyPost_ret (v := .tuple #[.agg #[.string a, .int .i64 p, .slice g l c, .int .i64 k, .string a', .int .i64 p', .slice g' l' c'], .int .i64 er, .int .i64 (readOf s).2.2]) (by simp [results, Tryz.results54, go_sem, d0, d1, d2, d3, d4, d5, d6]) rfl ?_
  have U7 := (upd7 W3 w.heap.size (.string a) (.int .i64 p) (.slice g l c) (.int .i64 k) (.string a') (.int .i64 p') (.slice g' l' c')).drew
  refine ⟨a, p, g, l, c, k, a', p', g', l', c', by rw [hErrOf.out], HU.out.trans' U7 (fun x hx hlt => by simp at hx; omega), fun x hx => ?_⟩
  obtain ⟨h1, h2, h3⟩ := HX.out x hx
  have hk : ∀ k, (w.alloc (.cells zero7 101)).heap.size ≤ k → k ∉ [w.heap.size] := fun k hk hm => by simp at hk hm; omega
  exact ⟨((h1.later HU3.out (fun _ _ => by simp)).later U7 hk).mono (fun k hk _ => by simp at hk; omega), h2, ((h3.later HU3.out (fun _ _ => by simp)).later U7 hk).mono (fun k hk _ => by simp at hk; omega)⟩
end Go.Proofs.YtmfkpllnmmfpiaaGreatDoor
