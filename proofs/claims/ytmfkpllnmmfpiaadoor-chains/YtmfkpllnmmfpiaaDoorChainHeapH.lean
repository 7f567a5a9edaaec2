/-
  'thing', walked; arrays of ten numbers; lists of pairs.
-/
import Derived.Test.YtmfkpllnmmfpiaaDoorChainBookH
import Derived.Test.YtmfkpllnmmfpiaaDoorPowersH
import Derived.Laws.BytesArg
namespace Go.Proofs.YtmfkpllnmmfpiaaDoor
open Go.RowKit

theorem digit_str (x : Nat) (w : World) (hx : (x : Int) < 10) : (convert 91 9 (.slice (some ⟨w.heap.size, 0, none⟩) 1 1)).run Tryd.prog (w.alloc (.cells #[.int .u8 (48 + (x : Int))] 5)) = .ok (.string ⟨#[UInt8.ofNat (48 + x)]⟩) (w.alloc (.cells #[.int .u8 (48 + (x : Int))] 5)) := by
  rw [run_convert_bytes_arg _ 91 5 Tryd.underlying91 Tryd.underlying5 w.heap.size 0 1 1 [48 + (x : Int)] rfl (fun i hi => by rw [show i = 0 by omega]; go_simp) 9 Tryd.underlying9]
  have e : (48 + (x : Int)).toNat = 48 + x := by omega
  unfold strOfNums
  simp [e]
theorem nT_append (x : Nat) : (⟨#[116]⟩ : ByteArray) ++ ⟨#[UInt8.ofNat (48 + x)]⟩ = nT x := by
  show (⟨([116] : List UInt8).toArray⟩ : ByteArray) ++ ⟨([UInt8.ofNat (48 + x)] : List UInt8).toArray⟩ = _
  rw [bytes_append]
  rfl
set_option maxHeartbeats 1000000 in
set_option maxRecDepth 100000 in
theorem thing_any (c : Int) (x : Nat) (w : World) (hc0 : -9223372036854775808 ≤ c) (hc1 : c ≤ 9223372036854775807) (hx : pickZ c 10 = (x : Int)) :
    Calls Tryd.prog 15 #[.int .i64 c] w fun e w' => e = .returned (.string (nT x)) ∧ Upd [] w w' := by
  have hP := pick_any c 10 w hc0 hc1 (by omega) (by omega)
  have hlt := pickZ_lt (c := c) (n := 10) (by omega)
  rw [hx] at hP hlt
  have HP := hide hP
  have hx10 : (x : Int) < 10 := hlt.2
  have hd := digit_str x w hx10
  have hA := nT_append x
  generalize UInt8.ofNat (48 + x) = u at hd hA
  have HA := hide hA
  clear hP hx hlt hA
  go_enter Tryd.func15, Tryd.ntmps15
  go_wp2_with (go_at_call 13; refine HP.out.mono ?_; rintro e w9 ⟨rfl, hw9⟩; rw [hw9]; clear hw9 w9)
  go_ret
  refine ⟨?_, (Upd.refl [] w).alloc _⟩
  rw [← HA.out]
  rfl
end Go.Proofs.YtmfkpllnmmfpiaaDoor

/-
  What 'Chains' keeps in memory: an array of ten numbers, a list of pairs, a Book.
-/
namespace Go.Proofs.YtmfkpllnmmfpiaaDoor
open Go.RowKit

/-- Ten numbers in block A. -/
structure ArrAt (w : World) (A : Nat) (C : Nat → Nat) : Prop where
  lt : A < w.heap.size
  cell : ∀ j, j < 10 → w.cell? ⟨A, j, none⟩ = some (.int .i64 (C j))
  free : ∀ o, w.frozen? ⟨A, o, none⟩ = false
theorem ArrAt.later {w w' : World} {L : List Nat} {A : Nat} {C : Nat → Nat} (h : ArrAt w A C) (U : Upd L w w') (hA : A ∉ L) : ArrAt w' A C :=
  ⟨Nat.lt_of_lt_of_le h.lt U.size, fun j hj => (U.cell (p := ⟨A, j, none⟩) h.lt hA).trans (h.cell j hj), fun o => (U.frozen (p := ⟨A, o, none⟩) h.lt hA).trans (h.free o)⟩
theorem ArrAt.set {w : World} {A i v : Nat} {C : Nat → Nat} (h : ArrAt w A C) (hi : i < 10) : ArrAt (w.setCell ⟨A, i, none⟩ (.int .i64 v)) A (fun j => if j = i then v else C j) := by
  refine ⟨by simpa [World.setCell] using h.lt, fun j hj => ?_, fun o => by rw [World.frozen?_setCell]; exact h.free o⟩
  have hc := h.cell i hi
  have hcj := h.cell j hj
  by_cases e : j = i
  · subst e
    simp only [if_true]
    go_simp
  · simp only [if_neg e]
    go_simp

/-- A list of pairs, each in a row of its own. -/
def ApAt (w : World) (B : Nat) (F : Nat → Prop) (v : Value) (ap : List (Nat × Nat)) : Prop :=
  ∃ cs, w.ownsRow B 29 1 v ap.length cs ∧ (∀ k, v.ownBlock = some k → F k) ∧
    AllIs (fun (c : Value) (e : Nat × Nat) => ∃ g, F g ∧ v.ownBlock ≠ some g ∧ c = .slice (some ⟨g, 0, none⟩) 2 2 ∧ w.cell? ⟨g, 0, none⟩ = some (.int .i64 e.1) ∧ w.cell? ⟨g, 1, none⟩ = some (.int .i64 e.2)) cs ap
theorem ApAt.later {w w' : World} {L : List Nat} {B : Nat} {F : Nat → Prop} {v : Value} {ap : List (Nat × Nat)} (h : ApAt w B F v ap) (U : Upd L w w') (hF : ∀ k, F k → k ∉ L) : ApAt w' B F v ap := by
  obtain ⟨cs, h1, h2, h3⟩ := h
  refine ⟨cs, U.ownsRow h1 (fun k hk => hF k (h2 k hk)), h2, h3.mono fun c e hce => ?_⟩
  obtain ⟨g, g1, g2, g3, g4, g5⟩ := hce
  exact ⟨g, g1, g2, g3, (U.cell (p := ⟨g, 0, none⟩) (World.block_lt_of_cell? _ _ g4) (hF g g1)).trans g4, (U.cell (p := ⟨g, 1, none⟩) (World.block_lt_of_cell? _ _ g5) (hF g g1)).trans g5⟩

/-- All that 'Chains' keeps. -/
structure MemAt (w wk : World) (bb A : Nat) (Z F : Nat → Prop) (v : Value) (C : Nat → Nat) (ap : List (Nat × Nat)) (S : WS) : Prop where
  err : ErrTab wk
  book : BookAt wk bb Z S
  arr : ArrAt wk A C
  ap : ApAt wk w.heap.size F v ap
  sepZ : ∀ k, Z k → w.heap.size ≤ k ∧ k ≠ A ∧ ¬ F k
  sepF : ∀ k, F k → w.heap.size ≤ k ∧ k ≠ A ∧ k < wk.heap.size
  anew : w.heap.size ≤ A
  upd : Upd [] w wk
  pos : 0 < w.heap.size
section
variable {w wk w' : World} {bb A : Nat} {Z F : Nat → Prop} {v : Value} {C : Nat → Nat} {ap : List (Nat × Nat)} {S : WS}
theorem MemAt.grow (h : MemAt w wk bb A Z F v C ap S) (U : Upd [] wk w') : MemAt w w' bb A Z F v C ap S :=
  ⟨h.err.later U (by simp), h.book.later U (fun _ _ => by simp), h.arr.later U (by simp), h.ap.later U (fun _ _ => by simp), h.sepZ, fun k hk => ⟨(h.sepF k hk).1, (h.sepF k hk).2.1, Nat.lt_of_lt_of_le (h.sepF k hk).2.2 U.size⟩, h.anew, h.upd.trans U, h.pos⟩
theorem MemAt.set (h : MemAt w wk bb A Z F v C ap S) {i x : Nat} (hi : i < 10) : MemAt w (wk.setCell ⟨A, i, none⟩ (.int .i64 x)) bb A Z F v (fun j => if j = i then x else C j) ap S := by
  have U := (Upd.refl [A] wk).setCell (p := ⟨A, i, none⟩) (by simp) (.int .i64 (x : Int))
  have hpos := h.pos
  have hA := h.anew
  exact ⟨h.err.later U (by simp; omega), h.book.later U (fun k hk hm => (h.sepZ k hk).2.1 (by simpa using hm)), h.arr.set hi, h.ap.later U (fun k hk hm => (h.sepF k hk).2.1 (by simpa using hm)), h.sepZ, fun k hk => ⟨(h.sepF k hk).1, (h.sepF k hk).2.1, Nat.lt_of_lt_of_le (h.sepF k hk).2.2 U.size⟩, h.anew, h.upd.trans' U (fun k hk hl => by simp at hk; omega), h.pos⟩
theorem MemAt.same (h : MemAt w wk bb A Z F v C ap S) {C' : Nat → Nat} (hC : ∀ j, j < 10 → C' j = C j) : MemAt w wk bb A Z F v C' ap S :=
  ⟨h.err, h.book, ⟨h.arr.lt, fun j hj => by rw [hC j hj]; exact h.arr.cell j hj, h.arr.free⟩, h.ap, h.sepZ, h.sepF, h.anew, h.upd, h.pos⟩
theorem MemAt.tell (h : MemAt w wk bb A Z F v C ap S) {S' : WS} (hb : BookAt w' bb (fun k => (Z k ∨ wk.heap.size ≤ k) ∧ k < w'.heap.size) S') (hL : ∃ L, (∀ k ∈ L, Z k) ∧ Upd L wk w') : MemAt w w' bb A (fun k => (Z k ∨ wk.heap.size ≤ k) ∧ k < w'.heap.size) F v C ap S' := by
  obtain ⟨L, hL, U⟩ := hL
  have hpos := h.pos
  have hs := h.upd.size
  have hA := h.arr.lt
  refine ⟨h.err.later U (fun hm => by have := (h.sepZ 0 (hL 0 hm)).1; omega), hb, h.arr.later U (fun hm => (h.sepZ A (hL A hm)).2.1 rfl), h.ap.later U (fun k hk hm => (h.sepZ k (hL k hm)).2.2 hk), fun k hk => ?_, fun k hk => ⟨(h.sepF k hk).1, (h.sepF k hk).2.1, Nat.lt_of_lt_of_le (h.sepF k hk).2.2 U.size⟩, h.anew, h.upd.trans' U (fun k hk hl => by have := (h.sepZ k (hL k hk)).1; omega), h.pos⟩
  rcases hk.1 with h1 | h1
  · exact h.sepZ k h1
  · refine ⟨by omega, by omega, fun hF => ?_⟩
    have := (h.sepF k hF).2.2
    omega
/-- One pair more. -/
theorem MemAt.put (h : MemAt w wk bb A Z F v C ap S) {x y g cap : Nat} {cs : List Value} {w3 : World} {o : Obj}
    (hrow : AllIs (fun (c : Value) (e : Nat × Nat) => ∃ g, F g ∧ v.ownBlock ≠ some g ∧ c = .slice (some ⟨g, 0, none⟩) 2 2 ∧ wk.cell? ⟨g, 0, none⟩ = some (.int .i64 e.1) ∧ wk.cell? ⟨g, 1, none⟩ = some (.int .i64 e.2)) cs ap)
    (hvF : ∀ k, v.ownBlock = some k → F k)
    (hg : ((wk.alloc (.cells #[.int .i64 x, .int .i64 y] 3)).alloc o).grownBy w3 v.ownBlock) (hat : v.ownBlock = some g ∨ g = ((wk.alloc (.cells #[.int .i64 x, .int .i64 y] 3)).alloc o).heap.size)
    (hown : w3.ownsRow w.heap.size 29 1 (.slice (some ⟨g, 0, none⟩) (ap.length + 1) cap) (ap.length + 1) (cs ++ [.slice (some ⟨wk.heap.size, 0, none⟩) 2 2])) :
    MemAt w w3 bb A Z (fun k => F k ∨ (wk.heap.size ≤ k ∧ k < w3.heap.size)) (.slice (some ⟨g, 0, none⟩) (ap.length + 1) cap) C (ap ++ [(x, y)]) S := by
  have U0 : Upd [] wk ((wk.alloc (.cells #[.int .i64 x, .int .i64 y] 3)).alloc o) := ((Upd.refl [] wk).alloc _).alloc _
  have hsz : ((wk.alloc (.cells #[.int .i64 x, .int .i64 y] 3)).alloc o).heap.size = wk.heap.size + 2 := by simp
  have h0 := h.grow U0
  have UG := Upd.of_grown hg
  have U : Upd v.ownBlock.toList wk w3 := (U0.mono (fun k hk _ => by cases hk)).trans UG
  have hs3 := UG.size
  have hF3 : ∀ k ∈ v.ownBlock.toList, F k := fun k hk => hvF k (by simpa using hk)
  have hpos := h.pos
  have hsk := h.upd.size
  have hA := h.arr.lt
  have hglt := (hown.lt g rfl).2
  have k0 : ((wk.alloc (.cells #[.int .i64 x, .int .i64 y] 3)).alloc o).cell? ⟨wk.heap.size, 0, none⟩ = some (.int .i64 x) := by
    rw [((Upd.refl [] (wk.alloc (.cells #[.int .i64 x, .int .i64 y] 3))).alloc o).cell (p := ⟨wk.heap.size, 0, none⟩) (by simp) (by simp)]
    go_simp
  have k1 : ((wk.alloc (.cells #[.int .i64 x, .int .i64 y] 3)).alloc o).cell? ⟨wk.heap.size, 1, none⟩ = some (.int .i64 y) := by
    rw [((Upd.refl [] (wk.alloc (.cells #[.int .i64 x, .int .i64 y] 3))).alloc o).cell (p := ⟨wk.heap.size, 1, none⟩) (by simp) (by simp)]
    go_simp
  have hvlt : ∀ k, v.ownBlock = some k → k < wk.heap.size := fun k hk => (h.sepF k (hvF k hk)).2.2
  have hnw : wk.heap.size ∉ v.ownBlock.toList := fun hm => by have := hvlt wk.heap.size (by simpa using hm); omega
  have hgg : ∀ k, k < wk.heap.size → v.ownBlock ≠ some k → g ≠ k := fun k hk hv e => by
    rcases hat with h1 | h1
    · exact hv (e ▸ h1)
    · omega
  refine ⟨h.err.later U (fun hm => by have := (h.sepF 0 (hF3 0 hm)).1; omega), h.book.later U (fun k hk hm => (h.sepZ k hk).2.2 (hF3 k hm)), h.arr.later U (fun hm => (h.sepF A (hF3 A hm)).2.1 rfl), ?_, fun k hk => ⟨(h.sepZ k hk).1, (h.sepZ k hk).2.1, fun hF => ?_⟩, fun k hk => ?_, h.anew, h.upd.trans' U (fun k hk hl => by have := (h.sepF k (hF3 k hk)).1; omega), h.pos⟩
  · refine ⟨cs ++ [.slice (some ⟨wk.heap.size, 0, none⟩) 2 2], by simpa using hown, fun k hk => ?_, ?_⟩
    · simp only [own_slice, Option.some.injEq] at hk
      subst hk
      rcases hat with h1 | h1
      · exact .inl (hvF g h1)
      · exact .inr ⟨by omega, hglt⟩
    · refine AllIs.snoc ?_ (hrow.mono fun c e hce => ?_)
      · refine ⟨wk.heap.size, .inr ⟨Nat.le_refl _, by omega⟩, ?_, rfl, (UG.cell (p := ⟨wk.heap.size, 0, none⟩) (by show wk.heap.size < _; omega) hnw).trans k0, (UG.cell (p := ⟨wk.heap.size, 1, none⟩) (by show wk.heap.size < _; omega) hnw).trans k1⟩
        simp only [own_slice, ne_eq, Option.some.injEq]
        intro e
        rcases hat with h1 | h1
        · have := hvlt g h1; omega
        · omega
      · obtain ⟨q, q1, q2, q3, q4, q5⟩ := hce
        have hq := (h.sepF q q1).2.2
        refine ⟨q, .inl q1, ?_, q3, (U.cell (p := ⟨q, 0, none⟩) hq (by simpa using q2)).trans q4, (U.cell (p := ⟨q, 1, none⟩) hq (by simpa using q2)).trans q5⟩
        simp only [own_slice, ne_eq, Option.some.injEq]
        exact hgg q hq q2
  · rcases hF with hF | hF
    · exact (h.sepZ k hk).2.2 hF
    · have := h.book.low k hk; omega
  · rcases hk with hk | hk
    · have := h.sepF k hk
      exact ⟨this.1, this.2.1, by omega⟩
    · exact ⟨by omega, by omega, hk.2⟩
end
end Go.Proofs.YtmfkpllnmmfpiaaDoor
