/-
  What each call of package akin does on a Book that is none (nil, or one whose field 'self' is nil): it answers ErrClosed, or nothing, and changes nothing.
-/
import Derived.Test.YtgmemeofpompbaaDoorRows
import Derived.WalkKit
import Derived.WalkSpells
import Derived.WalkLawsBesides
namespace Go.Proofs.YtgmemeofpompbaaDoor
open Go.RowKit

/-- A Book that is none, in a world. -/
def NoBook (b : Value) (w : World) : Prop :=
  b = .pointer none ∨ ∃ k, b = .pointer (some ⟨k, 0, none⟩) ∧ k < w.heap.size ∧ w.cell? ⟨k, 0, none⟩ = some (.pointer none)

theorem NoBook.later {b : Value} {w w' : World} (h : NoBook b w) (hb : Below w.heap.size w w') : NoBook b w' := by
  rcases h with rfl | ⟨k, rfl, hk, hc⟩
  · exact .inl rfl
  · exact .inr ⟨k, rfl, Nat.lt_of_lt_of_le hk hb.size, by rw [hb.cell (p := ⟨k, 0, none⟩) hk]; exact hc⟩

theorem neq_nil_book (a : Addr) (w : World) : (binOp .neq 29 (.pointer none) (.pointer (some a))).run Tryd.prog w = .ok (.bool true) w := by kernel_rfl

set_option maxHeartbeats 400000 in
set_option maxRecDepth 100000 in
theorem closed_any (b : Value) (w : World) (h : NoBook b w) :
    Calls Tryd.prog 39 #[b] w fun e w' => e = .returned (.bool true) ∧ w' = w := by
  rcases h with rfl | ⟨k, rfl, _, hc⟩
  · go_enter Tryd.func39, Tryd.ntmps39
    go_wp2
    go_ret
    exact ⟨rfl, rfl⟩
  · have hn := neq_nil_book ⟨k, 0, none⟩
    go_enter Tryd.func39, Tryd.ntmps39
    go_wp2
    go_ret
    exact ⟨rfl, rfl⟩

set_option maxHeartbeats 400000 in
theorem mark_none (b : Value) (w : World) (h : NoBook b w) :
    Calls Tryd.prog 30 #[b] w fun e w' => e = .returned (.int .i64 7) ∧ w' = w := by
  go_enter Tryd.func30, Tryd.ntmps30
  go_wp2_with (go_at_call 39; refine (closed_any _ _ h).mono ?_; rintro e w' ⟨rfl, rfl⟩)
  go_ret
  exact ⟨rfl, rfl⟩

set_option maxHeartbeats 400000 in
theorem back_none (b : Value) (w : World) (h : NoBook b w) :
    Calls Tryd.prog 31 #[b] w fun e w' => e = .returned (.int .i64 7) ∧ w' = w := by
  go_enter Tryd.func31, Tryd.ntmps31
  go_wp2_with (go_at_call 39; refine (closed_any _ _ h).mono ?_; rintro e w' ⟨rfl, rfl⟩)
  go_ret
  exact ⟨rfl, rfl⟩

set_option maxHeartbeats 400000 in
theorem said_none (b : Value) (w : World) (h : NoBook b w) :
    Calls Tryd.prog 25 #[b] w fun e w' => e = .returned (.slice none 0 0) ∧ w' = w := by
  go_enter Tryd.func25, Tryd.ntmps25
  go_wp2_with (go_at_call 39; refine (closed_any _ _ h).mono ?_; rintro e w' ⟨rfl, rfl⟩)
  go_ret
  exact ⟨rfl, rfl⟩

set_option maxHeartbeats 400000 in
theorem classes_none (b : Value) (w : World) (h : NoBook b w) :
    Calls Tryd.prog 32 #[b] w fun e w' => e = .returned (.slice none 0 0) ∧ w' = w := by
  go_enter Tryd.func32, Tryd.ntmps32
  go_wp2_with (go_at_call 39; refine (closed_any _ _ h).mono ?_; rintro e w' ⟨rfl, rfl⟩)
  go_ret
  exact ⟨rfl, rfl⟩

set_option maxHeartbeats 400000 in
theorem clash_none (b : Value) (w : World) (h : NoBook b w) :
    Calls Tryd.prog 17 #[b] w fun e w' => e = .returned (.bool false) ∧ w' = w := by
  go_enter Tryd.func17, Tryd.ntmps17
  go_wp2_with (go_at_call 39; refine (closed_any _ _ h).mono ?_; rintro e w' ⟨rfl, rfl⟩)
  go_ret
  exact ⟨rfl, rfl⟩

set_option maxHeartbeats 400000 in
theorem world_none (b : Value) (w : World) (h : NoBook b w) :
    Calls Tryd.prog 29 #[b] w fun e w' => e = .returned (.tuple #[.slice none 0 0, .int .i64 7]) ∧ w' = w := by
  go_enter Tryd.func29, Tryd.ntmps29
  go_wp2_with (go_at_call 39; refine (closed_any _ _ h).mono ?_; rintro e w' ⟨rfl, rfl⟩)
  go_ret2
  exact ⟨rfl, rfl⟩

set_option maxHeartbeats 400000 in
theorem why_none (b : Value) (s : ByteArray) (w : World) (h : NoBook b w) :
    Calls Tryd.prog 28 #[b, .string s] w fun e w' => e = .returned (.tuple #[.slice none 0 0, .int .i64 7, .int .i64 0]) ∧ w' = w := by
  go_enter Tryd.func28, Tryd.ntmps28
  go_wp2_with (go_at_call 39; refine (closed_any _ _ h).mono ?_; rintro e w' ⟨rfl, rfl⟩)
  go_ret3
  exact ⟨rfl, rfl⟩

/-- Reading on a Book that is none: an empty sentence, ErrClosed, 0. -/
abbrev noSentence : Value := .agg #[.string ⟨#[]⟩, .int .i64 0, .slice none 0 0, .int .i64 0, .string ⟨#[]⟩, .int .i64 0, .slice none 0 0]
set_option maxHeartbeats 400000 in
set_option maxRecDepth 100000 in
theorem read_none (b : Value) (s : ByteArray) (w : World) (h : NoBook b w) :
    Calls Tryd.prog 33 #[b, .string s] w fun e w' => e = .returned (.tuple #[noSentence, .int .i64 7, .int .i64 0]) ∧ Below w.heap.size w w' := by
  go_enter Tryd.func33, Tryd.ntmps33
  go_wp2_with (go_at_call 39; refine (closed_any _ _ (h.later ((Below.refl _ _).alloc (Nat.le_refl _) _))).mono ?_; rintro e w' ⟨rfl, rfl⟩)
  refine bodyPost_ret (v := .tuple #[noSentence, .int .i64 7, .int .i64 0]) (by simp [results, Tryd.results33, go_sem]) rfl ⟨rfl, ?_⟩
  exact (Below.refl _ _).alloc (Nat.le_refl _) _

set_option maxHeartbeats 400000 in
set_option maxRecDepth 100000 in
theorem say_none (b : Value) (s : ByteArray) (w : World) (h : NoBook b w) :
    Calls Tryd.prog 14 #[b, .string s] w fun e w' => e = .returned (.tuple #[.int .i64 0, .int .i64 7, .int .i64 0]) ∧ Below w.heap.size w w' := by
  go_enter Tryd.func14, Tryd.ntmps14
  go_wp2_with (go_at_call 33; refine (read_none _ _ _ h).mono ?_; rintro e w' ⟨rfl, hb⟩)
  go_ret3
  exact ⟨rfl, hb.trans ((Below.refl _ _).alloc (by have := hb.size; omega) _)⟩

set_option maxHeartbeats 400000 in
set_option maxRecDepth 100000 in
theorem follows_none (b : Value) (s : ByteArray) (w : World) (h : NoBook b w) :
    Calls Tryd.prog 23 #[b, .string s] w fun e w' => e = .returned (.tuple #[.bool false, .int .i64 7, .int .i64 0]) ∧ Below w.heap.size w w' := by
  go_enter Tryd.func23, Tryd.ntmps23
  go_wp2_with (go_at_call 33; refine (read_none _ _ _ h).mono ?_; rintro e w' ⟨rfl, hb⟩)
  go_ret3
  exact ⟨rfl, hb.trans ((Below.refl _ _).alloc (by have := hb.size; omega) _)⟩
end Go.Proofs.YtgmemeofpompbaaDoor
