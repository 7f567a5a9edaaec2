/-
  What each call of package akin does on a Book that is none (nil, or one whose field 'self' is nil): it answers ErrClosed, or nothing, and changes nothing.
-/
import Derived.Test.YtmfkpllnmmfpiaaGreatDoorRows
import Derived.WalkKit
import Derived.WalkSpells
import Derived.WalkLawsBesides
namespace Go.Proofs.YtmfkpllnmmfpiaaGreatDoor
open Go.RowKit

/-- A Book that is none, in a world. -/
def NoBook (b : Value) (w : World) : Prop :=
  b = .pointer none ∨ ∃ k, b = .pointer (some ⟨k, 0, none⟩) ∧ k < w.heap.size ∧ w.cell? ⟨k, 0, none⟩ = some (.pointer none)

theorem NoBook.later {b : Value} {w w' : World} (h : NoBook b w) (hb : Below w.heap.size w w') : NoBook b w' := by
  rcases h with rfl | ⟨k, rfl, hk, hc⟩
  · exact .inl rfl
  · exact .inr ⟨k, rfl, Nat.lt_of_lt_of_le hk hb.size, by rw [hb.cell (p := ⟨k, 0, none⟩) hk]; exact hc⟩

theorem neq_nil_book (a : Addr) (w : World) : (binOp .neq 25 (.pointer none) (.pointer (some a))).run Tryz.prog w = .ok (.bool true) w := by kernel_rfl

set_option maxHeartbeats 400000 in
set_option maxRecDepth 100000 in
theorem closed_any (b : Value) (w : World) (h : NoBook b w) :
    Calls Tryz.prog 44 #[b] w fun e w' => e = .returned (.bool true) ∧ w' = w := by
  rcases h with rfl | ⟨k, rfl, _, hc⟩
  · go_enter Tryz.func44, Tryz.ntmps44
    go_wp2
    go_ret
    exact ⟨rfl, rfl⟩
  · have hn := neq_nil_book ⟨k, 0, none⟩
    go_enter Tryz.func44, Tryz.ntmps44
    go_wp2
    go_ret
    exact ⟨rfl, rfl⟩

set_option maxHeartbeats 400000 in
theorem mark_none (b : Value) (w : World) (h : NoBook b w) :
    Calls Tryz.prog 28 #[b] w fun e w' => e = .returned (.int .i64 7) ∧ w' = w := by
  go_enter Tryz.func28, Tryz.ntmps28
  go_wp2_with (go_at_call 44; refine (closed_any _ _ h).mono ?_; rintro e w' ⟨rfl, rfl⟩)
  go_ret
  exact ⟨rfl, rfl⟩

set_option maxHeartbeats 400000 in
theorem back_none (b : Value) (w : World) (h : NoBook b w) :
    Calls Tryz.prog 29 #[b] w fun e w' => e = .returned (.int .i64 7) ∧ w' = w := by
  go_enter Tryz.func29, Tryz.ntmps29
  go_wp2_with (go_at_call 44; refine (closed_any _ _ h).mono ?_; rintro e w' ⟨rfl, rfl⟩)
  go_ret
  exact ⟨rfl, rfl⟩

set_option maxHeartbeats 400000 in
theorem said_none (b : Value) (w : World) (h : NoBook b w) :
    Calls Tryz.prog 17 #[b] w fun e w' => e = .returned (.slice none 0 0) ∧ w' = w := by
  go_enter Tryz.func17, Tryz.ntmps17
  go_wp2_with (go_at_call 44; refine (closed_any _ _ h).mono ?_; rintro e w' ⟨rfl, rfl⟩)
  go_ret
  exact ⟨rfl, rfl⟩

set_option maxHeartbeats 400000 in
theorem classes_none (b : Value) (w : World) (h : NoBook b w) :
    Calls Tryz.prog 20 #[b] w fun e w' => e = .returned (.slice none 0 0) ∧ w' = w := by
  go_enter Tryz.func20, Tryz.ntmps20
  go_wp2_with (go_at_call 44; refine (closed_any _ _ h).mono ?_; rintro e w' ⟨rfl, rfl⟩)
  go_ret
  exact ⟨rfl, rfl⟩

set_option maxHeartbeats 400000 in
theorem clash_none (b : Value) (w : World) (h : NoBook b w) :
    Calls Tryz.prog 16 #[b] w fun e w' => e = .returned (.bool false) ∧ w' = w := by
  go_enter Tryz.func16, Tryz.ntmps16
  go_wp2_with (go_at_call 44; refine (closed_any _ _ h).mono ?_; rintro e w' ⟨rfl, rfl⟩)
  go_ret
  exact ⟨rfl, rfl⟩

set_option maxHeartbeats 400000 in
theorem world_none (b : Value) (w : World) (h : NoBook b w) :
    Calls Tryz.prog 15 #[b] w fun e w' => e = .returned (.tuple #[.slice none 0 0, .int .i64 7]) ∧ w' = w := by
  go_enter Tryz.func15, Tryz.ntmps15
  go_wp2_with (go_at_call 44; refine (closed_any _ _ h).mono ?_; rintro e w' ⟨rfl, rfl⟩)
  go_ret2
  exact ⟨rfl, rfl⟩

/-- Reading on a Book that is none: an empty sentence, ErrClosed, 0. -/
abbrev noSentence : Value := .agg #[.string ⟨#[]⟩, .int .i64 0, .slice none 0 0, .int .i64 0, .string ⟨#[]⟩, .int .i64 0, .slice none 0 0]
set_option maxHeartbeats 400000 in
set_option maxRecDepth 100000 in
theorem read_none (b : Value) (s : ByteArray) (w : World) (h : NoBook b w) :
    Calls Tryz.prog 54 #[b, .string s] w fun e w' => e = .returned (.tuple #[noSentence, .int .i64 7, .int .i64 0]) ∧ Below w.heap.size w w' := by
  go_enter Tryz.func54, Tryz.ntmps54
  go_wp2_with (go_at_call 44; refine (closed_any _ _ (h.later ((Below.refl _ _).alloc (Nat.le_refl _) _))).mono ?_; rintro e w' ⟨rfl, rfl⟩)
  refine bodyPost_ret (v := .tuple #[noSentence, .int .i64 7, .int .i64 0]) (by simp [results, Tryz.results54, go_sem]) rfl ⟨rfl, ?_⟩
  exact (Below.refl _ _).alloc (Nat.le_refl _) _

set_option maxHeartbeats 400000 in
set_option maxRecDepth 100000 in
theorem say_none (b : Value) (s : ByteArray) (w : World) (h : NoBook b w) :
    Calls Tryz.prog 25 #[b, .string s] w fun e w' => e = .returned (.tuple #[.int .i64 0, .int .i64 7, .int .i64 0]) ∧ Below w.heap.size w w' := by
  go_enter Tryz.func25, Tryz.ntmps25
  go_wp2_with (go_at_call 54; refine (read_none _ _ _ h).mono ?_; rintro e w' ⟨rfl, hb⟩)
  go_ret3
  exact ⟨rfl, hb.trans ((Below.refl _ _).alloc (by have := hb.size; omega) _)⟩

set_option maxHeartbeats 400000 in
set_option maxRecDepth 100000 in
theorem follows_none (b : Value) (s : ByteArray) (w : World) (h : NoBook b w) :
    Calls Tryz.prog 26 #[b, .string s] w fun e w' => e = .returned (.tuple #[.bool false, .int .i64 7, .int .i64 0]) ∧ Below w.heap.size w w' := by
  go_enter Tryz.func26, Tryz.ntmps26
  go_wp2_with (go_at_call 54; refine (read_none _ _ _ h).mono ?_; rintro e w' ⟨rfl, hb⟩)
  go_ret3
  exact ⟨rfl, hb.trans ((Below.refl _ _).alloc (by have := hb.size; omega) _)⟩

set_option maxHeartbeats 400000 in
set_option maxRecDepth 100000 in
theorem why_none (b : Value) (s : ByteArray) (w : World) (h : NoBook b w) :
    Calls Tryz.prog 27 #[b, .string s] w fun e w' => e = .returned (.tuple #[.slice none 0 0, .int .i64 7, .int .i64 0]) ∧ Below w.heap.size w w' := by
  go_enter Tryz.func27, Tryz.ntmps27
  go_wp2_with (go_at_call 54; refine (read_none _ _ _ h).mono ?_; rintro e w' ⟨rfl, hb⟩)
  go_ret3
  exact ⟨rfl, hb.trans ((Below.refl _ _).alloc (by have := hb.size; omega) _)⟩
end Go.Proofs.YtmfkpllnmmfpiaaGreatDoor
