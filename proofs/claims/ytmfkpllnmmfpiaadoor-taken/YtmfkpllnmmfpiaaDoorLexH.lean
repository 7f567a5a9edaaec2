/-
  The words of a sentence: what the plain functions firstKind, isLetter, isDigit answer.
-/
import Derived.Test.YtmfkpllnmmfpiaaDoorRows
import Derived.Test.YtmfkpllnmmfpiaaDoorSentH
import Derived.WalkKit
import Derived.WalkSpells
import Derived.WalkLawsBesides
import Derived.Deep.QuietTactic
import Derived.BigQuiet
namespace Go.Proofs.YtmfkpllnmmfpiaaDoor
open Go.RowKit

theorem ret_bool {a b : Bool} (h : a = b) : Ending.returned (.bool a) = .returned (.bool b) := by rw [h]
theorem ret_int {k : IntKind} {a b : Int} (h : a = b) : Ending.returned (.int k a) = .returned (.int k b) := by rw [h]

set_option maxHeartbeats 400000 in
theorem isLetter_any (c : Int) (w : World) :
    Calls Tryd.prog 95 #[.int .u8 c] w fun e w' => e = .returned (.bool (letterB c)) ∧ w' = w := by
  by_cases h : 97 ≤ c
  · go_enter Tryd.func95, Tryd.ntmps95
    go_wp2
    all_goals go_ret
    all_goals exact ⟨ret_bool (by simp [letterB, *]), rfl⟩
  · have h' : c < 97 := by omega
    go_enter Tryd.func95, Tryd.ntmps95
    go_wp2
    all_goals go_ret
    all_goals exact ⟨ret_bool (by simp [letterB]; omega), rfl⟩

set_option maxHeartbeats 400000 in
theorem isDigit_any (c : Int) (w : World) :
    Calls Tryd.prog 96 #[.int .u8 c] w fun e w' => e = .returned (.bool (digitB c)) ∧ w' = w := by
  by_cases h : 48 ≤ c
  · go_enter Tryd.func96, Tryd.ntmps96
    go_wp2
    all_goals go_ret
    all_goals exact ⟨ret_bool (by simp [digitB, *]), rfl⟩
  · have h' : c < 48 := by omega
    go_enter Tryd.func96, Tryd.ntmps96
    go_wp2
    all_goals go_ret
    all_goals exact ⟨ret_bool (by simp [digitB]; omega), rfl⟩

theorem isLetter_is (c : Int) (b : Bool) (w : World) (h : letterB c = b) : Calls Tryd.prog 95 #[.int .u8 c] w fun e w' => e = .returned (.bool b) ∧ w' = w := h ▸ isLetter_any c w
theorem isDigit_is (c : Int) (b : Bool) (w : World) (h : digitB c = b) : Calls Tryd.prog 96 #[.int .u8 c] w fun e w' => e = .returned (.bool b) ∧ w' = w := h ▸ isDigit_any c w

set_option maxHeartbeats 400000 in
theorem firstKind_any (c : Int) (w : World) :
    Calls Tryd.prog 94 #[.int .u8 c] w fun e w' => e = .returned (.int .i64 (kindOf c)) ∧ w' = w := by
  cases hl : letterB c
  · go_enter Tryd.func94, Tryd.ntmps94
    go_wp2_with (go_at_call 95; refine (isLetter_any _ _).mono ?_; rintro e w' ⟨rfl, rfl⟩)
    all_goals go_ret
    all_goals exact ⟨ret_int (by simp_all [kindOf]), rfl⟩
  · go_enter Tryd.func94, Tryd.ntmps94
    go_wp2_with (go_at_call 95; refine (isLetter_any _ _).mono ?_; rintro e w' ⟨rfl, rfl⟩)
    all_goals go_ret
    all_goals exact ⟨ret_int (by simp_all [kindOf]), rfl⟩
end Go.Proofs.YtmfkpllnmmfpiaaDoor
