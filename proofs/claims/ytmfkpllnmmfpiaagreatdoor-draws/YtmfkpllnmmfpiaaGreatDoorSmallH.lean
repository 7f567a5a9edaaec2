/-
  Small calls on a Web: Here, Terms, Sayings.
-/
import Derived.Test.YtmfkpllnmmfpiaaGreatDoorNoteH
import Derived.Test.YtmfkpllnmmfpiaaGreatDoorTwins2H
namespace Go.Proofs.YtmfkpllnmmfpiaaGreatDoor
open Go.RowKit

theorem slice_len {w : World} {base e size n : Nat} {v : Value} {xs : List Value} (h : w.ownsRow base e size v n xs) : ∃ (g : Option Addr) (cap : Nat), v = .slice g n cap := by
  rcases ownsRow_slice h with ⟨rfl, rfl⟩ | ⟨g, cap, rfl, _⟩
  · exact ⟨none, 0, rfl⟩
  · exact ⟨_, cap, rfl⟩

set_option maxHeartbeats 400000 in
theorem here_any (w : World) (wb : Nat) (H : Hd) (Z : Nat → Prop) (S : WS) (h : WebAt w wb H Z S) :
    Calls Tryz.prog 56 #[.pointer (some ⟨wb, 0, none⟩)] w fun e w' => e = .returned (.int .i64 S.trail.length) ∧ w' = w := by
  obtain ⟨cls, hrow, _⟩ := h.rb
  obtain ⟨g, cap, hv⟩ := slice_len hrow
  have c0 := h.c0
  rw [hv] at c0
  clear hv hrow
  go_enter Tryz.func56, Tryz.ntmps56
  go_wp2
  go_ret
  exact ⟨rfl, rfl⟩
set_option maxHeartbeats 400000 in
theorem terms_any (w : World) (wb : Nat) (H : Hd) (Z : Nat → Prop) (S : WS) (h : WebAt w wb H Z S) :
    Calls Tryz.prog 58 #[.pointer (some ⟨wb, 0, none⟩)] w fun e w' => e = .returned (.int .i64 S.shapes.length) ∧ w' = w := by
  obtain ⟨g, cap, hv⟩ := slice_len h.rs
  have c1 := h.c1
  rw [hv] at c1
  clear hv
  go_enter Tryz.func58, Tryz.ntmps58
  go_wp2
  go_ret
  exact ⟨rfl, rfl⟩
set_option maxHeartbeats 400000 in
theorem sayings_any (w : World) (wb : Nat) (H : Hd) (Z : Nat → Prop) (S : WS) (h : WebAt w wb H Z S) :
    Calls Tryz.prog 55 #[.pointer (some ⟨wb, 0, none⟩)] w fun e w' => e = .returned (.int .i64 S.said.length) ∧ w' = w := by
  obtain ⟨g, cap, hv⟩ := slice_len h.rd
  have c5 := h.c5
  rw [hv] at c5
  clear hv
  go_enter Tryz.func55, Tryz.ntmps55
  go_wp2
  go_ret
  exact ⟨rfl, rfl⟩
end Go.Proofs.YtmfkpllnmmfpiaaGreatDoor
