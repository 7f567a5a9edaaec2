/-
  Small calls on a Web: Here, Terms, Sayings.
-/
import Derived.Test.YtmfkpllnmmfpiaaDoorNoteH
import Derived.Test.YtmfkpllnmmfpiaaDoorTwins2H
namespace Go.Proofs.YtmfkpllnmmfpiaaDoor
open Go.RowKit

theorem slice_len {w : World} {base e size n : Nat} {v : Value} {xs : List Value} (h : w.ownsRow base e size v n xs) : ∃ (g : Option Addr) (cap : Nat), v = .slice g n cap := by
  rcases ownsRow_slice h with ⟨rfl, rfl⟩ | ⟨g, cap, rfl, _⟩
  · exact ⟨none, 0, rfl⟩
  · exact ⟨_, cap, rfl⟩

set_option maxHeartbeats 400000 in
theorem here_any (w : World) (wb : Nat) (H : Hd) (Z : Nat → Prop) (S : WS) (h : WebAt w wb H Z S) :
    Calls Tryd.prog 36 #[.pointer (some ⟨wb, 0, none⟩)] w fun e w' => e = .returned (.int .i64 S.trail.length) ∧ w' = w := by
  obtain ⟨cls, hrow, _⟩ := h.rb
  obtain ⟨g, cap, hv⟩ := slice_len hrow
  have c0 := h.c0
  rw [hv] at c0
  clear hv hrow
  go_enter Tryd.func36, Tryd.ntmps36
  go_wp2
  go_ret
  exact ⟨rfl, rfl⟩
set_option maxHeartbeats 400000 in
theorem terms_any (w : World) (wb : Nat) (H : Hd) (Z : Nat → Prop) (S : WS) (h : WebAt w wb H Z S) :
    Calls Tryd.prog 38 #[.pointer (some ⟨wb, 0, none⟩)] w fun e w' => e = .returned (.int .i64 S.shapes.length) ∧ w' = w := by
  obtain ⟨g, cap, hv⟩ := slice_len h.rs
  have c1 := h.c1
  rw [hv] at c1
  clear hv
  go_enter Tryd.func38, Tryd.ntmps38
  go_wp2
  go_ret
  exact ⟨rfl, rfl⟩
set_option maxHeartbeats 400000 in
theorem sayings_any (w : World) (wb : Nat) (H : Hd) (Z : Nat → Prop) (S : WS) (h : WebAt w wb H Z S) :
    Calls Tryd.prog 35 #[.pointer (some ⟨wb, 0, none⟩)] w fun e w' => e = .returned (.int .i64 S.said.length) ∧ w' = w := by
  obtain ⟨g, cap, hv⟩ := slice_len h.rd
  have c5 := h.c5
  rw [hv] at c5
  clear hv
  go_enter Tryd.func35, Tryd.ntmps35
  go_wp2
  go_ret
  exact ⟨rfl, rfl⟩
end Go.Proofs.YtmfkpllnmmfpiaaDoor
