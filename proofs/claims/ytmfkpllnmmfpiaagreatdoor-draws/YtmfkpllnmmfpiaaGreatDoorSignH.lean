/-
  The reader's 'sign'.
-/
import Derived.Test.YtmfkpllnmmfpiaaGreatDoorTerm2H
import Derived.Test.YtmfkpllnmmfpiaaGreatDoorSentH
namespace Go.Proofs.YtmfkpllnmmfpiaaGreatDoor
open Go.RowKit

/-- A sign, as the program has it. -/
def signInt (b : Bool) : Int := if b then 0 else 1

set_option maxHeartbeats 1000000 in
set_option maxRecDepth 100000 in
theorem sign_any (s : ByteArray) (r : Nat) (st : Wd) (w : World) (hs : s.size ≤ 200) (hrd : Rd w r s st.1 st.2.1 st.2.2) (hfit : Fit s st) :
    Calls Tryz.prog 152 #[.pointer (some ⟨r, 0, none⟩)] w fun e w' => ∃ k : Int, e = .returned (.tuple #[.int .i64 k, .bool (signOf s st).1.isSome]) ∧
      Rd w' r s (signOf s st).2.1 (signOf s st).2.2.1 (signOf s st).2.2.2 ∧ Upd [r] w w' ∧ ∀ g, (signOf s st).1 = some g → k = signInt g := by
  have hsz := hfit.size
  have hrd' := hrd
  obtain ⟨hrlt, h0, h1, h2, h3, hf⟩ := hrd'
  by_cases h4 : st.1 = 4
  · have h4' : (st.1 == 4) = true := by simp [h4]
    have HE : Hid (signOf s st = (some true, wordAt s st.2.2)) := signOf_eq h4
    clear h4
    go_enter Tryz.func152, Tryz.ntmps152
    go_wp2_with (go_at_call 124; refine (next_any r s _ _ _ _ hrd (by omega) hsz).mono ?_; rintro e w1 ⟨rfl, hrd1, hu1⟩)
    go_ret2
    rw [HE.out]
    exact ⟨_, rfl, hrd1, hu1, fun g hg => by obtain rfl := Option.some.inj hg; rfl⟩
  · have h4' : (st.1 == 4) = false := by simp [h4]
    by_cases h5 : st.1 = 5
    · have h5' : (st.1 == 5) = true := by simp [h5]
      have HE : Hid (signOf s st = (some false, wordAt s st.2.2)) := signOf_ne h5
      clear h4 h5
      go_enter Tryz.func152, Tryz.ntmps152
      go_wp2_with (go_at_call 124; refine (next_any r s _ _ _ _ hrd (by omega) hsz).mono ?_; rintro e w1 ⟨rfl, hrd1, hu1⟩)
      go_ret2
      rw [HE.out]
      exact ⟨_, rfl, hrd1, hu1, fun g hg => by obtain rfl := Option.some.inj hg; rfl⟩
    · have h5' : (st.1 == 5) = false := by simp [h5]
      by_cases h6 : st.1 = 6
      · have h6' : (st.1 == 6) = true := by simp [h6]
        have HE : Hid (signOf s st = (none, (6, st.2.2, st.2.2))) := signOf_bang h6
        have hfin := hrd.set_from (f' := st.2.2) (v := st.2.2) rfl
        rw [h6] at hfin
        clear h4 h5 h6
        go_enter Tryz.func152, Tryz.ntmps152
        go_wp2
        go_ret2
        rw [HE.out]
        exact ⟨_, rfl, hfin, (Upd.refl _ _).setCell (by simp) _, fun g hg => by cases hg⟩
      · have h6' : (st.1 == 6) = false := by simp [h6]
        have HE : Hid (signOf s st = (none, st)) := signOf_no h4 h5 h6
        clear h4 h5 h6
        go_enter Tryz.func152, Tryz.ntmps152
        go_wp2
        go_ret2
        rw [HE.out]
        exact ⟨_, rfl, hrd, Upd.refl _ _, fun g hg => by cases hg⟩
end Go.Proofs.YtmfkpllnmmfpiaaGreatDoor
