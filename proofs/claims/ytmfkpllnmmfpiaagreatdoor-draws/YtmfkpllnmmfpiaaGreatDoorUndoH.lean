/-
  The closures on the trail: each changes back what was changed.
-/
import Derived.Test.YtmfkpllnmmfpiaaGreatDoorSmallH
namespace Go.Proofs.YtmfkpllnmmfpiaaGreatDoor
open Go.RowKit

set_option maxHeartbeats 1000000 in
set_option maxRecDepth 100000 in
/-- A class moved: it is moved back. -/
theorem move1_any (w : World) (wb bw bf bn : Nat) (H : Hd) (Z : Nat → Prop) (S : WS) (n f : Nat) (h : WebAt w wb H Z S) (hw : w.cell? ⟨bw, 0, none⟩ = some (.pointer (some ⟨wb, 0, none⟩))) (hf : w.cell? ⟨bf, 0, none⟩ = some (.int .i64 f)) (hn : w.cell? ⟨bn, 0, none⟩ = some (.int .i64 n)) (hlt : n < S.classes.length) :
    Calls Tryz.prog 177 #[.pointer (some ⟨bf, 0, none⟩), .pointer (some ⟨bw, 0, none⟩), .pointer (some ⟨bn, 0, none⟩)] w fun e w' => e = .returned (.tuple #[]) ∧ WebAt w' wb H Z { S with classes := S.classes.set n f } ∧ Upd (H.blocks wb) w w' := by
  obtain ⟨g, cap, hcl, _, _⟩ : ∃ g cap, H.classes = .slice (some ⟨g, 0, none⟩) S.classes.length cap ∧ S.classes.length ≤ cap ∧ cap ≤ maxLen := by
    rcases ownsRow_slice h.rc with ⟨_, h0⟩ | hh
    · omega
    · exact hh
  have hrc := h.rc
  rw [hcl] at hrc
  have hcell := row1_cell hrc hlt
  have hfr := row_free hrc
  have c3 := h.c3
  rw [hcl] at c3
  have hlt' : (n : Int) < (S.classes.length : Int) := by omega
  have HW : Hid (WebAt (w.setCell ⟨g, n, none⟩ (.int .i64 f)).drew wb H Z { S with classes := S.classes.set n f }) := (h.set_class hcl).later ((Upd.refl [] _).drew) (fun _ _ => by simp)
  have HU : Hid (Upd (H.blocks wb) w (w.setCell ⟨g, n, none⟩ (.int .i64 f)).drew) := ((Upd.refl _ w).setCell (.inl (Hd.mem_classes (by rw [hcl]; rfl))) _).drew
  clear hrc hcl
  go_enter Tryz.func177, Tryz.ntmps177
  go_wp2
  go_region
  go_wp2
  go_end0
  exact ⟨rfl, HW.out, HU.out⟩

set_option maxHeartbeats 1000000 in
set_option maxRecDepth 100000 in
/-- A shape filed: it is struck. -/
theorem file1_any (w : World) (wb bw bs : Nat) (H : Hd) (Z : Nat → Prop) (S : WS) (s : Sh) (h : WebAt w wb H Z S) (hw : w.cell? ⟨bw, 0, none⟩ = some (.pointer (some ⟨wb, 0, none⟩))) (hs : BoxSh w bs s) (hg : GoodSh s) (hin : (S.alike s).isSome = true) :
    Calls Tryz.prog 178 #[.pointer (some ⟨bw, 0, none⟩), .pointer (some ⟨bs, 0, none⟩)] w fun e w' => e = .returned (.tuple #[]) ∧ WebAt w' wb H Z { S with alike := setF S.alike s none, files := S.files - 1 } ∧ Upd (H.blocks wb) w w' := by
  obtain ⟨_, v1, v2, v3, v4, v5⟩ := hs
  have c4 := h.c4
  obtain ⟨wf, hrun0, hm, ht⟩ := (h.ma.later ((Upd.refl [] w).drew) (by simp)).del s hg hin 0
  have hrun : (Builtin.delete_ #[108, 141] 0 #[.map (some H.ab), .agg #[.string s.1, .int .i64 s.2.1, .int .i64 s.2.2.1, .int .i64 s.2.2.2.1, .int .i64 s.2.2.2.2]]).run Tryz.prog w.drew = .ok (.tuple #[]) wf := hrun0
  have HW : Hid (WebAt wf wb H Z { S with alike := setF S.alike s none, files := S.files - 1 }) := (h.later ((Upd.refl [] w).drew) (fun _ _ => by simp)).set_alike ht hm
  have HU : Hid (Upd (H.blocks wb) w wf) := ((Upd.refl _ w).drew).trans ((mapTurned_upd ht).mono (fun x hx _ => by simp at hx; rw [hx]; exact H.mem_ab wb))
  clear hrun0 hm ht
  go_enter Tryz.func178, Tryz.ntmps178
  go_wp2
  go_region
  go_wp2
  go_end0
  exact ⟨rfl, HW.out, HU.out⟩
end Go.Proofs.YtmfkpllnmmfpiaaGreatDoor
