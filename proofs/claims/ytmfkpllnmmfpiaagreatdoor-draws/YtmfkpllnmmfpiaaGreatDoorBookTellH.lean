/-
  A Book's Said and Classes, walked.
-/
import Derived.Test.YtmfkpllnmmfpiaaGreatDoorSaidH
import Derived.Test.YtmfkpllnmmfpiaaGreatDoorTextsH
namespace Go.Proofs.YtmfkpllnmmfpiaaGreatDoor
open Go.RowKit Go.Sort

theorem sortedT_permL (S : WS) : (sortedT S).Perm (textsTo S S.shapes.length) := by
  have h := (sortedT_perm S).1.2.2
  have hl := sortedT_length S
  have hl2 := textsTo_length S S.shapes.length
  have e1 : ((sortedT S).toArray.extract 0 S.shapes.length).toList = sortedT S := by
    rw [Array.toList_extract]
    simp [List.extract, List.take_of_length_le (Nat.le_of_eq hl)]
  have e2 : ((textsTo S S.shapes.length).toArray.extract 0 S.shapes.length).toList = textsTo S S.shapes.length := by
    rw [Array.toList_extract]
    simp [List.extract, List.take_of_length_le (Nat.le_of_eq hl2)]
  rw [e1, e2] at h
  exact h
theorem sortedT_nums (S : WS) : ((sortedT S).map (·.2)).Nodup ∧ ∀ t ∈ sortedT S, t.2 < (sortedT S).length := by
  have hp := sortedT_permL S
  have e : (textsTo S S.shapes.length).map (·.2) = List.range S.shapes.length := by
    unfold textsTo
    rw [List.map_map]
    exact List.map_id'' (fun _ => rfl) _
  refine ⟨(hp.map (·.2)).nodup_iff.2 (by rw [e]; exact List.nodup_range), fun t ht => ?_⟩
  have h1 := (hp.mem_iff).1 ht
  rw [sortedT_length]
  unfold textsTo at h1
  obtain ⟨i, hi, rfl⟩ := List.mem_map.1 h1
  exact List.mem_range.1 hi

def TagOK (S : WS) : Prop := ∀ x ∈ S.said, x.1 ≤ 1
set_option maxHeartbeats 1000000 in
set_option maxRecDepth 100000 in
theorem bookSaid_any (w : World) (bb : Nat) (Z : Nat → Prop) (S : WS) (h : BookAt w bb Z S) (hg : TagOK S) (ht : TextOK S) :
    Calls Tryz.prog 17 #[.pointer (some ⟨bb, 0, none⟩)] w fun e w' => ∃ v, e = .returned v ∧ Upd [] w w' ∧ StrRow w' w.heap.size v (saidOf S) := by
  obtain ⟨wb, H, hc1, hw⟩ := h.ex
  have HCl := hide (closed_made bb w h.self)
  have HC := hide (webSaid_any w wb H _ S hw h.fine.web.base (fun k hk => h.low k hk.1) (by have := h.terms; omega) (by have := h.saids; omega) hg ht.short)
  clear h hw
  go_enter Tryz.func17, Tryz.ntmps17
  go_wp2_with (first
    | (go_at_call 44; refine HCl.out.mono ?_; rintro e w2 ⟨rfl, hw2⟩; rw [hw2]; clear hw2 w2)
    | (go_at_call 47; refine HC.out.mono ?_; rintro e w3 ⟨v, rfl, hu3, hr3⟩; have Hu3 := hide hu3; have Hr3 := hide hr3; clear hu3 hr3))
  go_ret
  exact ⟨_, rfl, Hu3.out, Hr3.out⟩
set_option maxHeartbeats 1000000 in
set_option maxRecDepth 100000 in
theorem bookClasses_any (w : World) (bb : Nat) (Z : Nat → Prop) (S : WS) (h : BookAt w bb Z S) (ht : TextOK S) :
    Calls Tryz.prog 20 #[.pointer (some ⟨bb, 0, none⟩)] w fun e w' => ∃ v rs, e = .returned v ∧ Upd [] w w' ∧ ListsAt w' w.heap.size v rs (classesOf S) := by
  obtain ⟨wb, H, hc1, hw⟩ := h.ex
  have HCl := hide (closed_made bb w h.self)
  have HC := hide (webClasses_any w wb H _ S hw h.fine.web.base (fun k hk => h.low k hk.1) (by have := h.terms; omega) ht.short (sortedT_nums S).1 (sortedT_nums S).2)
  clear h hw
  go_enter Tryz.func20, Tryz.ntmps20
  go_wp2_with (first
    | (go_at_call 44; refine HCl.out.mono ?_; rintro e w2 ⟨rfl, hw2⟩; rw [hw2]; clear hw2 w2)
    | (go_at_call 48; refine HC.out.mono ?_; rintro e w3 ⟨v, rs, rfl, hu3, hr3⟩; have Hu3 := hide hu3; have Hr3 := hide hr3; clear hu3 hr3))
  go_ret
  exact ⟨_, rs, rfl, Hu3.out, Hr3.out⟩
theorem W3.tags {S : WS} {k : Nat} (h : W3 S k) (hk : k ≤ 23) (ht : TagOK S) {s : S3} (hs : s.ok) : TagOK (sayOf S s.text).2 := by
  obtain ⟨x, hx, h1, h2, h3⟩ := S3.read hs
  obtain ⟨hnar, _, _⟩ := readOf_small hx
  have hl := h.len
  have z1 := isT3_size _ _ _ h1
  have z2 := isT3_size _ _ _ h3
  have d1 := hs.dl
  have d2 := hs.dr
  have hsz : sizeS x ≤ 10 := by unfold sizeS; omega
  have E := sayM_end h.fine.web hnar (by omega)
  obtain ⟨i, j, _, _, hsd⟩ := E.said
  have ho : TagOK (sayM S x) := fun y hy => by
    rw [hsd] at hy
    simp only [List.mem_append, List.mem_singleton] at hy
    rcases hy with hy | rfl
    · exact ht y hy
    · show (if x.eq then 0 else 1) ≤ 1
      split <;> omega
  unfold sayOf
  rw [hx]
  simp only
  split
  · exact ht
  · split
    · exact ht
    · exact ho
end Go.Proofs.YtmfkpllnmmfpiaaGreatDoor
