/-
  A Book's Said and Classes, walked.
-/
import Derived.Test.YtmfkpllnmmfpiaaDoorSaidH
import Derived.Test.YtmfkpllnmmfpiaaDoorTextsH
import Derived.Test.YtmfkpllnmmfpiaaDoorFilledH
namespace Go.Proofs.YtmfkpllnmmfpiaaDoor
open Go.RowKit Go.Sort

theorem sortedT_permL (S : WS) : (sortedT S).Perm (textsTo S S.shapes.length) := by
  have h := (sortedT_perm S).1.2.2
  have hl := sortedT_length S
  have hl2 := textsTo_length S S.shapes.length
  have e1 : ((sortedT S).toArray.extract 0 S.shapes.length).toList = sortedT S := by
    rw [Array.toList_extract]
    simp [List.extract, List.take_of_length_le (Nat.le_of_eq hl)]
  have e2 : ((textsTo S S.shapes.length).toArray.extract 0 S.shapes.length).toList = textsTo S S.shapes.length := by
    rw [Array.toList_extract]
    simp [List.extract, List.take_of_length_le (Nat.le_of_eq hl2)]
  rw [e1, e2] at h
  exact h
theorem sortedT_nums (S : WS) : ((sortedT S).map (·.2)).Nodup ∧ ∀ t ∈ sortedT S, t.2 < (sortedT S).length := by
  have hp := sortedT_permL S
  have e : (textsTo S S.shapes.length).map (·.2) = List.range S.shapes.length := by
    unfold textsTo
    rw [List.map_map]
    exact List.map_id'' (fun _ => rfl) _
  refine ⟨(hp.map (·.2)).nodup_iff.2 (by rw [e]; exact List.nodup_range), fun t ht => ?_⟩
  have h1 := (hp.mem_iff).1 ht
  rw [sortedT_length]
  unfold textsTo at h1
  obtain ⟨i, hi, rfl⟩ := List.mem_map.1 h1
  exact List.mem_range.1 hi

def TagOK (S : WS) : Prop := ∀ x ∈ S.said, x.1 ≤ 1
set_option maxHeartbeats 1000000 in
set_option maxRecDepth 100000 in
theorem bookSaid_any (w : World) (bb : Nat) (Z : Nat → Prop) (S : WS) (h : BookAt w bb Z S) (hg : TagOK S) (ht : TextOK S) :
    Calls Tryd.prog 27 #[.pointer (some ⟨bb, 0, none⟩)] w fun e w' => ∃ v, e = .returned v ∧ Upd [] w w' ∧ StrRow w' w.heap.size v (saidOf S) := by
  obtain ⟨wb, H, hc1, hw⟩ := h.ex
  have HCl := hide (closed_made bb w h.self)
  have HC := hide (webSaid_any w wb H _ S hw h.fine.web.base (fun k hk => h.low k hk.1) (by have := h.terms; omega) (by have := h.saids; omega) hg ht.short)
  clear h hw
  go_enter Tryd.func27, Tryd.ntmps27
  go_wp2_with (first
    | (go_at_call 40; refine HCl.out.mono ?_; rintro e w2 ⟨rfl, hw2⟩; rw [hw2]; clear hw2 w2)
    | (go_at_call 49; refine HC.out.mono ?_; rintro e w3 ⟨v, rfl, hu3, hr3⟩; have Hu3 := hide hu3; have Hr3 := hide hr3; clear hu3 hr3))
  go_ret
  exact ⟨_, rfl, Hu3.out, Hr3.out⟩
set_option maxHeartbeats 1000000 in
set_option maxRecDepth 100000 in
theorem bookClasses_any (w : World) (bb : Nat) (Z : Nat → Prop) (S : WS) (h : BookAt w bb Z S) (ht : TextOK S) :
    Calls Tryd.prog 28 #[.pointer (some ⟨bb, 0, none⟩)] w fun e w' => ∃ v rs, e = .returned v ∧ Upd [] w w' ∧ ListsAt w' w.heap.size v rs (classesOf S) := by
  obtain ⟨wb, H, hc1, hw⟩ := h.ex
  have HCl := hide (closed_made bb w h.self)
  have HC := hide (webClasses_any w wb H _ S hw h.fine.web.base (fun k hk => h.low k hk.1) (by have := h.terms; omega) ht.short (sortedT_nums S).1 (sortedT_nums S).2)
  clear h hw
  go_enter Tryd.func28, Tryd.ntmps28
  go_wp2_with (first
    | (go_at_call 40; refine HCl.out.mono ?_; rintro e w2 ⟨rfl, hw2⟩; rw [hw2]; clear hw2 w2)
    | (go_at_call 50; refine HC.out.mono ?_; rintro e w3 ⟨v, rs, rfl, hu3, hr3⟩; have Hu3 := hide hu3; have Hr3 := hide hr3; clear hu3 hr3))
  go_ret
  exact ⟨_, rs, rfl, Hu3.out, Hr3.out⟩
theorem W3.tags {S : WS} {k : Nat} (h : W3 S k) (hk : k ≤ 23) (ht : TagOK S) {s : S3} (hs : s.ok) : TagOK (sayOf S s.text).2 := by
  obtain ⟨x, hx, h1, h2, h3⟩ := S3.read hs
  obtain ⟨hnar, _, _⟩ := readOf_small hx
  have hl := h.len
  have z1 := isT3_size _ _ _ h1
  have z2 := isT3_size _ _ _ h3
  have d1 := hs.dl
  have d2 := hs.dr
  have hsz : sizeS x ≤ 10 := by unfold sizeS; omega
  have E := sayM_end h.fine.web hnar (by omega)
  obtain ⟨i, j, _, _, hsd⟩ := E.said
  have ho : TagOK (sayM S x) := fun y hy => by
    rw [hsd] at hy
    simp only [List.mem_append, List.mem_singleton] at hy
    rcases hy with hy | rfl
    · exact ht y hy
    · show (if x.eq then 0 else 1) ≤ 1
      split <;> omega
  unfold sayOf
  rw [hx]
  simp only
  split
  · exact ht
  · split
    · exact ht
    · exact ho
end Go.Proofs.YtmfkpllnmmfpiaaDoor

/-
  Two Books beside each other; small sentences said, taken back.
-/
namespace Go.Proofs.YtmfkpllnmmfpiaaDoor
open Go.RowKit

/-- Two Books made since w0. -/
structure Pair (w0 w : World) (b x : Nat) (Sb Sx : WS) : Prop where
  ex : ∃ Zb Zx, BookAt w b Zb Sb ∧ BookAt w x Zx Sx ∧ (∀ k, Zb k → ¬ Zx k) ∧ ∀ k, Zb k ∨ Zx k → w0.heap.size ≤ k
  err : ErrTab w
  upd : Upd [] w0 w
  pos : 0 < w0.heap.size
theorem Pair.swap {w0 w : World} {b x : Nat} {Sb Sx : WS} (h : Pair w0 w b x Sb Sx) : Pair w0 w x b Sx Sb := by
  obtain ⟨Zb, Zx, h1, h2, h3, h4⟩ := h.ex
  exact ⟨⟨Zx, Zb, h2, h1, fun k hx hb => h3 k hb hx, fun k hk => h4 k hk.symm⟩, h.err, h.upd, h.pos⟩
theorem Pair.look {w0 w w' : World} {b x : Nat} {Sb Sx : WS} (h : Pair w0 w b x Sb Sx) (U : Upd [] w w') : Pair w0 w' b x Sb Sx := by
  obtain ⟨Zb, Zx, h1, h2, h3, h4⟩ := h.ex
  exact ⟨⟨Zb, Zx, h1.later U (fun _ _ => by simp), h2.later U (fun _ _ => by simp), h3, h4⟩, h.err.later U (by simp), h.upd.trans U, h.pos⟩
/-- What a Book answers, the other one beside it. -/
theorem Pair.step {w0 w : World} {b x : Nat} {Sb Sx Sb' : WS} (h : Pair w0 w b x Sb Sx) {f : Nat} {args : Array Value} {E : Ending} (hc : ∀ Z, BookAt w b Z Sb → Calls Tryd.prog f args w fun e w' => e = E ∧ BookAt w' b (fun k => (Z k ∨ w.heap.size ≤ k) ∧ k < w'.heap.size) Sb' ∧ ∃ L, (∀ k ∈ L, Z k) ∧ Upd L w w') :
    Calls Tryd.prog f args w fun e w' => e = E ∧ Pair w0 w' b x Sb' Sx := by
  obtain ⟨Zb, Zx, h1, h2, h3, h4⟩ := h.ex
  refine (hc Zb h1).mono fun e w' hw => ?_
  obtain ⟨he, hb, L, hL, U⟩ := hw
  have h5 := h.upd.size
  have h6 := h.pos
  refine ⟨he, ⟨_, Zx, hb, h2.later U (fun k hk hm => h3 k (hL k hm) hk), fun k hk hx => ?_, fun k hk => ?_⟩, h.err.later U (fun hm => ?_), h.upd.trans' U (fun k hk hlt => ?_), h.pos⟩
  · rcases hk.1 with h7 | h7
    · exact h3 k h7 hx
    · have := h2.low k hx
      omega
  · rcases hk with hk | hk
    · rcases hk.1 with h7 | h7
      · exact h4 k (.inl h7)
      · omega
    · exact h4 k (.inr hk)
  · have := h4 0 (.inl (hL 0 hm))
    omega
  · have := h4 k (.inl (hL k hk))
    omega
theorem Pair.book {w0 w : World} {b x : Nat} {Sb Sx : WS} (h : Pair w0 w b x Sb Sx) : ∃ Z, BookAt w b Z Sb := let ⟨Z, _, h1, _⟩ := h.ex; ⟨Z, h1⟩
theorem Pair.begin {w w1 w2 : World} {b x : Nat} {S : WS} (h1 : One w w1 b S) (h2 : One w1 w2 x S) : Pair w w2 b x S S := by
  have s1 := h1.upd.size
  have s2 := h2.upd.size
  refine ⟨⟨_, _, h1.book.later h2.upd (fun _ _ => by simp), h2.book, fun k hk hx => by omega, fun k hk => by omega⟩, h2.err, h1.upd.trans h2.upd, h1.pos⟩

/-- A Web of k small sentences, its texts short, so marked. -/
structure Good (S : WS) (k : Nat) (m : List Nat) : Prop where
  w3 : W3 S k
  text : TextOK S
  tag : TagOK S
  marks : S.marks = m
theorem Good.none : Good noWS 0 [] := ⟨W3.none, TextOK.none, fun x hx => by simp [noWS] at hx, rfl⟩
theorem Good.say {S : WS} {k : Nat} {m : List Nat} (h : Good S k m) (hk : k ≤ 23) {s : S3} (hs : s.ok) : (sayOf S s.text).1 = (k, 0, 0) ∧ Good (sayOf S s.text).2 (k + 1) m ∧ ∀ S0, Goes S0 S → Goes S0 (sayOf S s.text).2 := by
  obtain ⟨h1, h2, h3⟩ := h.w3.say hk hs
  exact ⟨h1, ⟨h2, h.w3.texts hk h.text hs, h.w3.tags hk h.tag hs, ((h3 S (Goes.refl S)).marks).trans h.marks⟩, h3⟩
theorem Good.mark {S : WS} {k : Nat} {m : List Nat} (h : Good S k m) (n : List Nat) : Good { S with marks := n } k n := ⟨h.w3.mark n, h.text.marks n, h.tag, rfl⟩
theorem Good.fill : ∀ (l : List Int) (S : WS) (k : Nat) (m : List Nat), Good S k m → k + l.length ≤ 24 → Good (fillM S l) (k + l.length) m ∧ ∀ S0, Goes S0 S → Goes S0 (fillM S l)
  | [], _, _, _, h, _ => ⟨h, fun _ hg => hg⟩
  | c :: l, S, k, m, h, hk => by
    simp only [List.length_cons] at hk
    obtain ⟨_, h1, h2⟩ := h.say (by omega) (s3Of_ok c)
    obtain ⟨h3, h4⟩ := Good.fill l _ _ _ h1 (by omega)
    have e : k + (c :: l).length = k + 1 + l.length := by simp; omega
    rw [e]
    exact ⟨h3, fun S0 hg => h4 S0 (h2 S0 hg)⟩
/-- The same sentence said so often. -/
def againM (S : WS) (c : Int) : Nat → WS
  | 0 => S
  | t + 1 => (sayOf (againM S c t) (s3Of c).text).2
theorem Good.again {S : WS} {k : Nat} {m : List Nat} (h : Good S k m) (hk : k ≤ 12) (c : Int) : ∀ t, t ≤ 4 → Good (againM S c t) (k + t) m
  | 0, _ => h
  | t + 1, ht => ((Good.again h hk c t (by omega)).say (by omega) (s3Of_ok c)).2.1
theorem unmark {S : WS} (h : S.marks = []) : ({ markM S with marks := [] } : WS) = S := by
  obtain ⟨_, _, _, _, _, _, _, _, m⟩ := S
  simp only at h
  subst h
  rfl
end Go.Proofs.YtmfkpllnmmfpiaaDoor
