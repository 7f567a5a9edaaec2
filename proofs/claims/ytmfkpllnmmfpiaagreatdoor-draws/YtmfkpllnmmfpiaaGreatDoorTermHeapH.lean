/-
  Terms in memory: how package read's terms lie there; they stay while their blocks do. Of the program only the number of the type 'read.Term' stands here.
-/
import Derived.Test.YtmfkpllnmmfpiaaGreatDoorFrameH
import Derived.Test.YtmfkpllnmmfpiaaGreatDoorSentH
import Derived.Deep.AppendLies
namespace Go.Proofs.YtmfkpllnmmfpiaaGreatDoor
open Go.RowKit

/-- Three cells: a term's. -/
abbrev V3 := Value × Value × Value
def flat3 : List V3 → List Value
  | [] => []
  | c :: cs => c.1 :: c.2.1 :: c.2.2 :: flat3 cs
theorem flat3_append (a b : List V3) : flat3 (a ++ b) = flat3 a ++ flat3 b := by
  induction a with
  | nil => rfl
  | cons c cs ih => simp [flat3, ih]
theorem flat3_length (a : List V3) : (flat3 a).length = a.length * 3 := by
  induction a with
  | nil => rfl
  | cons c cs ih => simp [flat3, ih]; omega

/-- One by one. -/
def AllIs {α β : Type} (R : α → β → Prop) : List α → List β → Prop
  | [], [] => True
  | a :: xs, b :: ys => R a b ∧ AllIs R xs ys
  | _, _ => False
theorem AllIs.length {α β : Type} {R : α → β → Prop} : ∀ {xs : List α} {ys : List β}, AllIs R xs ys → xs.length = ys.length
  | [], [], _ => rfl
  | _ :: _, _ :: _, h => by simp [AllIs.length h.2]
  | [], _ :: _, h => h.elim
  | _ :: _, [], h => h.elim
theorem AllIs.mono {α β : Type} {R R' : α → β → Prop} (hR : ∀ a b, R a b → R' a b) : ∀ {xs : List α} {ys : List β}, AllIs R xs ys → AllIs R' xs ys
  | [], [], _ => trivial
  | _ :: _, _ :: _, h => ⟨hR _ _ h.1, AllIs.mono hR h.2⟩
  | [], _ :: _, h => h.elim
  | _ :: _, [], h => h.elim
theorem AllIs.snoc {α β : Type} {R : α → β → Prop} {a : α} {b : β} (hab : R a b) : ∀ {xs : List α} {ys : List β}, AllIs R xs ys → AllIs R (xs ++ [a]) (ys ++ [b])
  | [], [], _ => ⟨hab, trivial⟩
  | _ :: _, _ :: _, h => ⟨h.1, AllIs.snoc hab h.2⟩
  | [], _ :: _, h => h.elim
  | _ :: _, [], h => h.elim

/-- Three cells that are a term: its parts' rows lie in blocks of the set F. -/
def IsTm (w : World) (F : Nat → Prop) : (n : Nat) → V3 → Tm n → Prop
  | 0, _, _ => False
  | n + 1, c, t => c.1 = .string t.name ∧ c.2.1 = .int .i64 t.place ∧
      ∃ cs : List V3, w.ownsRow 0 98 3 c.2.2 t.parts.length (flat3 cs) ∧ (∀ k, c.2.2.ownBlock = some k → F k) ∧ AllIs (IsTm w F n) cs t.parts

theorem ownsRow_of_block {w w' : World} {base e size n : Nat} {v : Value} {xs : List Value} (h : w.ownsRow base e size v n xs) (hb : ∀ k, v.ownBlock = some k → w'.heap[k]? = w.heap[k]?) : w'.ownsRow base e size v n xs := by
  refine ⟨h.1, ?_⟩
  rcases h.2 with hn | ⟨g, cap, cur, hv, hg, hh, r⟩
  · exact .inl hn
  · exact .inr ⟨g, cap, cur, hv, hg, by rw [hb g (by rw [hv]; rfl)]; exact hh, r⟩
theorem ownsRow_lt {w : World} {base e size n : Nat} {v : Value} {xs : List Value} (h : w.ownsRow base e size v n xs) {k : Nat} (hk : v.ownBlock = some k) : k < w.heap.size := (h.lt k hk).2
theorem ownsRow_base {w : World} {base base' e size n : Nat} {v : Value} {xs : List Value} (h : w.ownsRow base e size v n xs) (hb : ∀ k, v.ownBlock = some k → base' ≤ k) : w.ownsRow base' e size v n xs := by
  refine ⟨h.1, ?_⟩
  rcases h.2 with hn | ⟨g, cap, cur, hv, hg, r⟩
  · exact .inl hn
  · exact .inr ⟨g, cap, cur, hv, hb g (by rw [hv]; rfl), r⟩
theorem Upd.ownsRow {L : List Nat} {w w' : World} {base e size n : Nat} {v : Value} {xs : List Value} (hu : Upd L w w') (h : w.ownsRow base e size v n xs) (hL : ∀ k, v.ownBlock = some k → k ∉ L) : w'.ownsRow base e size v n xs :=
  ownsRow_of_block h fun k hk => hu.block k (ownsRow_lt h hk) (hL k hk)

theorem IsTm.mono {w : World} {F F' : Nat → Prop} : ∀ {n : Nat} {c : V3} {t : Tm n}, IsTm w F n c t → (∀ k, F k → k < w.heap.size → F' k) → IsTm w F' n c t
  | 0, _, _, h, _ => h.elim
  | _ + 1, _, _, ⟨h0, h1, cs, hown, hF, hall⟩, hm => ⟨h0, h1, cs, hown, fun k hk => hm k (hF k hk) (ownsRow_lt hown hk), hall.mono fun _ _ h => h.mono hm⟩
theorem IsTm.later {w w' : World} {L : List Nat} {F : Nat → Prop} (hu : Upd L w w') (hL : ∀ k, F k → k ∉ L) : ∀ {n : Nat} {c : V3} {t : Tm n}, IsTm w F n c t → IsTm w' F n c t
  | 0, _, _, h => h.elim
  | _ + 1, _, _, ⟨h0, h1, cs, hown, hF, hall⟩ => ⟨h0, h1, cs, hu.ownsRow hown (fun k hk => hL k (hF k hk)), hF, hall.mono fun _ _ h => h.later hu hL⟩
theorem IsTm.drewN {w : World} {F : Nat → Prop} {n : Nat} {c : V3} {t : Tm n} (h : IsTm w F n c t) (k : Nat) : IsTm (w.drewN k) F n c t := h.later ((Upd.refl [] w).drewN k) (fun _ _ => by simp)

/-- What a reading term's three cells look like, whatever became of it. -/
def Cells3 (c : V3) : Prop := c.1.oneCell' = true ∧ c.2.1.oneCell' = true ∧ c.2.2.oneCell' = true
theorem IsTm.cells {w : World} {F : Nat → Prop} : ∀ {n : Nat} {c : V3} {t : Tm n}, IsTm w F n c t → Cells3 c
  | 0, _, _, h => h.elim
  | _ + 1, c, _, ⟨h0, h1, cs, hown, _, _⟩ => by
    refine ⟨by rw [h0]; rfl, by rw [h1]; rfl, ?_⟩
    rcases hown.2 with ⟨hv, _⟩ | ⟨g, cap, cur, hv, _⟩ <;> (rw [hv]; rfl)
end Go.Proofs.YtmfkpllnmmfpiaaGreatDoor
