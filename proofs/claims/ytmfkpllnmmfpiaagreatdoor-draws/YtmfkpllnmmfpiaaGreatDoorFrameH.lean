/-
  A frame: a call that may write some blocks that were there, and makes new ones. Nothing of the program is in this text.
-/
import Derived.WalkKit
import Derived.WalkSpells
import Derived.Deep.QuietTactic
import Derived.BigQuiet
import Derived.WalkLawsBesides
import Derived.Handy
import Derived.Deep.RegionWith
import Derived.BigRegion
import Derived.Deep.RegionHeld3
import Derived.Deep.DeepCutAuto
namespace Go.Proofs.YtmfkpllnmmfpiaaGreatDoor
open Go.RowKit

/-- Of the blocks that were there at most those on the list have turned. -/
structure Upd (L : List Nat) (w w' : World) : Prop where
  os : w'.os = w.os
  tape : w'.tape = w.tape
  output : w'.output = w.output
  size : w.heap.size ≤ w'.heap.size
  block : ∀ k, k < w.heap.size → k ∉ L → w'.heap[k]? = w.heap[k]?

theorem Upd.refl (L : List Nat) (w : World) : Upd L w w := ⟨rfl, rfl, rfl, Nat.le_refl _, fun _ _ _ => rfl⟩
theorem Upd.trans' {L L' : List Nat} {a b c : World} (h : Upd L a b) (k : Upd L' b c) (hL : ∀ x, x ∈ L' → x < a.heap.size → x ∈ L) : Upd L a c :=
  ⟨k.os.trans h.os, k.tape.trans h.tape, k.output.trans h.output, Nat.le_trans h.size k.size,
    fun i hi hn => (k.block i (Nat.lt_of_lt_of_le hi h.size) (fun hm => hn (hL i hm hi))).trans (h.block i hi hn)⟩
theorem Upd.trans {L : List Nat} {a b c : World} (h : Upd L a b) (k : Upd L b c) : Upd L a c := h.trans' k (fun _ hx _ => hx)
theorem Upd.mono {L L' : List Nat} {a b : World} (h : Upd L a b) (hL : ∀ x, x ∈ L → x < a.heap.size → x ∈ L') : Upd L' a b :=
  ⟨h.os, h.tape, h.output, h.size, fun i hi hn => h.block i hi (fun hm => hn (hL i hm hi))⟩
theorem Upd.drew {L : List Nat} {a w : World} (h : Upd L a w) : Upd L a w.drew := ⟨h.os, h.tape, h.output, h.size, h.block⟩
theorem Upd.drewN {L : List Nat} {a w : World} (h : Upd L a w) (n : Nat) : Upd L a (w.drewN n) := h.trans ⟨rfl, rfl, rfl, Nat.le_refl _, fun _ _ _ => rfl⟩
theorem Upd.alloc {L : List Nat} {a w : World} (h : Upd L a w) (o : Obj) : Upd L a (w.alloc o) :=
  h.trans ⟨rfl, rfl, rfl, by simp, fun _ hk _ => Below.heap_alloc _ _ _ hk⟩
theorem Upd.setCell {L : List Nat} {a w : World} (h : Upd L a w) {p : Addr} (hp : p.block ∈ L ∨ a.heap.size ≤ p.block) (u : Value) : Upd L a (w.setCell p u) :=
  ⟨h.os, h.tape, h.output, by simpa [World.setCell] using h.size, fun k hk hn => by
    have hne : k ≠ p.block := by
      rcases hp with hp | hp
      · intro e; exact hn (e ▸ hp)
      · omega
    rw [Below.heap_setCell _ _ _ _ hne]
    exact h.block k hk hn⟩
theorem Upd.of_below {L : List Nat} {w w' : World} (h : Below w.heap.size w w') : Upd L w w' := ⟨h.os, h.tape, h.output, h.size, fun k hk _ => h.block k hk⟩
theorem Upd.below {w w' : World} (h : Upd [] w w') : Below w.heap.size w w' := ⟨h.os, h.tape, h.output, h.size, fun k hk => h.block k hk (by simp)⟩
theorem Upd.below_of {L : List Nat} {B : Nat} {w w' : World} (h : Upd L w w') (hB : B ≤ w.heap.size) (hL : ∀ x, x ∈ L → B ≤ x) : Below B w w' :=
  ⟨h.os, h.tape, h.output, h.size, fun k hk => h.block k (by omega) (fun hm => by have := hL k hm; omega)⟩
theorem Upd.cell {L : List Nat} {w w' : World} (h : Upd L w w') {p : Addr} (hp : p.block < w.heap.size) (hn : p.block ∉ L) : w'.cell? p = w.cell? p := World.cell?_of_block (w := w) (h.block p.block hp hn)
theorem Upd.frozen {L : List Nat} {w w' : World} (h : Upd L w w') {p : Addr} (hp : p.block < w.heap.size) (hn : p.block ∉ L) : w'.frozen? p = w.frozen? p := World.frozen?_of_block (w := w) (h.block p.block hp hn)
theorem Upd.grown {L : List Nat} {a w w' : World} {row : Option Nat} (h : Upd L a w) (hg : w.grownBy w' row) (hr : ∀ k, row = some k → k ∈ L ∨ a.heap.size ≤ k) : Upd L a w' :=
  ⟨hg.os.trans h.os, hg.tape.trans h.tape, hg.output.trans h.output, Nat.le_trans h.size hg.size, fun k hk hn => by
    rw [hg.block k (Nat.lt_of_lt_of_le hk h.size) (fun e => by rcases hr k e.symm with h1 | h1; exact hn h1; omega)]
    exact h.block k hk hn⟩
theorem Upd.of_grown {w w' : World} {row : Option Nat} (hg : w.grownBy w' row) : Upd row.toList w w' :=
  ⟨hg.os, hg.tape, hg.output, hg.size, fun k hk hn => hg.block k hk (fun e => hn (by rw [← e]; simp))⟩
end Go.Proofs.YtmfkpllnmmfpiaaGreatDoor
