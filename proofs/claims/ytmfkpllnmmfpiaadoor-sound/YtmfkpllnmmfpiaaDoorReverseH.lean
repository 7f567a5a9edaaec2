/-
  slices.Reverse over a row of numbers of one's own.
-/
import Derived.Test.YtmfkpllnmmfpiaaDoorMoveH
namespace Go.Proofs.YtmfkpllnmmfpiaaDoor
open Go.RowKit

/-- i at both ends are changed over. -/
def revTo (l : List Nat) (i : Nat) : List Nat := (List.range l.length).map fun p => if p < i ∨ l.length < p + 1 + i then l.getD (l.length - 1 - p) 0 else l.getD p 0
theorem revTo_length (l : List Nat) (i : Nat) : (revTo l i).length = l.length := by simp [revTo]
theorem revTo_get (l : List Nat) (i p : Nat) (h : p < l.length) : (revTo l i)[p]? = some (if p < i ∨ l.length < p + 1 + i then l.getD (l.length - 1 - p) 0 else l.getD p 0) := by
  unfold revTo
  rw [List.getElem?_map, List.getElem?_range h]
  rfl
theorem revTo_zero (l : List Nat) : revTo l 0 = l := by
  refine List.ext_getElem? fun p => ?_
  by_cases h : p < l.length
  · rw [revTo_get l 0 p h, if_neg (by omega), List.getD_eq_getElem?_getD, List.getElem?_eq_getElem h]
    rfl
  · rw [List.getElem?_eq_none (by rw [revTo_length]; omega), List.getElem?_eq_none (by omega)]
theorem revTo_end (l : List Nat) (i : Nat) (hi : l.length ≤ 2 * i + 1) : revTo l i = l.reverse := by
  refine List.ext_getElem? fun p => ?_
  by_cases h : p < l.length
  · rw [revTo_get l i p h, List.getElem?_reverse h]
    by_cases hc : p < i ∨ l.length < p + 1 + i
    · rw [if_pos hc, List.getD_eq_getElem?_getD, List.getElem?_eq_getElem (by omega)]
      rfl
    · rw [if_neg hc, List.getD_eq_getElem?_getD]
      have : l.length - 1 - p = p := by omega
      rw [this, List.getElem?_eq_getElem h]
      rfl
  · rw [List.getElem?_eq_none (by rw [revTo_length]; omega), List.getElem?_eq_none (by simp; omega)]
theorem revTo_succ (l : List Nat) (i : Nat) (hi : 2 * i + 1 < l.length) : revTo l (i + 1) = ((revTo l i).set i (l.getD (l.length - 1 - i) 0)).set (l.length - 1 - i) (l.getD i 0) := by
  refine List.ext_getElem? fun p => ?_
  by_cases h : p < l.length
  · rw [revTo_get l (i + 1) p h, List.getElem?_set, List.getElem?_set, List.length_set, revTo_length, revTo_get l i p h]
    by_cases e1 : l.length - 1 - i = p
    · rw [if_pos e1, if_pos (by omega), if_pos (by omega)]
      congr 2
      omega
    · rw [if_neg e1]
      by_cases e2 : i = p
      · subst e2
        rw [if_pos rfl, if_pos (by omega), if_pos (by omega)]
      · rw [if_neg e2]
        by_cases hc : p < i ∨ l.length < p + 1 + i
        · rw [if_pos hc, if_pos (by omega)]
        · rw [if_neg hc, if_neg (by omega)]
  · rw [List.getElem?_eq_none (by rw [revTo_length]; omega), List.getElem?_eq_none (by simp [revTo_length]; omega)]
theorem revTo_getD (l : List Nat) (i p : Nat) (h1 : i ≤ p) (h2 : p + i < l.length) : (revTo l i).getD p 0 = l.getD p 0 := by
  rw [List.getD_eq_getElem?_getD, revTo_get l i p (by omega), if_neg (by omega)]
  rfl

set_option maxHeartbeats 2000000 in
set_option maxRecDepth 100000 in
theorem reverse_any (w : World) (base : Nat) (v : Value) (l : List Nat) (h : w.ownsRow base 3 1 v l.length (intsOf l)) (hl : l.length ≤ 1000) :
    Calls Tryd.prog 64 #[v] w fun e w' => e = .returned (.tuple #[]) ∧ w'.ownsRow base 3 1 v l.length (intsOf l.reverse) ∧ Upd v.ownBlock.toList w w' := by
  rcases ownsRow_slice h with ⟨rfl, h0⟩ | ⟨g, cap, rfl, hc, hm⟩
  · have e : l = [] := List.eq_nil_of_length_eq_zero h0
    subst e
    have Hh := hide h
    clear h h0
    go_enter Tryd.func64, Tryd.ntmps64
    go_wp2
    go_loopw [2, 3] (fun i j wr => i = .int .i64 0 ∧ j = .int .i64 (-1) ∧ wr = w) (fun _ _ _ => 0)
    case atStart => exact ⟨rfl, rfl, rfl⟩
    case round =>
      obtain ⟨rfl, rfl, rfl⟩ := hrel
      go_wp2
      go_end0
      exact ⟨rfl, Hh.out, Upd.refl _ _⟩
  · have hstart : w.ownsRow base 3 1 (.slice (some ⟨g, 0, none⟩) l.length cap) l.length (intsOf (revTo l 0)) ∧ Upd [g] w w := by rw [revTo_zero]; exact ⟨h, Upd.refl _ _⟩
    unfold maxLen at hm
    clear h
    go_enter Tryd.func64, Tryd.ntmps64
    go_wp2
    go_loopw [2, 3] (fun i j wr => ∃ k : Nat, 2 * k ≤ l.length + 1 ∧ i = .int .i64 k ∧ j = .int .i64 ((l.length : Int) - 1 - k) ∧ Hid (wr.ownsRow base 3 1 (.slice (some ⟨g, 0, none⟩) l.length cap) l.length (intsOf (revTo l k)) ∧ Upd [g] w wr)) (fun i _ _ => l.length - (intOf i).toNat)
    case atStart => exact ⟨0, by omega, rfl, by simp, hstart⟩
    case round =>
      obtain ⟨k, hk, rfl, rfl, HR⟩ := hrel
      clear hstart
      by_cases hlt : 2 * k + 1 < l.length
      · obtain ⟨q, hq⟩ : ∃ q : Nat, l.length - 1 - k = q := ⟨_, rfl⟩
        have e : ((l.length : Int) - 1 - (k : Int)) = (q : Int) := by omega
        rw [e]
        have hkq : (k : Int) < (q : Int) := by omega
        have hqn : (q : Int) < (l.length : Int) := by omega
        have hkn : (k : Int) < (l.length : Int) := by omega
        obtain ⟨hrow, hupd⟩ := HR.out
        have hlen := revTo_length l k
        have c1 := row1_cell hrow (i := k) (by omega)
        have c2 := row1_cell hrow (i := q) (by omega)
        rw [revTo_getD l k k (Nat.le_refl _) (by omega)] at c1
        rw [revTo_getD l k q (by omega) (by omega)] at c2
        have f1 := hrow.frozenAt k
        have f2 := hrow.frozenAt q
        have hne : k ≠ q := by omega
        have HN : Hid (((wr.setCell ⟨g, k, none⟩ (.int .i64 (l.getD q 0 : Nat))).setCell ⟨g, q, none⟩ (.int .i64 (l.getD k 0 : Nat))).ownsRow base 3 1 (.slice (some ⟨g, 0, none⟩) l.length cap) l.length (intsOf (revTo l (k + 1))) ∧ Upd [g] w ((wr.setCell ⟨g, k, none⟩ (.int .i64 (l.getD q 0 : Nat))).setCell ⟨g, q, none⟩ (.int .i64 (l.getD k 0 : Nat)))) := by
          refine ⟨?_, (hupd.setCell (by simp) _).setCell (by simp) _⟩
          rw [revTo_succ l k hlt, hq]
          exact ownsRow_set1 (ownsRow_set1 hrow)
        clear HR hrow hupd e
        generalize l.getD q 0 = b at *
        generalize l.getD k 0 = a at *
        have hqw : -9223372036854775808 ≤ (q : Int) - 1 := by omega
        go_wp2
        go_region
        all_goals (
          go_wp2
          refine ⟨⟨k + 1, by omega, by go_num, by congr 1; omega, ?_⟩, by simp [intOf]; omega⟩
          exact ⟨(Upd.refl [] _).drew.ownsRow HN.out.1 (fun _ _ => by simp), HN.out.2.drew⟩)
      · have hge : ¬ (k : Int) < (l.length : Int) - 1 - (k : Int) := by omega
        have HF : Hid (wr.ownsRow base 3 1 (.slice (some ⟨g, 0, none⟩) l.length cap) l.length (intsOf l.reverse)) := by
          have := HR.out.1
          rw [revTo_end l k (by omega)] at this
          exact this
        have HU := hide HR.out.2
        clear HR
        go_wp2
        go_end0
        exact ⟨rfl, HF.out, HU.out⟩
end Go.Proofs.YtmfkpllnmmfpiaaDoor
