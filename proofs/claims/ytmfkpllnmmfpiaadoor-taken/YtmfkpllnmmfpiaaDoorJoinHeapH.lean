/-
  Pairs of numbers in a row that begins somewhere in its block; pairs put behind them.
-/
import Derived.Test.YtmfkpllnmmfpiaaDoorTwins2H
import Derived.Deep.Upon
namespace Go.Proofs.YtmfkpllnmmfpiaaDoor
open Go.RowKit

/-- The slice v is these pairs; its row lies in block b. -/
def PairsAt (w : World) (b : Nat) (v : Value) (ps : List (Nat × Nat)) : Prop :=
  ∃ ao off cap, v = .slice ao ps.length cap ∧ cap ≤ maxLen ∧ Came w 2 ao b off ps.length cap (flat2 ps)

theorem flat2_length (l : List (Nat × Nat)) : (flat2 l).length = l.length * 2 := by
  induction l with
  | nil => rfl
  | cons p l ih => simp [flat2, ih]; omega
theorem flat2_one : ∀ (l : List (Nat × Nat)), ∀ u ∈ flat2 l, u.oneCell' = true
  | [], u, h => by simp [flat2] at h
  | p :: l, u, h => by
    simp only [flat2, List.mem_cons] at h
    rcases h with rfl | rfl | h
    · rfl
    · rfl
    · exact flat2_one l u h

theorem PairsAt.later {w w' : World} {L : List Nat} {b : Nat} {v : Value} {ps : List (Nat × Nat)} (h : PairsAt w b v ps) (U : Upd L w w') (hb : b ∉ L) : PairsAt w' b v ps := by
  obtain ⟨ao, off, cap, hv, hm, hc⟩ := h
  refine ⟨ao, off, cap, hv, hm, hc.le, hc.addr, fun h0 => Nat.lt_of_lt_of_le (hc.lt h0) U.size, hc.oldsLen, fun j u hu => ?_, fun j hj => ?_⟩
  · have h1 := hc.olds j u hu
    exact (U.cell (p := ⟨b, off + j, none⟩) (World.block_lt_of_cell? _ _ h1) hb).trans h1
  · obtain ⟨h1, h2⟩ := hc.spare j hj
    obtain ⟨u, hu⟩ := Option.isSome_iff_exists.1 h1
    have hlt := World.block_lt_of_cell? _ _ hu
    exact ⟨by rw [U.cell (p := ⟨b, off + ps.length * 2 + j, none⟩) hlt hb]; exact h1, (U.frozen (p := ⟨b, off + ps.length * 2 + j, none⟩) hlt hb).trans h2⟩

theorem src_row {w : World} {base : Nat} {v : Value} {qs : List (Nat × Nat)} (h : w.ownsRow base 174 2 v qs.length (flat2 qs)) : Src Tryd.prog 2 175 v qs.length (flat2 qs) w := by
  rcases ownsRow_slice h with ⟨rfl, h0⟩ | ⟨g, cap, rfl, _, _⟩
  · have : qs = [] := List.eq_nil_of_length_eq_zero (by omega)
    subst this
    exact Src.ofNil w Tryd.underlying175 0
  · exact Src.ofSlice w Tryd.underlying175 _ _ _ _ (flat2_length qs) (fun j u hu => h.cells rfl j u hu) (flat2_one qs)

theorem setCells_upd (g : Nat) : ∀ (vs : List Value) (o : Nat) (w : World), Upd [g] w (w.setCells g o vs)
  | [], _, w => Upd.refl _ w
  | v :: vs, o, w => ((Upd.refl [g] w).setCell (p := ⟨g, o, none⟩) (by simp) v).trans (setCells_upd g vs (o + 1) _)

theorem firstCells_zero (ao : Option Addr) (cap : Nat) (w : World) : (Builtin.firstCells 2 0 (.slice ao 0 cap)).run Tryd.prog w = .ok #[] w := by
  cases ao with
  | none => exact run_firstCells_none w 2 0 0 cap
  | some a => exact run_firstCells_some w 2 0 a 0 cap [] rfl (fun j u hu => by simp at hu)
theorem cell_new_row {w : World} {arr : Array Value} {e j : Nat} : (w.alloc (.cells arr e)).cell? ⟨w.heap.size, j, none⟩ = arr[j]? ∧ (w.alloc (.cells arr e)).frozen? ⟨w.heap.size, j, none⟩ = false := by
  have hg : (w.alloc (.cells arr e)).heap[w.heap.size]? = some (.cells arr e) := heap_alloc_new w _
  exact ⟨cell_of_row _ _ j arr e (0, 0) hg, by unfold World.frozen?; rw [hg]; simp⟩
theorem append_pairs {w : World} {b base : Nat} {v x : Value} {ps qs : List (Nat × Nat)} (h : PairsAt w b v ps) (hx : w.ownsRow base 174 2 x qs.length (flat2 qs)) (hn : ps.length + qs.length ≤ 1000000) (ty : TypeId) :
    ∃ v' w' b', (Builtin.append_ #[175, 175] ty #[v, x]).run Tryd.prog w = .ok v' w' ∧ PairsAt w' b' v' (ps ++ qs) ∧ Upd [b] w w' ∧ (b' = b ∨ b' = w.heap.size) := by
  obtain ⟨ao, off, cap, rfl, hm, hc⟩ := h
  obtain ⟨i0, hi, hz0, hz1, hz2⟩ := info_parts info_pair
  have hs := src_row hx
  have hs' : Src Tryd.prog i0.size 175 x qs.length (flat2 qs) w := by rw [hz1]; exact hs
  have hlen : (ps ++ qs).length = ps.length + qs.length := by simp
  have hq := flat2_length qs
  by_cases hq0 : qs = []
  · subst hq0
    have hrun := run_append_nothing (P := Tryd.prog) w 175 175 ty 174 i0 Tryd.underlying175 hi ao ps.length cap hc.le x hs'
    exact ⟨_, w, b, hrun, ⟨ao, off, cap, by simp, hm, by simpa using hc⟩, Upd.refl _ _, .inl rfl⟩
  · have hqp : 0 < qs.length := List.length_pos_iff.2 hq0
    by_cases hroom : ps.length + qs.length ≤ cap
    · have hao := hc.addr (by omega)
      subst hao
      have hsp : ∀ j, j < (flat2 qs).length → j < (cap - ps.length) * 2 := fun j hj => by omega
      have hrun := run_append_room_src (P := Tryd.prog) w 175 175 ty 174 i0 Tryd.underlying175 hi b off ps.length cap x qs.length (flat2 qs) hs' hroom
        (fun j hj => by rw [hz1]; exact (hc.spare j (hsp j hj)).1) (fun j hj => by rw [hz1]; exact (hc.spare j (hsp j hj)).2)
      rw [hz1] at hrun
      refine ⟨_, _, b, hrun, ⟨_, off, cap, by rw [hlen], hm, by omega, fun _ => rfl, fun h0 => Nat.lt_of_lt_of_le (hc.lt h0) (setCells_upd b _ _ w).size, by rw [flat2_length], fun j u hu => ?_, fun j hj => ?_⟩, setCells_upd b _ _ w, .inl rfl⟩
      · rw [flat2_append] at hu
        have hp := flat2_length ps
        by_cases hj : j < (flat2 ps).length
        · rw [List.getElem?_append_left hj] at hu
          rw [World.cell?_setCells_out b _ _ _ _ (fun _ _ => .inl (by show off + j < off + ps.length * 2; omega))]
          exact hc.olds j u hu
        · rw [List.getElem?_append_right (by omega)] at hu
          have hj2 := (List.getElem?_eq_some_iff.1 hu).1
          have := World.cell?_setCells_in b (flat2 qs) (off + ps.length * 2) w (fun j hj => (hc.spare j (hsp j hj)).1) (j - (flat2 ps).length) hj2
          rw [show off + ps.length * 2 + (j - (flat2 ps).length) = off + j by omega] at this
          rw [this, ← hu, List.getElem?_eq_getElem hj2]
      · rw [hlen] at hj ⊢
        have h1 := hc.spare (qs.length * 2 + j) (by omega)
        rw [show off + ps.length * 2 + (qs.length * 2 + j) = off + (ps.length + qs.length) * 2 + j by omega] at h1
        refine ⟨?_, by rw [World.frozen?_setCells]; exact h1.2⟩
        rw [World.cell?_setCells_out b _ _ _ _ (fun _ _ => .inr (by show off + ps.length * 2 + (flat2 qs).length ≤ off + (ps.length + qs.length) * 2 + j; omega))]
        exact h1.1
    · have hold : (Builtin.firstCells i0.size ps.length (.slice ao ps.length cap)).run Tryd.prog w.drew = .ok (flat2 ps).toArray w.drew := by
        rw [hz1]
        by_cases hcap : 0 < cap
        · rw [hc.addr hcap]
          exact run_firstCells_some w.drew 2 ps.length ⟨b, off, none⟩ ps.length cap (flat2 ps) hc.oldsLen (fun j u hu => by rw [Addr.add_lit]; exact hc.olds j u hu)
        · have hle := hc.le
          have : ps = [] := List.eq_nil_of_length_eq_zero (by omega)
          subst this
          exact firstCells_zero ao cap w.drew
      have hgrow := run_append_grow_src (P := Tryd.prog) w 175 175 ty 174 i0 _ Tryd.underlying175 hi hz0 ao ps.length cap (flat2 ps) hold x qs.length (flat2 qs) hs' (by omega) (by omega) (growslice_fits (bytes := i0.bytes) (by omega) (by rw [hz2]; omega))
      have hge := grownCap_ge w (ps.length + qs.length) cap 174
      have hcm : grownCap w (ps.length + qs.length) cap 174 ≤ maxLen := grownCap_le_maxLen w _ cap 174 (by unfold maxLen; omega)
      have U : Upd [b] w (w.drew.alloc (.cells ((flat2 ps ++ flat2 qs).toArray ++ Builtin.zeroCells (Value.agg #[.int .i64 0, .int .i64 0]).cells (grownCap w (ps.length + qs.length) cap 174 - (ps.length + qs.length))) 174)) := ((Upd.refl [b] w).drew).alloc _
      refine ⟨_, _, w.heap.size, hgrow, ?_, U, .inr rfl⟩
      refine ⟨_, 0, _, by rw [hlen], hcm, by rw [hlen]; exact hge, fun _ => rfl, fun _ => by simp, by rw [flat2_length], fun j u hu => ?_, fun j hj => ?_⟩
      · have hj := (List.getElem?_eq_some_iff.1 hu).1
        rw [Nat.zero_add]
        have h1 := (cell_new_row (w := w.drew) (j := j) (e := 174) (arr := (flat2 ps ++ flat2 qs).toArray ++ Builtin.zeroCells (Value.agg #[.int .i64 0, .int .i64 0]).cells (grownCap w (ps.length + qs.length) cap 174 - (ps.length + qs.length)))).1
        rw [flat2_append] at hu hj
        refine Eq.trans h1 ?_
        rw [Array.getElem?_append_left (by simpa using hj)]
        simpa using hu
      · have h1 := cell_new_row (w := w.drew) (j := 0 + (ps ++ qs).length * 2 + j) (e := 174) (arr := (flat2 ps ++ flat2 qs).toArray ++ Builtin.zeroCells (Value.agg #[.int .i64 0, .int .i64 0]).cells (grownCap w (ps.length + qs.length) cap 174 - (ps.length + qs.length)))
        refine ⟨?_, h1.2⟩
        have e1 := h1.1
        have hp := flat2_length ps
        refine (congrArg Option.isSome e1).trans ?_
        rw [Option.isSome_iff_ne_none]
        intro e2
        rw [Array.getElem?_eq_none_iff] at e2
        have hz : (Value.agg #[.int .i64 0, .int .i64 0]).cells.size = 2 := rfl
        simp only [Array.size_append, List.size_toArray, size_zeroCells, List.length_append, hp, hq, hz] at e2
        rw [hlen] at hj
        omega

theorem wpList_append_pairs (w : World) {ops : Array Oper} {rest : List Oper} {o : Oper} {a : Act} {Q : Exit → Act → World → Prop} (hgd : o.guard = none) (s x : Operand) (ho : o.op = .call { callee := .builtin .append, args := #[s, x], argTypes := #[175, 175] })
    {b base : Nat} {v xv : Value} {ps qs : List (Nat × Nat)} (hv : a.eval s = v) (hx : a.eval x = xv) (h : PairsAt w b v ps) (hrow : w.ownsRow base 174 2 xv qs.length (flat2 qs)) (hn : ps.length + qs.length ≤ 1000000)
    (hK : ∀ v' w' b', PairsAt w' b' v' (ps ++ qs) → Upd [b] w w' → (b' = b ∨ b' = w.heap.size) → wpList Tryd.prog ops Q rest (a.put o.dst v') w') : wpList Tryd.prog ops Q (o :: rest) a w := by
  refine wpList_plain hgd fun K hK' => ?_
  obtain ⟨v', w', b', hrun, h1, h2, h3⟩ := append_pairs h hrow hn o.type
  unfold Oper.wp
  simp [execOp, ho, resolve, invoke, builtin, hv, hx, hrun, Result.andThen]
  exact hK' _ _ (hK v' w' b' h1 h2 h3)
end Go.Proofs.YtmfkpllnmmfpiaaDoor
