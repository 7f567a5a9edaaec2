/-
  Pairs of numbers in a row that begins somewhere in its block; pairs put behind them.
-/
import Derived.Test.YtmfkpllnmmfpiaaGreatDoorTwins2H
import Derived.Deep.Upon
import Derived.Test.YtmfkpllnmmfpiaaGreatDoorReadSizeH
import Derived.Deep.LoopGhost
import Derived.Deep.DeepMust
namespace Go.Proofs.YtmfkpllnmmfpiaaGreatDoor
open Go.RowKit

/-- The slice v is these pairs; its row lies in block b. -/
def PairsAt (w : World) (b : Nat) (v : Value) (ps : List (Nat × Nat)) : Prop :=
  ∃ ao off cap, v = .slice ao ps.length cap ∧ cap ≤ maxLen ∧ Came w 2 ao b off ps.length cap (flat2 ps)

theorem flat2_length (l : List (Nat × Nat)) : (flat2 l).length = l.length * 2 := by
  induction l with
  | nil => rfl
  | cons p l ih => simp [flat2, ih]; omega
theorem flat2_one : ∀ (l : List (Nat × Nat)), ∀ u ∈ flat2 l, u.oneCell' = true
  | [], u, h => by simp [flat2] at h
  | p :: l, u, h => by
    simp only [flat2, List.mem_cons] at h
    rcases h with rfl | rfl | h
    · rfl
    · rfl
    · exact flat2_one l u h

theorem PairsAt.later {w w' : World} {L : List Nat} {b : Nat} {v : Value} {ps : List (Nat × Nat)} (h : PairsAt w b v ps) (U : Upd L w w') (hb : b ∉ L) : PairsAt w' b v ps := by
  obtain ⟨ao, off, cap, hv, hm, hc⟩ := h
  refine ⟨ao, off, cap, hv, hm, hc.le, hc.addr, fun h0 => Nat.lt_of_lt_of_le (hc.lt h0) U.size, hc.oldsLen, fun j u hu => ?_, fun j hj => ?_⟩
  · have h1 := hc.olds j u hu
    exact (U.cell (p := ⟨b, off + j, none⟩) (World.block_lt_of_cell? _ _ h1) hb).trans h1
  · obtain ⟨h1, h2⟩ := hc.spare j hj
    obtain ⟨u, hu⟩ := Option.isSome_iff_exists.1 h1
    have hlt := World.block_lt_of_cell? _ _ hu
    exact ⟨by rw [U.cell (p := ⟨b, off + ps.length * 2 + j, none⟩) hlt hb]; exact h1, (U.frozen (p := ⟨b, off + ps.length * 2 + j, none⟩) hlt hb).trans h2⟩

theorem src_row {w : World} {base : Nat} {v : Value} {qs : List (Nat × Nat)} (h : w.ownsRow base 231 2 v qs.length (flat2 qs)) : Src Tryz.prog 2 232 v qs.length (flat2 qs) w := by
  rcases ownsRow_slice h with ⟨rfl, h0⟩ | ⟨g, cap, rfl, _, _⟩
  · have : qs = [] := List.eq_nil_of_length_eq_zero (by omega)
    subst this
    exact Src.ofNil w Tryz.underlying232 0
  · exact Src.ofSlice w Tryz.underlying232 _ _ _ _ (flat2_length qs) (fun j u hu => h.cells rfl j u hu) (flat2_one qs)

theorem setCells_upd (g : Nat) : ∀ (vs : List Value) (o : Nat) (w : World), Upd [g] w (w.setCells g o vs)
  | [], _, w => Upd.refl _ w
  | v :: vs, o, w => ((Upd.refl [g] w).setCell (p := ⟨g, o, none⟩) (by simp) v).trans (setCells_upd g vs (o + 1) _)

theorem firstCells_zero (ao : Option Addr) (cap : Nat) (w : World) : (Builtin.firstCells 2 0 (.slice ao 0 cap)).run Tryz.prog w = .ok #[] w := by
  cases ao with
  | none => exact run_firstCells_none w 2 0 0 cap
  | some a => exact run_firstCells_some w 2 0 a 0 cap [] rfl (fun j u hu => by simp at hu)
theorem cell_new_row {w : World} {arr : Array Value} {e j : Nat} : (w.alloc (.cells arr e)).cell? ⟨w.heap.size, j, none⟩ = arr[j]? ∧ (w.alloc (.cells arr e)).frozen? ⟨w.heap.size, j, none⟩ = false := by
  have hg : (w.alloc (.cells arr e)).heap[w.heap.size]? = some (.cells arr e) := heap_alloc_new w _
  exact ⟨cell_of_row _ _ j arr e (0, 0) hg, by unfold World.frozen?; rw [hg]; simp⟩
theorem append_pairs {w : World} {b base : Nat} {v x : Value} {ps qs : List (Nat × Nat)} (h : PairsAt w b v ps) (hx : w.ownsRow base 231 2 x qs.length (flat2 qs)) (hn : ps.length + qs.length ≤ 1000000) (ty : TypeId) :
    ∃ v' w' b', (Builtin.append_ #[232, 232] ty #[v, x]).run Tryz.prog w = .ok v' w' ∧ PairsAt w' b' v' (ps ++ qs) ∧ Upd [b] w w' ∧ (b' = b ∨ b' = w.heap.size) := by
  obtain ⟨ao, off, cap, rfl, hm, hc⟩ := h
  obtain ⟨i0, hi, hz0, hz1, hz2⟩ := info_parts info_pair
  have hs := src_row hx
  have hs' : Src Tryz.prog i0.size 232 x qs.length (flat2 qs) w := by rw [hz1]; exact hs
  have hlen : (ps ++ qs).length = ps.length + qs.length := by simp
  have hq := flat2_length qs
  by_cases hq0 : qs = []
  · subst hq0
    have hrun := run_append_nothing (P := Tryz.prog) w 232 232 ty 231 i0 Tryz.underlying232 hi ao ps.length cap hc.le x hs'
    exact ⟨_, w, b, hrun, ⟨ao, off, cap, by simp, hm, by simpa using hc⟩, Upd.refl _ _, .inl rfl⟩
  · have hqp : 0 < qs.length := List.length_pos_iff.2 hq0
    by_cases hroom : ps.length + qs.length ≤ cap
    · have hao := hc.addr (by omega)
      subst hao
      have hsp : ∀ j, j < (flat2 qs).length → j < (cap - ps.length) * 2 := fun j hj => by omega
      have hrun := run_append_room_src (P := Tryz.prog) w 232 232 ty 231 i0 Tryz.underlying232 hi b off ps.length cap x qs.length (flat2 qs) hs' hroom
        (fun j hj => by rw [hz1]; exact (hc.spare j (hsp j hj)).1) (fun j hj => by rw [hz1]; exact (hc.spare j (hsp j hj)).2)
      rw [hz1] at hrun
      refine ⟨_, _, b, hrun, ⟨_, off, cap, by rw [hlen], hm, by omega, fun _ => rfl, fun h0 => Nat.lt_of_lt_of_le (hc.lt h0) (setCells_upd b _ _ w).size, by rw [flat2_length], fun j u hu => ?_, fun j hj => ?_⟩, setCells_upd b _ _ w, .inl rfl⟩
      · rw [flat2_append] at hu
        have hp := flat2_length ps
        by_cases hj : j < (flat2 ps).length
        · rw [List.getElem?_append_left hj] at hu
          rw [World.cell?_setCells_out b _ _ _ _ (fun _ _ => .inl (by show off + j < off + ps.length * 2; omega))]
          exact hc.olds j u hu
        · rw [List.getElem?_append_right (by omega)] at hu
          have hj2 := (List.getElem?_eq_some_iff.1 hu).1
          have := World.cell?_setCells_in b (flat2 qs) (off + ps.length * 2) w (fun j hj => (hc.spare j (hsp j hj)).1) (j - (flat2 ps).length) hj2
          rw [show off + ps.length * 2 + (j - (flat2 ps).length) = off + j by omega] at this
          rw [this, ← hu, List.getElem?_eq_getElem hj2]
      · rw [hlen] at hj ⊢
        have h1 := hc.spare (qs.length * 2 + j) (by omega)
        rw [show off + ps.length * 2 + (qs.length * 2 + j) = off + (ps.length + qs.length) * 2 + j by omega] at h1
        refine ⟨?_, by rw [World.frozen?_setCells]; exact h1.2⟩
        rw [World.cell?_setCells_out b _ _ _ _ (fun _ _ => .inr (by show off + ps.length * 2 + (flat2 qs).length ≤ off + (ps.length + qs.length) * 2 + j; omega))]
        exact h1.1
    · have hold : (Builtin.firstCells i0.size ps.length (.slice ao ps.length cap)).run Tryz.prog w.drew = .ok (flat2 ps).toArray w.drew := by
        rw [hz1]
        by_cases hcap : 0 < cap
        · rw [hc.addr hcap]
          exact run_firstCells_some w.drew 2 ps.length ⟨b, off, none⟩ ps.length cap (flat2 ps) hc.oldsLen (fun j u hu => by rw [Addr.add_lit]; exact hc.olds j u hu)
        · have hle := hc.le
          have : ps = [] := List.eq_nil_of_length_eq_zero (by omega)
          subst this
          exact firstCells_zero ao cap w.drew
      have hgrow := run_append_grow_src (P := Tryz.prog) w 232 232 ty 231 i0 _ Tryz.underlying232 hi hz0 ao ps.length cap (flat2 ps) hold x qs.length (flat2 qs) hs' (by omega) (by omega) (growslice_fits (bytes := i0.bytes) (by omega) (by rw [hz2]; omega))
      have hge := grownCap_ge w (ps.length + qs.length) cap 231
      have hcm : grownCap w (ps.length + qs.length) cap 231 ≤ maxLen := grownCap_le_maxLen w _ cap 231 (by unfold maxLen; omega)
      have U : Upd [b] w (w.drew.alloc (.cells ((flat2 ps ++ flat2 qs).toArray ++ Builtin.zeroCells (Value.agg #[.int .i64 0, .int .i64 0]).cells (grownCap w (ps.length + qs.length) cap 231 - (ps.length + qs.length))) 231)) := ((Upd.refl [b] w).drew).alloc _
      refine ⟨_, _, w.heap.size, hgrow, ?_, U, .inr rfl⟩
      refine ⟨_, 0, _, by rw [hlen], hcm, by rw [hlen]; exact hge, fun _ => rfl, fun _ => by simp, by rw [flat2_length], fun j u hu => ?_, fun j hj => ?_⟩
      · have hj := (List.getElem?_eq_some_iff.1 hu).1
        rw [Nat.zero_add]
        have h1 := (cell_new_row (w := w.drew) (j := j) (e := 231) (arr := (flat2 ps ++ flat2 qs).toArray ++ Builtin.zeroCells (Value.agg #[.int .i64 0, .int .i64 0]).cells (grownCap w (ps.length + qs.length) cap 231 - (ps.length + qs.length)))).1
        rw [flat2_append] at hu hj
        refine Eq.trans h1 ?_
        rw [Array.getElem?_append_left (by simpa using hj)]
        simpa using hu
      · have h1 := cell_new_row (w := w.drew) (j := 0 + (ps ++ qs).length * 2 + j) (e := 231) (arr := (flat2 ps ++ flat2 qs).toArray ++ Builtin.zeroCells (Value.agg #[.int .i64 0, .int .i64 0]).cells (grownCap w (ps.length + qs.length) cap 231 - (ps.length + qs.length)))
        refine ⟨?_, h1.2⟩
        have e1 := h1.1
        have hp := flat2_length ps
        refine (congrArg Option.isSome e1).trans ?_
        rw [Option.isSome_iff_ne_none]
        intro e2
        rw [Array.getElem?_eq_none_iff] at e2
        have hz : (Value.agg #[.int .i64 0, .int .i64 0]).cells.size = 2 := rfl
        simp only [Array.size_append, List.size_toArray, size_zeroCells, List.length_append, hp, hq, hz] at e2
        rw [hlen] at hj
        omega

theorem wpList_append_pairs (w : World) {ops : Array Oper} {rest : List Oper} {o : Oper} {a : Act} {Q : Exit → Act → World → Prop} (hgd : o.guard = none) (s x : Operand) (ho : o.op = .call { callee := .builtin .append, args := #[s, x], argTypes := #[232, 232] })
    {b base : Nat} {v xv : Value} {ps qs : List (Nat × Nat)} (hv : a.eval s = v) (hx : a.eval x = xv) (h : PairsAt w b v ps) (hrow : w.ownsRow base 231 2 xv qs.length (flat2 qs)) (hn : ps.length + qs.length ≤ 1000000)
    (hK : ∀ v' w' b', PairsAt w' b' v' (ps ++ qs) → Upd [b] w w' → (b' = b ∨ b' = w.heap.size) → wpList Tryz.prog ops Q rest (a.put o.dst v') w') : wpList Tryz.prog ops Q (o :: rest) a w := by
  refine wpList_plain hgd fun K hK' => ?_
  obtain ⟨v', w', b', hrun, h1, h2, h3⟩ := append_pairs h hrow hn o.type
  unfold Oper.wp
  simp [execOp, ho, resolve, invoke, builtin, hv, hx, hrun, Result.andThen]
  exact hK' _ _ (hK v' w' b' h1 h2 h3)
end Go.Proofs.YtmfkpllnmmfpiaaGreatDoor

/-
  'join', walked.
-/
namespace Go.Proofs.YtmfkpllnmmfpiaaGreatDoor
open Go.RowKit

/-- Where the loop of 'join' stands: the pairs in a row of their own, the Web. -/
structure JoinAt (w wr : World) (wb : Nat) (H : Hd) (Z : Nat → Prop) (b : Nat) (v : Value) (ps : List (Nat × Nat)) (S : WS) : Prop where
  ex : ∃ H', WebAt wr wb H' (fun k => (Z k ∨ w.heap.size ≤ k) ∧ k ≠ b ∧ k < wr.heap.size) S ∧ ∀ k ∈ H'.blocks wb, k ∈ H.blocks wb ∨ w.heap.size ≤ k
  row : PairsAt wr b v ps
  new : w.heap.size ≤ b
  upd : Upd (H.blocks wb) w wr
/-- And what it still comes to. -/
def JoinRel (w wr : World) (wb : Nat) (H : Hd) (Z : Nat → Prop) (T : WS) (k : Nat) (v : Value) : Prop :=
  ∃ b ps R, need ps R ≤ k ∧ joinF k ps R = T ∧ Joining ps R ∧ R.classes.length ≤ 400 ∧ R.trail.length + 1000 * reps R R.classes.length ≤ 5000000 ∧ R.files + 1000 * reps R R.classes.length ≤ 5000000 ∧ JoinAt w wr wb H Z b v ps R

theorem PairsAt.tail {w : World} {b : Nat} {v : Value} {p : Nat × Nat} {ps : List (Nat × Nat)} (h : PairsAt w b v (p :: ps)) : ∃ off cap, v = .slice (some ⟨b, off, none⟩) (ps.length + 1) (cap + 1) ∧ cap + 1 ≤ maxLen ∧ ps.length ≤ cap ∧ w.cell? ⟨b, off, none⟩ = some (.int .i64 p.1) ∧ w.cell? ⟨b, off + 1, none⟩ = some (.int .i64 p.2) ∧ ∃ off2, ((cap = 0 ∧ off2 = off) ∨ (∃ c, cap = c + 1 ∧ off2 = off + 2)) ∧ PairsAt w b (.slice (some ⟨b, off2, none⟩) ps.length cap) ps := by
  obtain ⟨ao, off, cap, rfl, hm, hc⟩ := h
  have hle := hc.le
  simp only [List.length_cons] at hle
  obtain ⟨c, rfl⟩ : ∃ c, cap = c + 1 := ⟨cap - 1, by omega⟩
  have hao := hc.addr (by omega)
  subst hao
  refine ⟨off, c, rfl, hm, by omega, hc.olds 0 _ rfl, hc.olds 1 _ rfl, ?_⟩
  rcases Nat.eq_zero_or_pos c with rfl | hpos
  · have hps : ps = [] := List.eq_nil_of_length_eq_zero (by omega)
    subst hps
    exact ⟨off, .inl ⟨rfl, rfl⟩, _, off, 0, rfl, by simp [maxLen], by simp, fun h => by omega, fun h => by omega, rfl, fun j u hu => by simp [flat2] at hu, fun j hj => by simp at hj⟩
  refine ⟨off + 2, .inr ⟨c - 1, by omega, rfl⟩, _, off + 2, c, rfl, by omega, by omega, fun _ => rfl, fun _ => hc.lt (by omega), flat2_length ps, fun j u hu => ?_, fun j hj => ?_⟩
  · have := hc.olds (j + 2) u (by simpa [flat2] using hu)
    rw [show off + 2 + j = off + (j + 2) by omega]
    exact this
  · have := hc.spare j (by simp only [List.length_cons]; omega)
    simp only [List.length_cons] at this
    rw [show off + 2 + ps.length * 2 + j = off + (ps.length + 1) * 2 + j by omega]
    exact this

theorem JoinRel.skip {w wr : World} {wb b k off cap : Nat} {H : Hd} {Z : Nat → Prop} {T R : WS} {v : Value} {p : Nat × Nat} {ps : List (Nat × Nat)} (hA : JoinAt w wr wb H Z b v (p :: ps) R) (hJ : Joining (p :: ps) R) (hT : joinF (k + 1) (p :: ps) R = T) (hneed : need (p :: ps) R ≤ k + 1) (hn : R.classes.length ≤ 400) (htr : R.trail.length + 1000 * reps R R.classes.length ≤ 5000000) (hfl : R.files + 1000 * reps R R.classes.length ≤ 5000000)
    (htail : PairsAt wr b (.slice (some ⟨b, off, none⟩) ps.length cap) ps) (he : classAt R p.1 = classAt R p.2) : JoinRel w wr.drew wb H Z T k (.slice (some ⟨b, off, none⟩) ps.length cap) := by
  obtain ⟨⟨H', hw, hH⟩, _, hnew, hu⟩ := hA
  refine ⟨b, ps, R, by unfold need at hneed ⊢; simp only [List.length_cons] at hneed; omega, by rw [joinF, if_pos he] at hT; exact hT, hJ.skip he, hn, htr, hfl, ⟨H', hw.later ((Upd.refl [] wr).drew) (fun _ _ => by simp), hH⟩, htail.later ((Upd.refl [] wr).drew) (by simp), hnew, hu.drew⟩

theorem PairsAt.joined {w wr w3 w4 : World} {wb b : Nat} {H' H3 : Hd} {Z : Nat → Prop} {R M : WS} {v : Value} {ps : List (Nat × Nat)} (h : PairsAt wr b v ps) (hbw : b < wr.heap.size) (hw : WebAt wr wb H' (fun k => (Z k ∨ w.heap.size ≤ k) ∧ k ≠ b ∧ k < wr.heap.size) R) (hu3 : Upd (H'.blocks wb) wr.drew w3)
    (hw3 : WebAt w3 wb H3 (fun k => ((Z k ∨ w.heap.size ≤ k) ∧ k ≠ b ∧ k < wr.heap.size) ∨ wr.drew.heap.size ≤ k) M) (hu4 : Upd (H3.blocks wb) w3 w4) : PairsAt w4 b v ps := by
  have e : wr.drew.heap.size = wr.heap.size := rfl
  refine ((h.later ((Upd.refl [] wr).drew) (by simp)).later hu3 (fun hm => (hw.inZ b hm).2.1 rfl)).later hu4 (fun hm => ?_)
  rcases hw3.inZ b hm with h1 | h1
  · exact h1.2.1 rfl
  · omega

theorem JoinRel.go {w wr w3 w4 w5 : World} {wb b b5 k : Nat} {H H' H3 : Hd} {Z : Nat → Prop} {T R : WS} {p : Nat × Nat} {ps : List (Nat × Nat)} {bk v v5 v0 : Value} (hA : JoinAt w wr wb H Z b v0 (p :: ps) R) (hbw : b < wr.heap.size) (hH : ∀ k ∈ H'.blocks wb, k ∈ H.blocks wb ∨ w.heap.size ≤ k)
    (hT : joinF (k + 1) (p :: ps) R = T) (hneed : need (p :: ps) R ≤ k + 1) (hn : R.classes.length ≤ 400) (htr : R.trail.length + 1000 * reps R R.classes.length ≤ 5000000) (hfl : R.files + 1000 * reps R R.classes.length ≤ 5000000) (he : ¬ classAt R p.1 = classAt R p.2)
    (hX : Joining (ps ++ (twinsM (moveM R (classAt R p.2) (classAt R p.1))).1) (twinsM (moveM R (classAt R p.2) (classAt R p.1))).2 ∧ Joined R (twinsM (moveM R (classAt R p.2) (classAt R p.1))).2 ∧ (twinsM (moveM R (classAt R p.2) (classAt R p.1))).1.length ≤ R.classes.length ∧ reps (twinsM (moveM R (classAt R p.2) (classAt R p.1))).2 R.classes.length + 1 = reps R R.classes.length ∧ Base (moveM R (classAt R p.2) (classAt R p.1)))
    (hu3 : Upd (H'.blocks wb) wr.drew w3) (hH3 : ∀ k ∈ H3.blocks wb, k ∈ H'.blocks wb ∨ wr.drew.heap.size ≤ k)
    (hw4 : WebAt w4 wb { H3 with backs := bk } (fun k => ((((Z k ∨ w.heap.size ≤ k) ∧ k ≠ b ∧ k < wr.heap.size) ∨ wr.drew.heap.size ≤ k) ∨ w3.heap.size ≤ k) ∧ v.ownBlock ≠ some k) (twinsM (moveM R (classAt R p.2) (classAt R p.1))).2)
    (hu4 : Upd (H3.blocks wb) w3 w4) (hH4 : ∀ k ∈ ({ H3 with backs := bk } : Hd).blocks wb, k ∈ H3.blocks wb ∨ w3.heap.size ≤ k)
    (hp5 : PairsAt w5 b5 v5 (ps ++ (twinsM (moveM R (classAt R p.2) (classAt R p.1))).1)) (hu5 : Upd [b] w4 w5) (hb5 : b5 = b ∨ b5 = w4.heap.size) : JoinRel w w5 wb H Z T k v5 := by
  obtain ⟨x1, x2, x4, x5, _⟩ := hX
  have hu := hA.upd
  have hnew := hA.new
  have e : wr.drew.heap.size = wr.heap.size := rfl
  have s1 := hu.size
  have s3 := hu3.size
  have s4 := hu4.size
  have s5 := hu5.size
  have hc := x2.clen
  have hx1 := x2.trail
  have hx2 := x2.files
  have hnb : ∀ k, ((((Z k ∨ w.heap.size ≤ k) ∧ k ≠ b ∧ k < wr.heap.size) ∨ wr.drew.heap.size ≤ k) ∨ w3.heap.size ≤ k) → k ≠ b := fun k hk => by
    rcases hk with (hk | hk) | hk
    · exact hk.2.1
    · omega
    · omega
  refine ⟨b5, _, _, ?_, ?_, x1, by omega, by omega, by omega, ⟨{ H3 with backs := bk }, ?_, fun k hk => ?_⟩, hp5, ?_, ?_⟩
  · unfold need at hneed ⊢
    simp only [List.length_cons] at hneed
    rw [hc]
    exact need_go x4 x5 hneed
  · rw [joinF, if_neg he] at hT
    exact hT
  · refine ((hw4.mono (Z' := fun k => (Z k ∨ w.heap.size ≤ k) ∧ k ≠ b ∧ k < w4.heap.size) (fun k hk hl => ⟨?_, hnb k hk.1, hl⟩)).later hu5 (fun k hk hm => hk.2.1 (by simpa using hm))).mono (fun k hk hl => ⟨hk.1, ?_, hl⟩)
    · rcases hk.1 with (hk | hk) | hk
      · exact hk.1
      · exact .inr (by omega)
      · exact .inr (by omega)
    · rcases hb5 with rfl | rfl
      · exact hk.2.1
      · omega
  · rcases hH4 k hk with h1 | h1
    · rcases hH3 k h1 with h2 | h2
      · exact hH k h2
      · exact .inr (by omega)
    · exact .inr (by omega)
  · rcases hb5 with rfl | rfl
    · exact hnew
    · omega
  · refine ((hu.drew.trans' hu3 (fun x hx hl => ?_)).trans' hu4 (fun x hx hl => ?_)).trans' hu5 (fun x hx hl => ?_)
    · rcases hH x hx with h1 | h1
      · exact h1
      · omega
    · rcases hH3 x hx with h1 | h1
      · rcases hH x h1 with h2 | h2
        · exact h2
        · omega
      · omega
    · simp at hx; omega

set_option maxHeartbeats 4000000 in
set_option maxRecDepth 100000 in
theorem join_any (w : World) (wb : Nat) (H : Hd) (Z : Nat → Prop) (S : WS) (l r : Nat) (h : WebAt w wb H Z S) (hZ : ∀ k, Z k → k < w.heap.size) (hJ : Joining [(l, r)] S) (hn : S.classes.length ≤ 400) (htr : S.trail.length + 1000 * reps S S.classes.length ≤ 5000000) (hfl : S.files + 1000 * reps S S.classes.length ≤ 5000000) :
    Calls Tryz.prog 128 #[.pointer (some ⟨wb, 0, none⟩), .int .i64 l, .int .i64 r] w fun e w' => ∃ H', e = .returned (.tuple #[]) ∧ WebAt w' wb H' (fun k => Z k ∨ w.heap.size ≤ k) (joinM S l r) ∧ Upd (H.blocks wb) w w' ∧ ∀ k ∈ H'.blocks wb, k ∈ H.blocks wb ∨ w.heap.size ≤ k := by
  have hstart : JoinRel w (w.alloc (.cells #[.int .i64 l, .int .i64 r] 231)) wb H Z (joinM S l r) (need [(l, r)] S) (.slice (some ⟨w.heap.size, 0, none⟩) 1 1) := by
    have U := (Upd.refl [] w).alloc (.cells #[.int .i64 l, .int .i64 r] 231)
    refine ⟨w.heap.size, [(l, r)], S, Nat.le_refl _, rfl, hJ, hn, htr, hfl, ⟨H, (h.later U (fun _ _ => by simp)).mono (fun k hk _ => ⟨.inl hk, ?_, ?_⟩), fun k hk => .inl hk⟩, ?_, Nat.le_refl _, U.mono (fun x hx _ => by cases hx)⟩
    · have := hZ k hk; omega
    · have := hZ k hk; simp; omega
    · refine ⟨_, 0, 1, rfl, by simp [maxLen], by simp, fun _ => rfl, fun _ => by simp, rfl, fun j u hu => ?_, fun j hj => by simp at hj⟩
      rw [(cell_new_row (w := w) (j := 0 + j) (e := 231) (arr := #[.int .i64 l, .int .i64 r])).1, Nat.zero_add]
      simpa [flat2] using hu
  have hk0 : need [(l, r)] S ≤ 900000 := by
    unfold need
    have h1 := reps_le S S.classes.length
    have h2 : reps S S.classes.length * (S.classes.length + 1) ≤ 400 * 401 := Nat.mul_le_mul (by omega) (by omega)
    simp only [List.length_singleton]
    omega
  obtain ⟨T, hTe⟩ : ∃ T, T = joinM S l r := ⟨_, rfl⟩
  rw [← hTe] at hstart
  have HTe := hide hTe
  clear hTe hJ hn htr hfl hZ h
  go_enter Tryz.func128, Tryz.ntmps128
  go_wp2
  generalize need [(l, r)] S = n0 at *
  go_loopg [6] n0 (fun k v wr => k ≤ n0 ∧ Hid (JoinRel w wr wb H Z T k v))
  case atStart => exact ⟨Nat.le_refl _, hstart⟩
  case round =>
    obtain ⟨hk, HR⟩ := hrel
    clear hstart
    obtain ⟨b, ps, R, hneed, hT, hJ, hn, htr, hfl, hA⟩ := HR.out
    clear HR
    cases gk with
    | zero => unfold need at hneed; omega
    | succ k =>
      cases ps with
      | nil =>
        obtain ⟨H', hw, hH⟩ := hA.ex
        obtain ⟨ao, off, cap, rfl, _, _⟩ := hA.row
        have e : R = T := hT
        subst e
        have Hw := hide (hw.mono (Z' := fun k => Z k ∨ w.heap.size ≤ k) (fun k hk _ => hk.1))
        have HU := hide hA.upd
        have HH := hide hH
        clear hA hw hH hT hJ hneed
        go_wp2
        go_end0
        exact ⟨_, rfl, by rw [← HTe.out]; exact Hw.out, HU.out, HH.out⟩
      | cons p ps =>
        obtain ⟨H', hw, hH⟩ := hA.ex
        obtain ⟨off, cap, rfl, hcm, hpc, q0, q1, off2, hoff, htail⟩ := hA.row.tail
        obtain ⟨hp1, hp2, _⟩ := hJ.pairs p (List.mem_cons_self ..)
        obtain ⟨g, ccap, hcl, _, _⟩ : ∃ g cap, H'.classes = .slice (some ⟨g, 0, none⟩) R.classes.length cap ∧ R.classes.length ≤ cap ∧ cap ≤ maxLen := by
          rcases ownsRow_slice hw.rc with ⟨_, h0⟩ | hh
          · omega
          · exact hh
        have c3 := hw.c3
        rw [hcl] at c3
        have hrc := hw.rc
        rw [hcl] at hrc
        have k1 : wr.cell? ⟨g, p.1, none⟩ = some (.int .i64 (classAt R p.1)) := row1_cell hrc hp1
        have k2 : wr.cell? ⟨g, p.2, none⟩ = some (.int .i64 (classAt R p.2)) := row1_cell hrc hp2
        have hp1' : (p.1 : Int) < (R.classes.length : Int) := by omega
        have hp2' : (p.2 : Int) < (R.classes.length : Int) := by omega
        have Hw := hide hw
        have HH := hide hH
        have HA := hide hA
        have HJ := hide hJ
        have HT := hide hT
        have Hneed := hide hneed
        have Htail := hide htail
        unfold maxLen at hcm
        have hps : ps.length ≤ 900000 := by unfold need at hneed; simp at hneed; omega
        clear hw hH hA hJ hT hneed htail hrc hcl
        by_cases he : classAt R p.1 = classAt R p.2
        · have Hfin : Hid (JoinRel w wr.drew wb H Z T k (.slice (some ⟨b, off2, none⟩) ps.length cap)) := JoinRel.skip HA.out HJ.out HT.out Hneed.out hn htr hfl Htail.out he
          clear HA HJ HT Hneed Htail Hw HH
          rcases hoff with ⟨rfl, rfl⟩ | ⟨c, rfl, rfl⟩
          · obtain rfl : ps = [] := List.eq_nil_of_length_eq_zero (by omega)
            go_wp2
            go_region
            go_wp2
            go_roundg k
            case measure => omega
            case rel => exact ⟨by omega, Hfin.out⟩
          · go_wp2
            go_region
            go_wp2
            go_roundg k
            case measure => omega
            case rel => exact ⟨by omega, Hfin.out⟩
        · have he' : ((classAt R p.1 : Int) != (classAt R p.2 : Int)) = true := by simp; omega
          obtain ⟨x1, x2, x3, x4, x5, x6⟩ := HJ.out.go he hn
          have hMl : (moveM R (classAt R p.2) (classAt R p.1)).classes.length = R.classes.length := (moveTo_rows R (classAt R p.2) (classAt R p.1) R.classes.length).1
          have hMt : (moveM R (classAt R p.2) (classAt R p.1)).trail.length ≤ R.trail.length + R.classes.length := (moveTo_rows R (classAt R p.2) (classAt R p.1) R.classes.length).2.2.2.2.2.2.2
          have hMf : (moveM R (classAt R p.2) (classAt R p.1)).files = R.files := (moveTo_rows R (classAt R p.2) (classAt R p.1) R.classes.length).2.2.2.2.2.2.1
          have HM := hide (⟨hMl, hMt, hMf⟩ : _ ∧ _ ∧ _)
          have HX := hide (⟨x1, x2, x4, x5, x6⟩ : _ ∧ _ ∧ _ ∧ _ ∧ _)
          have Hbw : Hid (b < wr.heap.size) := World.block_lt_of_cell? _ _ q0
          clear x1 x2 x3 x4 x5 x6 hMl hMt hMf
          rcases hoff with ⟨rfl, rfl⟩ | ⟨c, rfl, rfl⟩
          · obtain rfl : ps = [] := List.eq_nil_of_length_eq_zero (by omega)
            go_wp2
            go_region
            go_wp2_with (first
              | (go_at_call 155; refine (move_any wr.drew wb H' _ R (classAt R p.2) (classAt R p.1) (Hw.out.later ((Upd.refl [] wr).drew) (fun _ _ => by simp)) (by omega) (by omega)).mono ?_; rintro e w3 ⟨H3, rfl, hw3, hu3, hH3⟩; have Hw3 := hide hw3; have Hu3 := hide hu3; have HH3 := hide hH3; clear hw3 hu3 hH3)
              | (go_at_call 156; refine (twins_any w3 wb H3 _ (moveM R (classAt R p.2) (classAt R p.1)) Hw3.out (by rw [HX.out.2.2.2.2.inv.len]) (by rw [HX.out.2.2.2.2.inv.len, HM.out.1]; omega) (by rw [HX.out.2.2.2.2.inv.len, HM.out.1]; have := HM.out.2.1; omega) (by rw [HX.out.2.2.2.2.inv.len, HM.out.1, HM.out.2.2]; omega) (HX.out.2.2.2.2.fits (by rw [HM.out.1]; exact hn)) HX.out.2.2.2.2.inv.al).mono ?_; rintro e w4 ⟨v, bk, rfl, hw4, hrow4, hu4, hH4⟩; have Hw4 := hide hw4; have Hu4 := hide hu4; have HH4 := hide hH4; have Hrow4 := hide hrow4; clear hw4 hu4 hH4 hrow4)
              | (at_builtin; go_must (refine wpList_append_pairs _ rfl _ _ rfl rfl rfl (Htail.out.joined Hbw.out Hw.out Hu3.out Hw3.out Hu4.out) Hrow4.out (by have := HX.out.2.2.1; omega) ?_); intro v5 w5 b5 hp5 hu5 hb5; have Hp5 := hide hp5; have Hu5 := hide hu5; have Hb5 := hide hb5; clear hp5 hu5 hb5))
            go_roundg k
            case measure => omega
            case rel => exact ⟨by omega, JoinRel.go HA.out Hbw.out HH.out HT.out Hneed.out hn htr hfl he HX.out Hu3.out HH3.out Hw4.out Hu4.out HH4.out Hp5.out Hu5.out Hb5.out⟩
          · go_wp2
            go_region
            go_wp2_with (first
              | (go_at_call 155; refine (move_any wr.drew wb H' _ R (classAt R p.2) (classAt R p.1) (Hw.out.later ((Upd.refl [] wr).drew) (fun _ _ => by simp)) (by omega) (by omega)).mono ?_; rintro e w3 ⟨H3, rfl, hw3, hu3, hH3⟩; have Hw3 := hide hw3; have Hu3 := hide hu3; have HH3 := hide hH3; clear hw3 hu3 hH3)
              | (go_at_call 156; refine (twins_any w3 wb H3 _ (moveM R (classAt R p.2) (classAt R p.1)) Hw3.out (by rw [HX.out.2.2.2.2.inv.len]) (by rw [HX.out.2.2.2.2.inv.len, HM.out.1]; omega) (by rw [HX.out.2.2.2.2.inv.len, HM.out.1]; have := HM.out.2.1; omega) (by rw [HX.out.2.2.2.2.inv.len, HM.out.1, HM.out.2.2]; omega) (HX.out.2.2.2.2.fits (by rw [HM.out.1]; exact hn)) HX.out.2.2.2.2.inv.al).mono ?_; rintro e w4 ⟨v, bk, rfl, hw4, hrow4, hu4, hH4⟩; have Hw4 := hide hw4; have Hu4 := hide hu4; have HH4 := hide hH4; have Hrow4 := hide hrow4; clear hw4 hu4 hH4 hrow4)
              | (at_builtin; refine wpList_append_pairs _ rfl _ _ rfl rfl rfl (Htail.out.joined Hbw.out Hw.out Hu3.out Hw3.out Hu4.out) Hrow4.out (by have := HX.out.2.2.1; omega) ?_; intro v5 w5 b5 hp5 hu5 hb5; have Hp5 := hide hp5; have Hu5 := hide hu5; have Hb5 := hide hb5; clear hp5 hu5 hb5))
            go_roundg k
            case measure => omega
            case rel => exact ⟨by omega, JoinRel.go HA.out Hbw.out HH.out HT.out Hneed.out hn htr hfl he HX.out Hu3.out HH3.out Hw4.out Hu4.out HH4.out Hp5.out Hu5.out Hb5.out⟩
end Go.Proofs.YtmfkpllnmmfpiaaGreatDoor
