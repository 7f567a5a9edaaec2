/-
  A range over a function whose body always goes on: a law of our own, in which what is kept between two rounds need say nothing of the loop's two own blocks. Nothing of the program is in this text.
-/
import Derived.RangeFuncNested
import Derived.RangeFuncBound
import Derived.RangeFuncCalls
import Derived.RangeFuncLeaves
import Derived.Test.YtmfkpllnmmfpiaaDoorFrameH
import Derived.Test.YtmfkpllnmmfpiaaDoorWithH
import Derived.Shelf.Abstract
import Derived.Shelf.RegionOpen
import Derived.OwnWalkIn
import Derived.TacticsInMore
import Derived.LoopNIn
import Derived.LoopIn
namespace Go.Proofs.YtmfkpllnmmfpiaaDoor
open Go.RowKit

/-- A round's body goes on. -/
def goesOn (J : World → Prop) : Exit → Act → World → Prop
  | .normal, _, W' => J W'
  | .ret, _, _ => False
  | .exit _, _, _ => False
  | .goto _, _, _ => False
  | .panic _, _, _ => False
  | .outgrown, _, _ => False
/-- The loop's two own blocks lie as they lay. -/
def Two2 (B : Nat) (A A' : World) : Prop := A'.heap[B + 1]? = A.heap[B + 1]? ∧ A'.heap[B]? = A.heap[B]?
theorem Two2.of_upd {B : Nat} {L : List Nat} {A A' : World} (U : Upd L A A') (h : B + 1 < A.heap.size) (h1 : B + 1 ∉ L) (h0 : B ∉ L) : Two2 B A A' := ⟨U.block _ h h1, U.block _ (by omega) h0⟩

theorem range_law {α : Type} {F : Fence} {n : Nat} {P : Program} {g : Operand} {ps : Array Tmp} {assign body : Code} {Q : Exit → Act → World → Prop} {a : Act} {w : World}
    (hro : F.round = none) (h1 : 1 ≤ n) {gf : Nat} {lb : Array Value} (hg : a.eval g = .func (.func gf) #[] lb) (hFg : F.fn gf) (eg : ∀ args w, (callFunc gf args).run P w = .ok (.enter gf args) w)
    {encs : α → Array Value} {N : Nat} {nth : Nat → α} (RD : World → Prop)
    (hseq : ∀ (l : Nat) (J : Nat → World → Prop) (W : World), (∀ k W1, J k W1 → RD W1) → (∀ k W1, k < N → J k W1 → YieldAt F (n - 1 - 1) P l (encs (nth k)) W1 fun e W' => e = .returned (.bool true) ∧ J (k + 1) W') → J 0 W →
      CallsIn F (n - 1) P gf (#[.func (.yield l) #[] #[]] ++ lb) W fun e W' => (∃ v, e = .returned v) ∧ J N W')
    (hps : ∀ x, (encs x).size = ps.size)
    (I : Nat → World → Prop) (hRD : ∀ k W, I k W → RD W) (hput : ∀ k W o, w.heap.size + 1 < W.heap.size → I k W → I k (W.putObj (w.heap.size + 1) o))
    (h0 : ∀ o, I 0 ((w.alloc (.deferred (some []))).alloc o))
    (hround : ∀ k W, k < N → I k W → w.heap.size + 1 < W.heap.size →
      assign.wpIn (F.inRound (w.heap.size + 1)) (n - 1 - 1) P (Exit.then (fun a1 W1 => Two2 w.heap.size W W1 ∧ ∀ o, body.wpIn (F.inRound (w.heap.size + 1)) (n - 1 - 1) P (goesOn fun W2 => Two2 w.heap.size (W1.putObj (w.heap.size + 1) o) W2 ∧ I (k + 1) W2) a1 (W1.putObj (w.heap.size + 1) o)) (fun _ _ _ => False))
        { tmps := (ps.zip (encs (nth k))).foldl (fun t (p, v) => t.setIfInBounds p v) a.tmps, defers := [] } W)
    (hdone : ∀ W, I N W → w.heap.size + 1 < W.heap.size → W.heap[w.heap.size]? = some (.deferred (some [])) → Q .normal { a with defers := { target := .collected w.heap.size, args := #[] } :: a.defers } W) :
    (Code.rangeFunc g ps assign body).wpIn F n P Q a w := by
  refine wpIn_rangeFunc ?_
  intro fn hfn
  rw [hro]
  obtain ⟨rec, hrec⟩ : ∃ rec : LoopState → Option Code → Loop, rec = fun st pe => { state := st, pending := pe, fn, tmps := a.tmps, params := ps, assign, body, defers := w.heap.size } := ⟨_, rfl⟩
  obtain ⟨W1, hW1⟩ : ∃ W1, (w.alloc (.deferred (some []))).alloc (.loop (rec .ready none)) = W1 := ⟨_, rfl⟩
  have hL1 : W1.heap[w.heap.size + 1]? = some (.loop (rec .ready none)) := by
    rw [← hW1]
    have := World.alloc_heap_new (w.alloc (.deferred (some []))) (.loop (rec .ready none))
    rwa [World.size_alloc] at this
  have hK1 : W1.heap[w.heap.size]? = some (.deferred (some [])) := by
    rw [← hW1]
    exact (Below.heap_alloc _ _ _ (by simp)).trans (World.alloc_heap_new w _)
  have hI1 : I 0 W1 := by rw [← hW1]; exact h0 _
  refine ⟨w.heap.size + 1, [{ target := .collected w.heap.size, args := #[] }], W1, { target := .fn (.func gf) lb, args := #[.func (.yield (w.heap.size + 1)) #[] #[]] }, W1, gf, #[.func (.yield (w.heap.size + 1)) #[] #[]] ++ lb, W1, ?_, ?_, ?_, ?_, fun _ => h1, ?_⟩
  · rw [← hW1, hrec]
    exact run_enterLoop_outer _ _ _ _ _
  · simp only [resolve, hg]
    simp [go_sem]
  · intro f' hf'
    simp [Target.leads] at hf'
    subst hf'
    exact hFg
  · simp [invoke, go_sem, eg]
  · refine (hseq (w.heap.size + 1) (fun k W => I k W ∧ W.heap[w.heap.size + 1]? = some (.loop (rec .ready none)) ∧ W.heap[w.heap.size]? = some (.deferred (some []))) W1 (fun k W h => hRD k W h.1) ?_ ⟨hI1, hL1, hK1⟩).mono ?_
    · rintro k W hk ⟨hi, hl, hd⟩
      have hlt : w.heap.size + 1 < W.heap.size := (Array.getElem?_eq_some_iff.1 hl).1
      have hy := run_yield (P := P) (args := encs (nth k)) hl (by rw [hrec]; exact hps _)
      rw [hrec] at hy
      refine ⟨fn, _, assign, body, hy, roundIn_of_wpIn hfn (wpIn_mono (hround k W hk hi hlt) ?_)⟩
      rintro e a1 W2 hp
      cases e with
      | normal =>
        obtain ⟨ht, hb⟩ := hp
        have hl2 := ht.1.trans hl
        have hd2 := ht.2.trans hd
        have hlt2 : w.heap.size + 1 < W2.heap.size := (Array.getElem?_eq_some_iff.1 hl2).1
        refine ⟨_, run_beginRound hl2 (by rw [hrec]), wpIn_mono (hb _) ?_⟩
        rintro e2 a3 W3 hp3
        cases e2 with
        | normal =>
          obtain ⟨ht3, hi3⟩ := hp3
          have hl3 := ht3.1.trans (World.putObj_heap_same hlt2)
          have hd3 := ht3.2.trans ((World.putObj_heap_other (by omega)).trans hd2)
          have hlt3 : w.heap.size + 1 < W3.heap.size := (Array.getElem?_eq_some_iff.1 hl3).1
          have hr := run_endRound (P := P) none hl3
          refine ⟨_, _, hr, rfl, hput _ _ _ hlt3 hi3, ?_, (World.putObj_heap_other (by omega)).trans hd3⟩
          rw [World.putObj_heap_same hlt3, hrec]
          rfl
        | ret => exact hp3.elim
        | exit id => exact hp3.elim
        | goto t => exact hp3.elim
        | panic ch => exact hp3.elim
        | outgrown => exact hp3.elim
      | ret => exact hp.elim
      | exit id => exact hp.elim
      | goto t => exact hp.elim
      | panic ch => exact hp.elim
      | outgrown => exact hp.elim
    · rintro e W2 ⟨⟨v, rfl⟩, hi, hl, hd⟩
      have hlt : w.heap.size + 1 < W2.heap.size := (Array.getElem?_eq_some_iff.1 hl).1
      refine ⟨none, _, by have := run_endLoop (P := P) hl (by rw [hrec]; simp); rw [hrec] at this; exact this, hdone _ (hput _ _ _ hlt hi) (by simpa using hlt) ((World.putObj_heap_other (by omega)).trans hd)⟩
end Go.Proofs.YtmfkpllnmmfpiaaDoor

/-
  slices.Backward over a row of sentences: its function value hands them to yield, from the last one to the first.
-/
namespace Go.Proofs.YtmfkpllnmmfpiaaDoor
open Go.RowKit Go.Shelf

attribute [local go_sem] Oper.semAt_some

set_option maxHeartbeats 400000 in
theorem backward_any (g : Option Addr) (len cap : Nat) (w : World) : Calls Tryd.prog 62 #[.slice g len cap] w fun e w' => e = .returned (.func (.func 86) #[] #[.pointer (some ⟨w.heap.size, 0, none⟩)]) ∧ w' = w.alloc (.cells #[.slice g len cap] 123) := by
  go_enter Tryd.func62, Tryd.ntmps62
  go_wp2
  go_ret
  exact ⟨rfl, rfl⟩

/-- Seven cells as a term's, a sign's, a term's are. -/
def Form7 (c : V7) : Prop := ∃ (a : ByteArray) (p : Int) (g : Option Addr) (l d : Nat) (a' : ByteArray) (p' : Int) (g' : Option Addr) (l' d' : Nat), c.1 = (.string a, .int .i64 p, .slice g l d) ∧ c.2.2 = (.string a', .int .i64 p', .slice g' l' d')
def agg7 (c : V7) : Value := .agg #[c.1.1, c.1.2.1, c.1.2.2, .int .i64 c.2.1, c.2.2.1, c.2.2.2.1, c.2.2.2.2]
/-- The row lies, and the variable that holds it. -/
structure RowRead (Bs : Nat) (g : Option Addr) (N cap : Nat) (c : Nat → V7) (W : World) : Prop where
  box : W.cell? ⟨Bs, 0, none⟩ = some (.slice g N cap)
  cells : ∀ i, i < N → ∃ b, g = some ⟨b, 0, none⟩ ∧ ∀ o, o < 7 → W.cell? ⟨b, i * 7 + o, none⟩ = (v7 (c i))[o]?
set_option maxRecDepth 100000 in
set_option maxHeartbeats 2000000 in
theorem backward1_in (F : Fence) (n : Nat) (hfn : F.fn 86) (hro : F.round = none) (hn : 1 ≤ n) (l Bs : Nat) (gs : Option Addr) (N cap : Nat) (c : Nat → V7) (hf : ∀ i, i < N → Form7 (c i)) (hN : N ≤ 1000) (J : Nat → World → Prop) (W : World)
    (hRD : ∀ k W1, J k W1 → RowRead Bs gs N cap c W1)
    (hY : ∀ k W1, k < N → J k W1 → YieldAt F (n - 1) Tryd.prog l #[.int .i64 ((N - 1 - k : Nat) : Int), agg7 (c (N - 1 - k))] W1 fun e W' => e = .returned (.bool true) ∧ J (k + 1) W') (h0 : J 0 W) :
    CallsIn F n Tryd.prog 86 (#[.func (.yield l) #[] #[]] ++ #[.pointer (some ⟨Bs, 0, none⟩)]) W fun e W' => (∃ v, e = .returned v) ∧ J N W' := by
  have hb0 := (hRD 0 W h0).box
  refine callsIn_of_wp Tryd.func86 rfl hfn ?_ hro
  simp only [Tryd.ntmps86, List.size_toArray, List.length_cons, List.length_nil, Nat.reduceAdd, Nat.reduceSub, Array.replicate_succ, Array.replicate_zero, List.push_toArray, List.append_toArray, List.nil_append, List.cons_append]
  gi_wp2
  clear hb0
  gi_loopw [3] (fun i wr => ∃ j : Nat, j ≤ N ∧ i = .int .i64 ((j : Int) - 1) ∧ J (N - j) wr) (fun i _ => (intOf i + 1).toNat)
  case atStart => exact ⟨N, Nat.le_refl _, rfl, by rw [Nat.sub_self]; exact h0⟩
  case round =>
    obtain ⟨j, hj, rfl, hJ⟩ := hrel
    clear h0
    cases j with
    | zero =>
      gi_wp2
      go_end0
      exact ⟨⟨_, rfl⟩, hJ⟩
    | succ m =>
      have e : (((m + 1 : Nat) : Int) - 1) = (m : Int) := by omega
      rw [e]
      have ek : N - 1 - (N - (m + 1)) = m := by omega
      obtain ⟨fn, tmps, assign, body, hy, hR⟩ := hY (N - (m + 1)) wr (by omega) hJ
      rw [ek] at hy
      have hrd := hRD _ _ hJ
      obtain ⟨b, rfl, hcs⟩ := hrd.cells m (by omega)
      obtain ⟨a, p, g, ll, d, a', p', g', ll', d', hc1, hc2⟩ := hf m (by omega)
      generalize c m = q at *
      obtain ⟨q1, k, q3⟩ := q
      simp only at hc1 hc2
      subst hc1 hc2
      have m0 : wr.cell? ⟨b, m * 7, none⟩ = some (.string a) := hcs 0 (by omega)
      have m1 : wr.cell? ⟨b, m * 7 + 1, none⟩ = some (.int .i64 p) := hcs 1 (by omega)
      have m2 : wr.cell? ⟨b, m * 7 + 2, none⟩ = some (.slice g ll d) := hcs 2 (by omega)
      have m3 : wr.cell? ⟨b, m * 7 + 3, none⟩ = some (.int .i64 k) := hcs 3 (by omega)
      have m4 : wr.cell? ⟨b, m * 7 + 4, none⟩ = some (.string a') := hcs 4 (by omega)
      have m5 : wr.cell? ⟨b, m * 7 + 5, none⟩ = some (.int .i64 p') := hcs 5 (by omega)
      have m6 : wr.cell? ⟨b, m * 7 + 6, none⟩ = some (.slice g' ll' d') := hcs 6 (by omega)
      have hbx := hrd.box
      unfold agg7 at hy
      simp only at hy
      have hm1 : (m : Int) < (N : Int) := by omega
      clear hcs hrd ek e
      gi_wp2
      refine hR.mono ?_
      rintro e W3 ⟨rfl, hJ3⟩
      gi_wp2
      go_roundw
      case rel =>
        refine ⟨m, by omega, by go_num, ?_⟩
        have e : N - (m + 1) + 1 = N - m := by omega
        rw [← e]
        exact hJ3
      case measure => simp [intOf]
end Go.Proofs.YtmfkpllnmmfpiaaDoor
