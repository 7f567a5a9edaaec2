/-
  Maps whose keys are shapes (a name, a count, three numbers) and whose elements are numbers, as functions.
-/
import Derived.Test.YtmfkpllnmmfpiaaDoorFrameH
import Derived.Test.YtmfkpllnmmfpiaaDoorRows
import Derived.Maps.OwnSet
import Derived.Maps.OwnOps
import Derived.DeepKeys4
namespace Go.Proofs.YtmfkpllnmmfpiaaDoor
open Go.RowKit Go.Maps

/-- A shape: a name, how many parts, their numbers. -/
abbrev Sh := ByteArray × Nat × Nat × Nat × Nat
def shV (s : Sh) : Value := .agg #[.string s.1, .int .i64 s.2.1, .int .i64 s.2.2.1, .int .i64 s.2.2.2.1, .int .i64 s.2.2.2.2]
/-- Small enough to be one. -/
def GoodSh (s : Sh) : Prop := s.1.size ≤ 1000 ∧ s.2.1 ≤ 1000000 ∧ s.2.2.1 ≤ 1000000 ∧ s.2.2.2.1 ≤ 1000000 ∧ s.2.2.2.2 ≤ 1000000

theorem laidOut : laidOutB Tryd.prog = true := by kernel_rfl
theorem row_shape : (155 : TypeId) < Tryd.prog.types.size := of_decide_eq_true (by kernel_rfl)
theorem wide_shape : (match Tryd.prog.underlying 155 with | some (.array _ _) | some (.struct _) => true | _ => false) = true := by kernel_rfl
set_option maxRecDepth 100000 in
theorem law_shape : Keyed Tryd.prog 155 := Keyed.of_law (deep_law_laid laidOut (m := 4) (by omega) row_shape (by kernel_rfl) wide_shape)
theorem zero_int (w : World) : (zeroValue 3).run Tryd.prog w = .ok (.int .i64 0) w := by kernel_rfl

theorem wf_i64 {n : Nat} (h : n ≤ 1000000) : (Lit.int .i64 (n : Int)).wf = true := WalkArith.wf_i64 (by omega)

/-- The key of a struct of a string, an int and an array of three ints, in any program. -/
theorem key_any {P : Program} {K S I A m : Nat} {f0 f1 f2 : Field} (hK : P.underlying K = some (.struct #[f0, f1, f2])) (hn : (#[f0, f1, f2] : Array Field).all (·.name != "_") = true)
    (t0 : f0.type = S) (t1 : f1.type = I) (t2 : f2.type = A) (o0 : f0.offset = 0) (o1 : f1.offset = 1) (o2 : f2.offset = 2)
    (hS : P.underlying S = some .string) (hI : P.underlying I = some (.int .i64)) (hA : P.underlying A = some (.array 3 I)) (cK : P.cellsOf K = 5) (cS : P.cellsOf S = 1) (cI : P.cellsOf I = 1) (cA : P.cellsOf A = 3)
    (hkt : P.keyType K = true) (hm : P.types.size = m + 2) (a : ByteArray) (n0 n1 n2 n3 : Int) (ha : a.size ≤ maxLen) (w0 : (Lit.int .i64 n0).wf = true) (w1 : (Lit.int .i64 n1).wf = true) (w2 : (Lit.int .i64 n2).wf = true) (w3 : (Lit.int .i64 n3).wf = true) :
    ∃ kl, keyOf P K (.agg #[.string a, .int .i64 n0, .int .i64 n1, .int .i64 n2, .int .i64 n3]) = some kl := by
  have hr : List.range 3 = [0, 1, 2] := rfl
  simp at hn
  unfold keyOf
  simp [hK, hkt, Value.formed, cK, Value.cells, hm, Program.keyLits, t0, t1, t2, o0, o1, o2, hS, hI, hA, cS, cI, cA, hn, ha, w0, w1, w2, w3, hr]

def fieldsOf (P : Program) (k : TypeId) : List (TypeId × Nat) := match P.underlying k with | some (.struct fs) => fs.toList.map fun f => (f.type, f.offset) | _ => []
theorem fields_shape : ∃ f0 f1 f2 : Field, Tryd.prog.underlying 155 = some (.struct #[f0, f1, f2]) ∧ (#[f0, f1, f2] : Array Field).all (·.name != "_") = true ∧ f0.type = 9 ∧ f1.type = 3 ∧ f2.type = 153 ∧ f0.offset = 0 ∧ f1.offset = 1 ∧ f2.offset = 2 :=
  ⟨_, _, _, Tryd.underlying155, by kernel_rfl, rfl, rfl, rfl, rfl, rfl, rfl⟩
theorem size_types : Tryd.prog.types.size = Tryd.prog.types.size - 2 + 2 := by
  have : 3 ≤ Tryd.prog.types.size := of_decide_eq_true (by kernel_rfl)
  generalize Tryd.prog.types.size = k at *
  omega
theorem keyType_shape : Tryd.prog.keyType 155 = true := by kernel_rfl
theorem cells_shape : Tryd.prog.cellsOf 155 = 5 := by kernel_rfl
theorem cells_int : Tryd.prog.cellsOf 3 = 1 := by kernel_rfl
theorem cells_string : Tryd.prog.cellsOf 9 = 1 := by kernel_rfl
theorem cells_parts : Tryd.prog.cellsOf 153 = 3 := by kernel_rfl

theorem key_shape (s : Sh) (h : GoodSh s) : ∃ kl, keyOf Tryd.prog 155 (shV s) = some kl := by
  obtain ⟨h0, h1, h2, h3, h4⟩ := h
  obtain ⟨f0, f1, f2, hK, hn, t0, t1, t2, o0, o1, o2⟩ := fields_shape
  exact key_any hK hn t0 t1 t2 o0 o1 o2 Tryd.underlying9 Tryd.underlying3 Tryd.underlying153 cells_shape cells_string cells_int cells_parts keyType_shape size_types s.1 s.2.1 s.2.2.1 s.2.2.2.1 s.2.2.2.2
    (by unfold maxLen; omega) (wf_i64 h1) (wf_i64 h2) (wf_i64 h3) (wf_i64 h4)

/-- The map in block b is the function f (of small shapes), and has at most n entries. -/
def MapIs (w : World) (b n : Nat) (f : Sh → Option Nat) : Prop :=
  ∃ D : DataW Unit, w.ownsMap Tryd.prog 155 (plainElem Tryd.prog 3) b n D ∧
    ∀ s kl, keyOf Tryd.prog 155 (shV s) = some kl → Maps.has D kl = (f s).isSome ∧ ∀ c, f s = some c → D.atKey kl (.lit (.int .i64 0)) = .lit (.int .i64 c)

theorem shV_inj {s t : Sh} (h : shV s = shV t) : s = t := by
  obtain ⟨a, b, c, d, e⟩ := s
  obtain ⟨a', b', c', d', e'⟩ := t
  simp [shV] at h
  obtain ⟨rfl, h1, h2, h3, h4⟩ := h
  obtain rfl : b = b' := by omega
  obtain rfl : c = c' := by omega
  obtain rfl : d = d' := by omega
  obtain rfl : e = e' := by omega
  rfl

theorem MapIs.lt {w : World} {b n : Nat} {f : Sh → Option Nat} (h : MapIs w b n f) : b < w.heap.size := let ⟨_, ho, _⟩ := h; ho.lt
theorem MapIs.later {w w' : World} {L : List Nat} {b n : Nat} {f : Sh → Option Nat} (h : MapIs w b n f) (hu : Upd L w w') (hb : b ∉ L) : MapIs w' b n f := by
  obtain ⟨D, ho, hf⟩ := h
  obtain ⟨es, clock, hh, r⟩ := ho
  exact ⟨D, ⟨es, clock, (hu.block b (World.ownsMap.lt ⟨es, clock, hh, r⟩) hb).trans hh, r⟩, hf⟩
theorem MapIs.new (w : World) : MapIs (w.alloc (.map #[] 0)) w.heap.size 0 (fun _ => none) :=
  ⟨.map [], World.ownsMap_made _ _ _ _, fun _ _ _ => ⟨rfl, fun _ h => by cases h⟩⟩
theorem MapIs.mono {w : World} {b n n' : Nat} {f : Sh → Option Nat} (h : MapIs w b n f) (hn : n ≤ n') : MapIs w b n' f := let ⟨D, ho, hf⟩ := h; ⟨D, ho.mono hn, hf⟩

/-- Looking up. -/
theorem MapIs.look {w : World} {b n : Nat} {f : Sh → Option Nat} (h : MapIs w b n f) (s : Sh) (hs : GoodSh s) :
    (Instr.lookup 85 (.map (some b)) (shV s) true).run Tryd.prog w = .ok (.tuple #[.int .i64 ((f s).getD 0), .bool (f s).isSome]) w := by
  obtain ⟨D, ho, hf⟩ := h
  obtain ⟨kl, hk⟩ := key_shape s hs
  obtain ⟨v, ps, hrun, hv⟩ := ho.look_ok law_shape Tryd.underlying85 (zero_int w) (plainElem_int Tryd.underlying3 (by decide)) hk
  obtain ⟨c, rfl, hc, hwc⟩ := plainElem_int_inv Tryd.underlying3 hv
  have hat : D.atKey kl (.lit (.int .i64 0)) = .lit (.int .i64 c) := congrArg Prod.fst hc
  obtain ⟨h1, h2⟩ := hf s kl hk
  rw [hrun, h1]
  cases hfs : f s with
  | none =>
    rw [hfs] at h1
    have := atKey_of_not_has h1 (.lit (.int .i64 0) : DataW Unit)
    rw [this] at hat
    cases hat
    rfl
  | some x =>
    have := h2 x hfs
    rw [this] at hat
    cases hat
    rfl

def setF (f : Sh → Option Nat) (s : Sh) (v : Option Nat) : Sh → Option Nat := fun t => if t = s then v else f t

/-- Storing. -/
theorem MapIs.put {w : World} {b n : Nat} {f : Sh → Option Nat} (h : MapIs w b n f) (s : Sh) (hs : GoodSh s) (v : Nat) (hv : v ≤ 1000000) (hn : n < maxLen) :
    ∃ w', (Instr.mapUpdate 85 (.map (some b)) (shV s) (.int .i64 v)).run Tryd.prog w = .ok () w' ∧ MapIs w' b (n + 1) (setF f s (some v)) ∧ w.mapTurned w' b := by
  obtain ⟨D, ho, hf⟩ := h
  obtain ⟨kl, hk⟩ := key_shape s hs
  obtain ⟨w', hrun, h1, h2⟩ := ho.store law_shape Tryd.underlying85 hn hk (plainElem_int Tryd.underlying3 (wf_i64 hv))
  refine ⟨w', hrun, ⟨_, h1, fun t kt hkt => ?_⟩, h2⟩
  unfold setF
  by_cases e : t = s
  · subst e
    obtain rfl := Option.some.inj (hk.symm.trans hkt)
    rw [if_pos rfl]
    refine ⟨has_put_same ho.isMap (law_shape.key hk) _, fun c hc => ?_⟩
    obtain rfl := Option.some.inj hc
    exact atKey_put_same ho.isMap (law_shape.key hk) _ _
  · have hne : kt ≠ kl := fun e' => e (shV_inj (law_shape.inj (hkt.trans (congrArg some e')) hk))
    rw [if_neg e, has_put_other hne]
    refine ⟨(hf t kt hkt).1, fun c hc => ?_⟩
    rw [atKey_put_other hne]
    exact (hf t kt hkt).2 c hc
theorem ownsMap_size {w : World} {b n : Nat} {D : DataW Unit} (h : w.ownsMap Tryd.prog 155 (plainElem Tryd.prog 3) b n D) {n' : Nat} (hn : Maps.size D ≤ n') : w.ownsMap Tryd.prog 155 (plainElem Tryd.prog 3) b n' D := by
  obtain ⟨es, clock, hb, F, _, rfl⟩ := h
  refine ⟨es, clock, hb, F, ?_, rfl⟩
  simpa [Maps.size, length_sorted] using hn
/-- Striking what is there. -/
theorem MapIs.del {w : World} {b n : Nat} {f : Sh → Option Nat} (h : MapIs w b n f) (s : Sh) (hs : GoodSh s) (hin : (f s).isSome = true) (ty : TypeId) :
    ∃ w', (Builtin.delete_ #[85, 155] ty #[.map (some b), shV s]).run Tryd.prog w = .ok (.tuple #[]) w' ∧ MapIs w' b (n - 1) (setF f s none) ∧ w.mapTurned w' b := by
  obtain ⟨D, ho, hf⟩ := h
  obtain ⟨kl, hk⟩ := key_shape s hs
  obtain ⟨w', hrun, h1, h2⟩ := ho.drop law_shape Tryd.underlying85 hk ty
  have hsz : Maps.size (D.del kl) ≤ n - 1 := by
    have h3 := size_del (k := kl) (ho.tidy law_shape)
    have h4 := ho.size_le
    rw [(hf s kl hk).1, hin] at h3
    simp at h3
    omega
  refine ⟨w', hrun, ⟨_, ownsMap_size h1 hsz, fun t kt hkt => ?_⟩, h2⟩
  unfold setF
  by_cases e : t = s
  · subst e
    obtain rfl := Option.some.inj (hk.symm.trans hkt)
    rw [if_pos rfl]
    exact ⟨has_del_same, fun _ h => by cases h⟩
  · have hne : kt ≠ kl := fun e' => e (shV_inj (law_shape.inj (hkt.trans (congrArg some e')) hk))
    rw [if_neg e, has_del_other hne]
    refine ⟨(hf t kt hkt).1, fun c hc => ?_⟩
    rw [atKey_del_other hne]
    exact (hf t kt hkt).2 c hc
theorem mapTurned_upd {w w' : World} {b : Nat} (h : w.mapTurned w' b) : Upd [b] w w' := by
  have := Upd.of_grown h.grown
  simpa using this
end Go.Proofs.YtmfkpllnmmfpiaaDoor
