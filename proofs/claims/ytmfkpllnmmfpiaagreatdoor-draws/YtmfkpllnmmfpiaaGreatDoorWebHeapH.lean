/-
  Maps whose keys are shapes (a name, a count, three numbers) and whose elements are numbers, as functions.
-/
import Derived.Test.YtmfkpllnmmfpiaaGreatDoorFrameH
import Derived.Test.YtmfkpllnmmfpiaaGreatDoorRows
import Derived.Maps.OwnSet
import Derived.Maps.OwnOps
import Derived.DeepKeys4
import Derived.Test.YtmfkpllnmmfpiaaGreatDoorTermHeapH
namespace Go.Proofs.YtmfkpllnmmfpiaaGreatDoor
open Go.RowKit Go.Maps

/-- A shape: a name, how many parts, their numbers. -/
abbrev Sh := ByteArray × Nat × Nat × Nat × Nat
def shV (s : Sh) : Value := .agg #[.string s.1, .int .i64 s.2.1, .int .i64 s.2.2.1, .int .i64 s.2.2.2.1, .int .i64 s.2.2.2.2]
/-- Small enough to be one. -/
def GoodSh (s : Sh) : Prop := s.1.size ≤ 1000 ∧ s.2.1 ≤ 1000000 ∧ s.2.2.1 ≤ 1000000 ∧ s.2.2.2.1 ≤ 1000000 ∧ s.2.2.2.2 ≤ 1000000

theorem laidOut : laidOutB Tryz.prog = true := by kernel_rfl
theorem row_shape : (141 : TypeId) < Tryz.prog.types.size := of_decide_eq_true (by kernel_rfl)
theorem wide_shape : (match Tryz.prog.underlying 141 with | some (.array _ _) | some (.struct _) => true | _ => false) = true := by kernel_rfl
set_option maxRecDepth 100000 in
theorem law_shape : Keyed Tryz.prog 141 := Keyed.of_law (deep_law_laid laidOut (m := 4) (by omega) row_shape (by kernel_rfl) wide_shape)
theorem zero_int (w : World) : (zeroValue 3).run Tryz.prog w = .ok (.int .i64 0) w := by kernel_rfl

theorem wf_i64 {n : Nat} (h : n ≤ 1000000) : (Lit.int .i64 (n : Int)).wf = true := WalkArith.wf_i64 (by omega)

/-- The key of a struct of a string, an int and an array of three ints, in any program. -/
theorem key_any {P : Program} {K S I A m : Nat} {f0 f1 f2 : Field} (hK : P.underlying K = some (.struct #[f0, f1, f2])) (hn : (#[f0, f1, f2] : Array Field).all (·.name != "_") = true)
    (t0 : f0.type = S) (t1 : f1.type = I) (t2 : f2.type = A) (o0 : f0.offset = 0) (o1 : f1.offset = 1) (o2 : f2.offset = 2)
    (hS : P.underlying S = some .string) (hI : P.underlying I = some (.int .i64)) (hA : P.underlying A = some (.array 3 I)) (cK : P.cellsOf K = 5) (cS : P.cellsOf S = 1) (cI : P.cellsOf I = 1) (cA : P.cellsOf A = 3)
    (hkt : P.keyType K = true) (hm : P.types.size = m + 2) (a : ByteArray) (n0 n1 n2 n3 : Int) (ha : a.size ≤ maxLen) (w0 : (Lit.int .i64 n0).wf = true) (w1 : (Lit.int .i64 n1).wf = true) (w2 : (Lit.int .i64 n2).wf = true) (w3 : (Lit.int .i64 n3).wf = true) :
    ∃ kl, keyOf P K (.agg #[.string a, .int .i64 n0, .int .i64 n1, .int .i64 n2, .int .i64 n3]) = some kl := by
  have hr : List.range 3 = [0, 1, 2] := rfl
  simp at hn
  unfold keyOf
  simp [hK, hkt, Value.formed, cK, Value.cells, hm, Program.keyLits, t0, t1, t2, o0, o1, o2, hS, hI, hA, cS, cI, cA, hn, ha, w0, w1, w2, w3, hr]

def fieldsOf (P : Program) (k : TypeId) : List (TypeId × Nat) := match P.underlying k with | some (.struct fs) => fs.toList.map fun f => (f.type, f.offset) | _ => []
theorem fields_shape : ∃ f0 f1 f2 : Field, Tryz.prog.underlying 141 = some (.struct #[f0, f1, f2]) ∧ (#[f0, f1, f2] : Array Field).all (·.name != "_") = true ∧ f0.type = 9 ∧ f1.type = 3 ∧ f2.type = 139 ∧ f0.offset = 0 ∧ f1.offset = 1 ∧ f2.offset = 2 :=
  ⟨_, _, _, Tryz.underlying141, by kernel_rfl, rfl, rfl, rfl, rfl, rfl, rfl⟩
theorem size_types : Tryz.prog.types.size = Tryz.prog.types.size - 2 + 2 := by
  have : 3 ≤ Tryz.prog.types.size := of_decide_eq_true (by kernel_rfl)
  generalize Tryz.prog.types.size = k at *
  omega
theorem keyType_shape : Tryz.prog.keyType 141 = true := by kernel_rfl
theorem cells_shape : Tryz.prog.cellsOf 141 = 5 := by kernel_rfl
theorem cells_int : Tryz.prog.cellsOf 3 = 1 := by kernel_rfl
theorem cells_string : Tryz.prog.cellsOf 9 = 1 := by kernel_rfl
theorem cells_parts : Tryz.prog.cellsOf 139 = 3 := by kernel_rfl

theorem key_shape (s : Sh) (h : GoodSh s) : ∃ kl, keyOf Tryz.prog 141 (shV s) = some kl := by
  obtain ⟨h0, h1, h2, h3, h4⟩ := h
  obtain ⟨f0, f1, f2, hK, hn, t0, t1, t2, o0, o1, o2⟩ := fields_shape
  exact key_any hK hn t0 t1 t2 o0 o1 o2 Tryz.underlying9 Tryz.underlying3 Tryz.underlying139 cells_shape cells_string cells_int cells_parts keyType_shape size_types s.1 s.2.1 s.2.2.1 s.2.2.2.1 s.2.2.2.2
    (by unfold maxLen; omega) (wf_i64 h1) (wf_i64 h2) (wf_i64 h3) (wf_i64 h4)

/-- The map in block b is the function f (of small shapes), and has at most n entries. -/
def MapIs (w : World) (b n : Nat) (f : Sh → Option Nat) : Prop :=
  ∃ D : DataW Unit, w.ownsMap Tryz.prog 141 (plainElem Tryz.prog 3) b n D ∧
    ∀ s kl, keyOf Tryz.prog 141 (shV s) = some kl → Maps.has D kl = (f s).isSome ∧ ∀ c, f s = some c → D.atKey kl (.lit (.int .i64 0)) = .lit (.int .i64 c)

theorem shV_inj {s t : Sh} (h : shV s = shV t) : s = t := by
  obtain ⟨a, b, c, d, e⟩ := s
  obtain ⟨a', b', c', d', e'⟩ := t
  simp [shV] at h
  obtain ⟨rfl, h1, h2, h3, h4⟩ := h
  obtain rfl : b = b' := by omega
  obtain rfl : c = c' := by omega
  obtain rfl : d = d' := by omega
  obtain rfl : e = e' := by omega
  rfl

theorem MapIs.lt {w : World} {b n : Nat} {f : Sh → Option Nat} (h : MapIs w b n f) : b < w.heap.size := let ⟨_, ho, _⟩ := h; ho.lt
theorem MapIs.later {w w' : World} {L : List Nat} {b n : Nat} {f : Sh → Option Nat} (h : MapIs w b n f) (hu : Upd L w w') (hb : b ∉ L) : MapIs w' b n f := by
  obtain ⟨D, ho, hf⟩ := h
  obtain ⟨es, clock, hh, r⟩ := ho
  exact ⟨D, ⟨es, clock, (hu.block b (World.ownsMap.lt ⟨es, clock, hh, r⟩) hb).trans hh, r⟩, hf⟩
theorem MapIs.new (w : World) : MapIs (w.alloc (.map #[] 0)) w.heap.size 0 (fun _ => none) :=
  ⟨.map [], World.ownsMap_made _ _ _ _, fun _ _ _ => ⟨rfl, fun _ h => by cases h⟩⟩
theorem MapIs.mono {w : World} {b n n' : Nat} {f : Sh → Option Nat} (h : MapIs w b n f) (hn : n ≤ n') : MapIs w b n' f := let ⟨D, ho, hf⟩ := h; ⟨D, ho.mono hn, hf⟩

/-- Looking up. -/
theorem MapIs.look {w : World} {b n : Nat} {f : Sh → Option Nat} (h : MapIs w b n f) (s : Sh) (hs : GoodSh s) :
    (Instr.lookup 108 (.map (some b)) (shV s) true).run Tryz.prog w = .ok (.tuple #[.int .i64 ((f s).getD 0), .bool (f s).isSome]) w := by
  obtain ⟨D, ho, hf⟩ := h
  obtain ⟨kl, hk⟩ := key_shape s hs
  obtain ⟨v, ps, hrun, hv⟩ := ho.look_ok law_shape Tryz.underlying108 (zero_int w) (plainElem_int Tryz.underlying3 (by decide)) hk
  obtain ⟨c, rfl, hc, hwc⟩ := plainElem_int_inv Tryz.underlying3 hv
  have hat : D.atKey kl (.lit (.int .i64 0)) = .lit (.int .i64 c) := congrArg Prod.fst hc
  obtain ⟨h1, h2⟩ := hf s kl hk
  rw [hrun, h1]
  cases hfs : f s with
  | none =>
    rw [hfs] at h1
    have := atKey_of_not_has h1 (.lit (.int .i64 0) : DataW Unit)
    rw [this] at hat
    cases hat
    rfl
  | some x =>
    have := h2 x hfs
    rw [this] at hat
    cases hat
    rfl

def setF (f : Sh → Option Nat) (s : Sh) (v : Option Nat) : Sh → Option Nat := fun t => if t = s then v else f t

/-- Storing. -/
theorem MapIs.put {w : World} {b n : Nat} {f : Sh → Option Nat} (h : MapIs w b n f) (s : Sh) (hs : GoodSh s) (v : Nat) (hv : v ≤ 1000000) (hn : n < maxLen) :
    ∃ w', (Instr.mapUpdate 108 (.map (some b)) (shV s) (.int .i64 v)).run Tryz.prog w = .ok () w' ∧ MapIs w' b (n + 1) (setF f s (some v)) ∧ w.mapTurned w' b := by
  obtain ⟨D, ho, hf⟩ := h
  obtain ⟨kl, hk⟩ := key_shape s hs
  obtain ⟨w', hrun, h1, h2⟩ := ho.store law_shape Tryz.underlying108 hn hk (plainElem_int Tryz.underlying3 (wf_i64 hv))
  refine ⟨w', hrun, ⟨_, h1, fun t kt hkt => ?_⟩, h2⟩
  unfold setF
  by_cases e : t = s
  · subst e
    obtain rfl := Option.some.inj (hk.symm.trans hkt)
    rw [if_pos rfl]
    refine ⟨has_put_same ho.isMap (law_shape.key hk) _, fun c hc => ?_⟩
    obtain rfl := Option.some.inj hc
    exact atKey_put_same ho.isMap (law_shape.key hk) _ _
  · have hne : kt ≠ kl := fun e' => e (shV_inj (law_shape.inj (hkt.trans (congrArg some e')) hk))
    rw [if_neg e, has_put_other hne]
    refine ⟨(hf t kt hkt).1, fun c hc => ?_⟩
    rw [atKey_put_other hne]
    exact (hf t kt hkt).2 c hc
theorem ownsMap_size {w : World} {b n : Nat} {D : DataW Unit} (h : w.ownsMap Tryz.prog 141 (plainElem Tryz.prog 3) b n D) {n' : Nat} (hn : Maps.size D ≤ n') : w.ownsMap Tryz.prog 141 (plainElem Tryz.prog 3) b n' D := by
  obtain ⟨es, clock, hb, F, _, rfl⟩ := h
  refine ⟨es, clock, hb, F, ?_, rfl⟩
  simpa [Maps.size, length_sorted] using hn
/-- Striking what is there. -/
theorem MapIs.del {w : World} {b n : Nat} {f : Sh → Option Nat} (h : MapIs w b n f) (s : Sh) (hs : GoodSh s) (hin : (f s).isSome = true) (ty : TypeId) :
    ∃ w', (Builtin.delete_ #[108, 141] ty #[.map (some b), shV s]).run Tryz.prog w = .ok (.tuple #[]) w' ∧ MapIs w' b (n - 1) (setF f s none) ∧ w.mapTurned w' b := by
  obtain ⟨D, ho, hf⟩ := h
  obtain ⟨kl, hk⟩ := key_shape s hs
  obtain ⟨w', hrun, h1, h2⟩ := ho.drop law_shape Tryz.underlying108 hk ty
  have hsz : Maps.size (D.del kl) ≤ n - 1 := by
    have h3 := size_del (k := kl) (ho.tidy law_shape)
    have h4 := ho.size_le
    rw [(hf s kl hk).1, hin] at h3
    simp at h3
    omega
  refine ⟨w', hrun, ⟨_, ownsMap_size h1 hsz, fun t kt hkt => ?_⟩, h2⟩
  unfold setF
  by_cases e : t = s
  · subst e
    obtain rfl := Option.some.inj (hk.symm.trans hkt)
    rw [if_pos rfl]
    exact ⟨has_del_same, fun _ h => by cases h⟩
  · have hne : kt ≠ kl := fun e' => e (shV_inj (law_shape.inj (hkt.trans (congrArg some e')) hk))
    rw [if_neg e, has_del_other hne]
    refine ⟨(hf t kt hkt).1, fun c hc => ?_⟩
    rw [atKey_del_other hne]
    exact (hf t kt hkt).2 c hc
theorem mapTurned_upd {w w' : World} {b : Nat} (h : w.mapTurned w' b) : Upd [b] w w' := by
  have := Upd.of_grown h.grown
  simpa using this
end Go.Proofs.YtmfkpllnmmfpiaaGreatDoor

/-
  A Web in memory: its rows, its maps, the closures on its trail.
-/
namespace Go.Proofs.YtmfkpllnmmfpiaaGreatDoor
open Go.RowKit

/-- What a closure on the trail changes back: tag 0: a sentence noted; 1: a term entered (its number a, its shape); 2: a shape filed; 3: a class moved (of term a, from class b). -/
structure Un where
  tag : Nat
  sh : Sh
  a : Nat
  b : Nat

/-- A Web, plainly. -/
structure WS where
  shapes : List Sh
  numbers : Sh → Option Nat
  classes : List Nat
  alike : Sh → Option Nat
  said : List (Nat × Nat × Nat)
  trail : List Un
  nums : Nat
  files : Nat
  marks : List Nat

def flatSh : List Sh → List Value
  | [] => []
  | s :: l => .string s.1 :: .int .i64 s.2.1 :: .int .i64 s.2.2.1 :: .int .i64 s.2.2.2.1 :: .int .i64 s.2.2.2.2 :: flatSh l
def flatSaid : List (Nat × Nat × Nat) → List Value
  | [] => []
  | s :: l => .int .i64 s.1 :: .int .i64 s.2.1 :: .int .i64 s.2.2 :: flatSaid l
def intsOf (l : List Nat) : List Value := l.map fun (n : Nat) => .int .i64 (n : Int)

/-- Where a Web's parts lie. -/
structure Hd where
  backs : Value
  shapes : Value
  classes : Value
  said : Value
  nb : Nat
  ab : Nat
  marks : Value
def Hd.blocks (wb : Nat) (H : Hd) : List Nat := wb :: H.nb :: H.ab :: (H.backs.ownBlock.toList ++ (H.shapes.ownBlock.toList ++ (H.classes.ownBlock.toList ++ (H.said.ownBlock.toList ++ H.marks.ownBlock.toList))))

/-- A variable's own block of one cell. -/
def Box1 (w : World) (B : Nat) (v : Value) : Prop := B < w.heap.size ∧ w.cell? ⟨B, 0, none⟩ = some v
def BoxSh (w : World) (B : Nat) (s : Sh) : Prop := B < w.heap.size ∧ w.cell? ⟨B, 0, none⟩ = some (.string s.1) ∧ w.cell? ⟨B, 1, none⟩ = some (.int .i64 s.2.1) ∧ w.cell? ⟨B, 2, none⟩ = some (.int .i64 s.2.2.1) ∧ w.cell? ⟨B, 3, none⟩ = some (.int .i64 s.2.2.2.1) ∧ w.cell? ⟨B, 4, none⟩ = some (.int .i64 s.2.2.2.2)
theorem Box1.later {w w' : World} {L : List Nat} {B : Nat} {v : Value} (h : Box1 w B v) (hu : Upd L w w') (hB : B ∉ L) : Box1 w' B v := ⟨Nat.lt_of_lt_of_le h.1 hu.size, (hu.cell h.1 hB).trans h.2⟩
theorem BoxSh.later {w w' : World} {L : List Nat} {B : Nat} {s : Sh} (h : BoxSh w B s) (hu : Upd L w w') (hB : B ∉ L) : BoxSh w' B s :=
  ⟨Nat.lt_of_lt_of_le h.1 hu.size, (hu.cell h.1 hB).trans h.2.1, (hu.cell h.1 hB).trans h.2.2.1, (hu.cell h.1 hB).trans h.2.2.2.1, (hu.cell h.1 hB).trans h.2.2.2.2.1, (hu.cell h.1 hB).trans h.2.2.2.2.2⟩

/-- A closure that does just that, its variables in blocks of the set F. -/
def IsUn (w : World) (wb : Nat) (F : Nat → Prop) (v : Value) (u : Un) : Prop :=
  ∃ bw, F bw ∧ Box1 w bw (.pointer (some ⟨wb, 0, none⟩)) ∧
    ((u.tag = 0 ∧ v = .func (.func 154) #[] #[.pointer (some ⟨bw, 0, none⟩)]) ∨
     (u.tag = 1 ∧ ∃ bn bs, F bn ∧ F bs ∧ Box1 w bn (.int .i64 u.a) ∧ BoxSh w bs u.sh ∧ v = .func (.func 158) #[] #[.pointer (some ⟨bw, 0, none⟩), .pointer (some ⟨bn, 0, none⟩), .pointer (some ⟨bs, 0, none⟩)]) ∨
     (u.tag = 2 ∧ ∃ bs, F bs ∧ BoxSh w bs u.sh ∧ v = .func (.func 178) #[] #[.pointer (some ⟨bw, 0, none⟩), .pointer (some ⟨bs, 0, none⟩)]) ∨
     (u.tag = 3 ∧ ∃ bf bn, F bf ∧ F bn ∧ Box1 w bf (.int .i64 u.b) ∧ Box1 w bn (.int .i64 u.a) ∧ v = .func (.func 177) #[] #[.pointer (some ⟨bf, 0, none⟩), .pointer (some ⟨bw, 0, none⟩), .pointer (some ⟨bn, 0, none⟩)]))

theorem IsUn.later {w w' : World} {L : List Nat} {wb : Nat} {F : Nat → Prop} {v : Value} {u : Un} (h : IsUn w wb F v u) (hu : Upd L w w') (hL : ∀ k, F k → k ∉ L) : IsUn w' wb F v u := by
  obtain ⟨bw, hF, hb, hr⟩ := h
  refine ⟨bw, hF, hb.later hu (hL _ hF), ?_⟩
  rcases hr with h | ⟨ht, bn, bs, f1, f2, h1, h2, hv⟩ | ⟨ht, bs, f1, h1, hv⟩ | ⟨ht, bf, bn, f1, f2, h1, h2, hv⟩
  · exact .inl h
  · exact .inr (.inl ⟨ht, bn, bs, f1, f2, h1.later hu (hL _ f1), h2.later hu (hL _ f2), hv⟩)
  · exact .inr (.inr (.inl ⟨ht, bs, f1, h1.later hu (hL _ f1), hv⟩))
  · exact .inr (.inr (.inr ⟨ht, bf, bn, f1, f2, h1.later hu (hL _ f1), h2.later hu (hL _ f2), hv⟩))
theorem IsUn.mono {w : World} {wb : Nat} {F F' : Nat → Prop} {v : Value} {u : Un} (h : IsUn w wb F v u) (hF : ∀ k, F k → k < w.heap.size → F' k) : IsUn w wb F' v u := by
  obtain ⟨bw, hf, hb, hr⟩ := h
  refine ⟨bw, hF _ hf hb.1, hb, ?_⟩
  rcases hr with h | ⟨ht, bn, bs, f1, f2, h1, h2, hv⟩ | ⟨ht, bs, f1, h1, hv⟩ | ⟨ht, bf, bn, f1, f2, h1, h2, hv⟩
  · exact .inl h
  · exact .inr (.inl ⟨ht, bn, bs, hF _ f1 h1.1, hF _ f2 h2.1, h1, h2, hv⟩)
  · exact .inr (.inr (.inl ⟨ht, bs, hF _ f1 h1.1, h1, hv⟩))
  · exact .inr (.inr (.inr ⟨ht, bf, bn, hF _ f1 h1.1, hF _ f2 h2.1, h1, h2, hv⟩))

/-- The Web in block wb, its parts at H, is S; all that belongs to it lies in blocks of the set Z. -/
structure WebAt (w : World) (wb : Nat) (H : Hd) (Z : Nat → Prop) (S : WS) : Prop where
  lt : wb < w.heap.size
  free : ∀ o, w.frozen? ⟨wb, o, none⟩ = false
  c0 : w.cell? ⟨wb, 0, none⟩ = some H.backs
  c1 : w.cell? ⟨wb, 2, none⟩ = some H.shapes
  c2 : w.cell? ⟨wb, 3, none⟩ = some (.map (some H.nb))
  c3 : w.cell? ⟨wb, 4, none⟩ = some H.classes
  c4 : w.cell? ⟨wb, 5, none⟩ = some (.map (some H.ab))
  c5 : w.cell? ⟨wb, 6, none⟩ = some H.said
  cm : w.cell? ⟨wb, 1, none⟩ = some H.marks
  rs : w.ownsRow 0 141 5 H.shapes S.shapes.length (flatSh S.shapes)
  rc : w.ownsRow 0 3 1 H.classes S.classes.length (intsOf S.classes)
  rd : w.ownsRow 0 134 3 H.said S.said.length (flatSaid S.said)
  rm : w.ownsRow 0 3 1 H.marks S.marks.length (intsOf S.marks)
  mn : MapIs w H.nb S.nums S.numbers
  ma : MapIs w H.ab S.files S.alike
  apart : (H.blocks wb).Nodup
  rb : ∃ cls : List Value, w.ownsRow 0 1 1 H.backs S.trail.length cls ∧ AllIs (IsUn w wb (fun k => Z k ∧ k ∉ H.blocks wb)) cls S.trail
  inZ : ∀ k ∈ H.blocks wb, Z k

theorem Hd.mem_wb (wb : Nat) (H : Hd) : wb ∈ H.blocks wb := by simp [Hd.blocks]
theorem Hd.mem_nb (wb : Nat) (H : Hd) : H.nb ∈ H.blocks wb := by simp [Hd.blocks]
theorem Hd.mem_ab (wb : Nat) (H : Hd) : H.ab ∈ H.blocks wb := by simp [Hd.blocks]
theorem Hd.mem_backs {wb k : Nat} {H : Hd} (h : H.backs.ownBlock = some k) : k ∈ H.blocks wb := by simp [Hd.blocks, h]
theorem Hd.mem_shapes {wb k : Nat} {H : Hd} (h : H.shapes.ownBlock = some k) : k ∈ H.blocks wb := by simp [Hd.blocks, h]
theorem Hd.mem_classes {wb k : Nat} {H : Hd} (h : H.classes.ownBlock = some k) : k ∈ H.blocks wb := by simp [Hd.blocks, h]
theorem Hd.mem_said {wb k : Nat} {H : Hd} (h : H.said.ownBlock = some k) : k ∈ H.blocks wb := by simp [Hd.blocks, h]
theorem Hd.mem_marks {wb k : Nat} {H : Hd} (h : H.marks.ownBlock = some k) : k ∈ H.blocks wb := by simp [Hd.blocks, h]

theorem Hd.mem_iff {wb k : Nat} {H : Hd} : k ∈ H.blocks wb ↔ k = wb ∨ k = H.nb ∨ k = H.ab ∨ H.backs.ownBlock = some k ∨ H.shapes.ownBlock = some k ∨ H.classes.ownBlock = some k ∨ H.said.ownBlock = some k ∨ H.marks.ownBlock = some k := by
  simp only [Hd.blocks, List.mem_cons, List.mem_append, Option.mem_toList]
theorem own_slice (g n c : Nat) : (Value.slice (some ⟨g, 0, none⟩) n c).ownBlock = some g := rfl
/-- Nothing of the Web is touched: it is what it was. -/
theorem WebAt.later {w w' : World} {L : List Nat} {wb : Nat} {H : Hd} {Z : Nat → Prop} {S : WS} (h : WebAt w wb H Z S) (hu : Upd L w w') (hL : ∀ k, Z k → k ∉ L) : WebAt w' wb H Z S := by
  have hwb := hL _ (h.inZ _ (H.mem_wb wb))
  obtain ⟨cls, hrow, hall⟩ := h.rb
  exact {
    lt := Nat.lt_of_lt_of_le h.lt hu.size
    free := fun o => (hu.frozen (p := ⟨wb, o, none⟩) h.lt hwb).trans (h.free o)
    c0 := (hu.cell h.lt hwb).trans h.c0
    c1 := (hu.cell h.lt hwb).trans h.c1
    c2 := (hu.cell h.lt hwb).trans h.c2
    c3 := (hu.cell h.lt hwb).trans h.c3
    c4 := (hu.cell h.lt hwb).trans h.c4
    c5 := (hu.cell h.lt hwb).trans h.c5
    cm := (hu.cell h.lt hwb).trans h.cm
    rs := hu.ownsRow h.rs fun k hk => hL k (h.inZ k (Hd.mem_shapes hk))
    rc := hu.ownsRow h.rc fun k hk => hL k (h.inZ k (Hd.mem_classes hk))
    rd := hu.ownsRow h.rd fun k hk => hL k (h.inZ k (Hd.mem_said hk))
    rm := hu.ownsRow h.rm fun k hk => hL k (h.inZ k (Hd.mem_marks hk))
    mn := h.mn.later hu (hL _ (h.inZ _ (H.mem_nb wb)))
    ma := h.ma.later hu (hL _ (h.inZ _ (H.mem_ab wb)))
    apart := h.apart
    rb := ⟨cls, hu.ownsRow hrow fun k hk => hL k (h.inZ k (Hd.mem_backs hk)), hall.mono fun _ _ hi => hi.later hu fun k hk => hL k hk.1⟩
    inZ := h.inZ }
theorem WebAt.mem_lt {w : World} {wb : Nat} {H : Hd} {Z : Nat → Prop} {S : WS} (h : WebAt w wb H Z S) : ∀ k ∈ H.blocks wb, k < w.heap.size := by
  obtain ⟨cls, hrow, _⟩ := h.rb
  intro k hk
  simp only [Hd.blocks, List.mem_cons, List.mem_append, Option.mem_toList] at hk
  rcases hk with rfl | rfl | rfl | hk | hk | hk | hk | hk
  · exact h.lt
  · exact h.mn.lt
  · exact h.ma.lt
  · exact ownsRow_lt hrow hk
  · exact ownsRow_lt h.rs hk
  · exact ownsRow_lt h.rc hk
  · exact ownsRow_lt h.rd hk
  · exact ownsRow_lt h.rm hk
theorem WebAt.mono {w : World} {wb : Nat} {H : Hd} {Z Z' : Nat → Prop} {S : WS} (h : WebAt w wb H Z S) (hZ : ∀ k, Z k → k < w.heap.size → Z' k) : WebAt w wb H Z' S := by
  obtain ⟨cls, hrow, hall⟩ := h.rb
  exact { h with
    rb := ⟨cls, hrow, hall.mono fun _ _ hi => hi.mono fun k hk hlt => ⟨hZ k hk.1 hlt, hk.2⟩⟩
    inZ := fun k hk => hZ k (h.inZ k hk) (h.mem_lt k hk) }
theorem nodup_put {A B : List Nat} {o : Option Nat} {g : Nat} (h : (A ++ (o.toList ++ B)).Nodup) (hg : o = some g ∨ g ∉ A ++ (o.toList ++ B)) : (A ++ ([g] ++ B)).Nodup := by
  rcases hg with rfl | hg
  · exact h
  · rw [List.nodup_append, List.nodup_append] at h
    obtain ⟨hA, ⟨_, hB, _⟩, hAB⟩ := h
    simp only [List.mem_append, not_or] at hg
    rw [List.nodup_append, List.nodup_append]
    refine ⟨hA, ⟨by simp, hB, fun a ha b hb e => hg.2.2 (by simp at ha; rw [← ha, e]; exact hb)⟩, fun a ha b hb e => ?_⟩
    rcases List.mem_append.1 hb with hb | hb
    · exact hg.1 (by simp at hb; rw [← hb, ← e]; exact ha)
    · exact hAB a ha b (List.mem_append_right _ hb) e
/-- One handle replaced by a row in the same block, or in a new one. -/
theorem Hd.apart_backs {wb g n c : Nat} {H : Hd} (h : (H.blocks wb).Nodup) (hg : H.backs.ownBlock = some g ∨ g ∉ H.blocks wb) : ({ H with backs := .slice (some ⟨g, 0, none⟩) n c } : Hd).blocks wb |>.Nodup :=
  nodup_put (A := [wb, H.nb, H.ab]) h hg
theorem Hd.apart_shapes {wb g n c : Nat} {H : Hd} (h : (H.blocks wb).Nodup) (hg : H.shapes.ownBlock = some g ∨ g ∉ H.blocks wb) : ({ H with shapes := .slice (some ⟨g, 0, none⟩) n c } : Hd).blocks wb |>.Nodup := by
  have := nodup_put (A := [wb, H.nb, H.ab] ++ H.backs.ownBlock.toList) (B := H.classes.ownBlock.toList ++ (H.said.ownBlock.toList ++ H.marks.ownBlock.toList)) (o := H.shapes.ownBlock) (g := g) (by simpa [Hd.blocks] using h) (by simpa [Hd.blocks] using hg)
  simpa [Hd.blocks, Value.ownBlock] using this
theorem Hd.apart_classes {wb g n c : Nat} {H : Hd} (h : (H.blocks wb).Nodup) (hg : H.classes.ownBlock = some g ∨ g ∉ H.blocks wb) : ({ H with classes := .slice (some ⟨g, 0, none⟩) n c } : Hd).blocks wb |>.Nodup := by
  have := nodup_put (A := [wb, H.nb, H.ab] ++ H.backs.ownBlock.toList ++ H.shapes.ownBlock.toList) (B := H.said.ownBlock.toList ++ H.marks.ownBlock.toList) (o := H.classes.ownBlock) (g := g) (by simpa [Hd.blocks] using h) (by simpa [Hd.blocks] using hg)
  simpa [Hd.blocks, Value.ownBlock] using this
theorem Hd.apart_said {wb g n c : Nat} {H : Hd} (h : (H.blocks wb).Nodup) (hg : H.said.ownBlock = some g ∨ g ∉ H.blocks wb) : ({ H with said := .slice (some ⟨g, 0, none⟩) n c } : Hd).blocks wb |>.Nodup := by
  have := nodup_put (A := [wb, H.nb, H.ab] ++ H.backs.ownBlock.toList ++ H.shapes.ownBlock.toList ++ H.classes.ownBlock.toList) (B := H.marks.ownBlock.toList) (o := H.said.ownBlock) (g := g) (by simpa [Hd.blocks] using h) (by simpa [Hd.blocks] using hg)
  simpa [Hd.blocks, Value.ownBlock] using this
theorem Hd.apart_marks {wb g n c : Nat} {H : Hd} (h : (H.blocks wb).Nodup) (hg : H.marks.ownBlock = some g ∨ g ∉ H.blocks wb) : ({ H with marks := .slice (some ⟨g, 0, none⟩) n c } : Hd).blocks wb |>.Nodup := by
  have := nodup_put (A := [wb, H.nb, H.ab] ++ H.backs.ownBlock.toList ++ H.shapes.ownBlock.toList ++ H.classes.ownBlock.toList ++ H.said.ownBlock.toList) (B := []) (o := H.marks.ownBlock) (g := g) (by simpa [Hd.blocks] using h) (by simpa [Hd.blocks] using hg)
  simpa [Hd.blocks, Value.ownBlock] using this
/-- No two of a Web's parts lie in one block. -/
structure Apart (wb : Nat) (H : Hd) : Prop where
  wn : wb ≠ H.nb
  wa : wb ≠ H.ab
  na : H.nb ≠ H.ab
  b : ∀ k, H.backs.ownBlock = some k → k ≠ wb ∧ k ≠ H.nb ∧ k ≠ H.ab ∧ H.shapes.ownBlock ≠ some k ∧ H.classes.ownBlock ≠ some k ∧ H.said.ownBlock ≠ some k
  s : ∀ k, H.shapes.ownBlock = some k → k ≠ wb ∧ k ≠ H.nb ∧ k ≠ H.ab ∧ H.backs.ownBlock ≠ some k ∧ H.classes.ownBlock ≠ some k ∧ H.said.ownBlock ≠ some k
  c : ∀ k, H.classes.ownBlock = some k → k ≠ wb ∧ k ≠ H.nb ∧ k ≠ H.ab ∧ H.backs.ownBlock ≠ some k ∧ H.shapes.ownBlock ≠ some k ∧ H.said.ownBlock ≠ some k
  d : ∀ k, H.said.ownBlock = some k → k ≠ wb ∧ k ≠ H.nb ∧ k ≠ H.ab ∧ H.backs.ownBlock ≠ some k ∧ H.shapes.ownBlock ≠ some k ∧ H.classes.ownBlock ≠ some k
  m : ∀ k, H.marks.ownBlock = some k → k ≠ wb ∧ k ≠ H.nb ∧ k ≠ H.ab ∧ H.backs.ownBlock ≠ some k ∧ H.shapes.ownBlock ≠ some k ∧ H.classes.ownBlock ≠ some k ∧ H.said.ownBlock ≠ some k
theorem Hd.parts {wb : Nat} {H : Hd} (h : (H.blocks wb).Nodup) : Apart wb H := by
  simp only [Hd.blocks, List.nodup_cons, List.nodup_append, List.mem_cons, List.mem_append, Option.mem_toList, not_or] at h
  obtain ⟨⟨h1, h2, h3, h4, h5, h6, g1⟩, ⟨h7, h8, h9, h10, h11, g2⟩, ⟨h12, h13, h14, h15, g3⟩, _, ⟨_, ⟨_, ⟨_, _, g4⟩, h16⟩, h17⟩, h18⟩ := h
  refine ⟨h1, h2, h7, fun k hk => ?_, fun k hk => ?_, fun k hk => ?_, fun k hk => ?_, fun k hk => ?_⟩
  · exact ⟨fun e => h3 (e ▸ hk), fun e => h8 (e ▸ hk), fun e => h12 (e ▸ hk), fun e => h18 k hk k (.inl e) rfl, fun e => h18 k hk k (.inr (.inl e)) rfl, fun e => h18 k hk k (.inr (.inr (.inl e))) rfl⟩
  · exact ⟨fun e => h4 (e ▸ hk), fun e => h9 (e ▸ hk), fun e => h13 (e ▸ hk), fun e => h18 k e k (.inl hk) rfl, fun e => h17 k hk k (.inl e) rfl, fun e => h17 k hk k (.inr (.inl e)) rfl⟩
  · exact ⟨fun e => h5 (e ▸ hk), fun e => h10 (e ▸ hk), fun e => h14 (e ▸ hk), fun e => h18 k e k (.inr (.inl hk)) rfl, fun e => h17 k e k (.inl hk) rfl, fun e => h16 k hk k (.inl e) rfl⟩
  · exact ⟨fun e => h6 (e ▸ hk), fun e => h11 (e ▸ hk), fun e => h15 (e ▸ hk), fun e => h18 k e k (.inr (.inr (.inl hk))) rfl, fun e => h17 k e k (.inr (.inl hk)) rfl, fun e => h16 k e k (.inl hk) rfl⟩
  · exact ⟨fun e => g1 (e ▸ hk), fun e => g2 (e ▸ hk), fun e => g3 (e ▸ hk), fun e => h18 k e k (.inr (.inr (.inr hk))) rfl, fun e => h17 k e k (.inr (.inr hk)) rfl, fun e => h16 k e k (.inr hk) rfl, fun e => g4 k e k hk rfl⟩
end Go.Proofs.YtmfkpllnmmfpiaaGreatDoor
