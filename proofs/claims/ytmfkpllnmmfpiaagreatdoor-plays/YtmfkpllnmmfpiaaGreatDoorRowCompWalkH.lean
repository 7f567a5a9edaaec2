/- RowSort, RowComp, RowCompWalk -/
import Derived.Test.YtmfkpllnmmfpiaaGreatDoorSortLayRH
import Derived.Test.YtmfkpllnmmfpiaaGreatDoorRowLinH
import Derived.Laws.IdiomCopy
import Derived.Test.YtmfkpllnmmfpiaaGreatDoorJoinHeapH
namespace Go.Proofs.YtmfkpllnmmfpiaaGreatDoor
open Go.RowKit Go.Shelf Go.Sort
theorem intsAt_of {w : World} {base : Nat} {v : Value} {l : List Nat} (h : w.ownsRow base 3 1 v l.length (intsOf l)) : IntsAt w v l := by
 rcases ownsRow_slice h with ⟨h1, h2⟩ | ⟨g, cap, h1, h2, h3⟩
 ·exact ⟨none, 0, by rw [h2]; exact h1, by omega, by simp [maxLen], fun h => by omega⟩
 ·subst h1
  refine ⟨_, cap, rfl, h2, h3, fun _ => ⟨g, rfl, ownsRow_lt h rfl, fun i t ht => ?_⟩⟩
  have hi := (List.getElem?_eq_some_iff.1 ht).1
  have := h.cellAt i (by omega)
  rw [this]
  simp [intsOf, ht]
theorem flatR_get : ∀ (xs : List RX) (i c : Nat) (x : RX), xs[i]? = some x → c < 3 → (flatR xs)[i * 3 + c]? = (encR x)[c]?
 | y :: xs, 0, c, x, h, hc => by
  simp at h
  subst h
  simp only [flatR, List.flatMap_cons, Nat.zero_mul, Nat.zero_add]
  rw [List.getElem?_append_left (by simp [encR]; omega)]
 | y :: xs, i + 1, c, x, h, hc => by
  have ih := flatR_get xs i c x (by simpa using h) hc
  simp only [flatR, List.flatMap_cons] at ih ⊢
  rw [List.getElem?_append_right (by simp [encR]; omega)]
  have e : (i + 1) * 3 + c - (encR y).length = i * 3 + c := by simp [encR]; omega
  rw [e]
  exact ih
 | [], i, c, x, h, _ => by simp at h
structure RowsAt (w : World) (g : Nat) (xs : List RX) : Prop where
 lt : g < w.heap.size
 cell : ∀ (i : Nat) (x : RX), xs[i]? = some x → w.cell? ⟨g, i * 3, none⟩ = some (.string x.1.name) ∧ w.cell? ⟨g, i * 3 + 1, none⟩ = some x.2 ∧ w.cell? ⟨g, i * 3 + 2, none⟩ = some (.int .i64 x.1.value)
 free : ∀ o, o < xs.length * 3 → w.frozen? ⟨g, o, none⟩ = false
abbrev RY (w : World) (g : Nat) := { x : RX // (∃ a l c, x.2 = .slice a l c) ∧ IntsAt w x.2 x.1.args ∧ x.2.ownBlock ≠ some g }
instance (w : World) (g : Nat) : Inhabited (RY w g) := ⟨⟨(default, .slice none 0 0), ⟨none, 0, 0, rfl⟩, ⟨none, 0, rfl, Nat.le_refl _, by simp [maxLen], fun h => absurd h (Nat.lt_irrefl _)⟩, by simp [Value.ownBlock]⟩⟩
def encY {w : World} {g : Nat} (x : RY w g) : List Value := encR x.1
def cmpY {w : World} {g : Nat} (x y : RY w g) : Int := cmpRow x.1.1 y.1.1
theorem upd_sortK {α : Type} [Inhabited α] (enc : α → List Value) (k : Nat) {w : World} (g m : Nat) (d : Array α) (os : Array Obj) : Upd [g] w (sortWorldK enc k w g 0 m d os) := by
 unfold sortWorldK putRowK putRow
 refine ⟨rfl, rfl, rfl, ?_, fun k hk hn => ?_⟩
 ·simp [grow, mapBlock, Sort.ahead]
 ·simp only [List.mem_singleton] at hn
  simp only [grow, mapBlock, Sort.ahead]
  rw [Array.getElem?_append_left (by simpa using hk)]
  rw [Array.getElem?_modify, if_neg (fun e => hn e.symm)]
theorem cmpLays_rows (w : World) (g size : Nat) : CmpLays Tryz.prog 85 #[] (encY (w := w) (g := g)) 3 cmpY g 0 size w := fun m os dk _ x y => by
 have U := upd_sortK (encY (w := w) (g := g)) 3 (w := w) g m dk os
 have hx := x.2.2.1.later U (fun k hk hm => x.2.2.2 (hk.trans (by simp at hm; rw [hm])))
 have hy := y.2.2.1.later U (fun k hk hm => y.2.2.2 (hk.trans (by simp at hm; rw [hm])))
 exact compareRows_any x.1.1 y.1.1 x.1.2 y.1.2 _ hx hy
theorem swoY {w : World} {g : Nat} : SWO (ltOf (cmpY (w := w) (g := g))) := by
 have h := swo_of (α := RY w g) lin_key (fun x => keyR x.1.1)
 have e : (fun (x y : RY w g) => cmpK (keyR x.1.1) (keyR y.1.1)) = cmpY := by
  funext x y
  exact (cmpRow_key _ _).symm
 rw [e] at h
 exact h
theorem permIn_list {α : Type} [Inhabited α] {d d' : Array α} {n : Nat} (h : PermIn 0 n d d') (h1 : d.size = n) (h2 : d'.size = n) : d'.toList.Perm d.toList := by
 have h3 := h.2.2
 have e1 : (d'.extract 0 n).toList = d'.toList := by
  rw [Array.toList_extract]
  simp [List.extract, List.take_of_length_le (Nat.le_of_eq (show d'.toList.length = n by simpa using h2))]
 have e2 : (d.extract 0 n).toList = d.toList := by
  rw [Array.toList_extract]
  simp [List.extract, List.take_of_length_le (Nat.le_of_eq (show d.toList.length = n by simpa using h1))]
 rw [e1, e2] at h3
 exact h3
theorem sortRows_any (w3 wr : World) (g cap : Nat) (xs : List RX) (h : Rowing w3 wr (.slice (some ⟨g, 0, none⟩) xs.length cap) xs) (hl : xs.length ≤ 1000) :
  Calls Tryz.prog 84 #[.slice (some ⟨g, 0, none⟩) xs.length cap, .func (.func 85) #[] #[]] wr fun e w' => e = .returned (.tuple #[]) ∧ ∃ ys : List RX, ys.Perm xs ∧ ys.Pairwise (fun x y => ¬ cmpRow y.1 x.1 < 0) ∧ RowsAt w' g ys ∧ Upd [g] wr w' := by
 have hall : ∀ x ∈ xs, (∃ a l c, x.2 = .slice a l c) ∧ IntsAt wr x.2 x.1.args ∧ x.2.ownBlock ≠ some g := fun x hx => by
  obtain ⟨i, hi⟩ := List.getElem?_of_mem hx
  have ha := h.args i x hi
  obtain ⟨a, c, e⟩ := slice_len ha
  exact ⟨⟨a, _, c, e⟩, intsAt_of ha, fun e => h.out i x hi g e rfl⟩
 have hdl : (xs.pmap (fun x hx => (⟨x, hx⟩ : RY wr g)) hall).toArray.size = xs.length := by simp
 have hdm : (xs.pmap (fun x hx => (⟨x, hx⟩ : RY wr g)) hall).map (·.1) = xs := by rw [List.map_pmap]; simp
 obtain ⟨d, hd⟩ : ∃ d : List (RY wr g), xs.pmap (fun x hx => (⟨x, hx⟩ : RY wr g)) hall = d := ⟨_, rfl⟩
 rw [hd] at hdl hdm
 have hglt := ownsRow_lt h.row (k := g) rfl
 have hH : HoldsK (encY (w := wr) (g := g)) 3 wr g 0 d.toArray := by
  intro t ht
  rw [size_flatK, hdl] at ht
  have hq : t / 3 < xs.length := by omega
  obtain ⟨x, hx⟩ : ∃ x, xs[t / 3]? = some x := ⟨_, List.getElem?_eq_getElem hq⟩
  have hx2 : d[t / 3]?.map (·.1) = some x := by rw [← List.getElem?_map, hdm]; exact hx
  obtain ⟨y, hy, hyx⟩ := Option.map_eq_some_iff.1 hx2
  rw [get_flatK _ 3 _ t (by rw [hdl]; exact ht)]
  have e1 : d.toArray[t / 3]! = y := by
   have hlt : t / 3 < d.toArray.size := by rw [hdl]; exact hq
   rw [getElem!_pos d.toArray (t / 3) hlt]
   have : d[t / 3]? = some d.toArray[t / 3] := by simp [List.getElem?_eq_getElem (show t / 3 < d.length by simpa using hlt)]
   rw [this] at hy
   exact Option.some.inj hy
  have hg := flatR_get xs (t / 3) (t % 3) x hx (Nat.mod_lt _ (by omega))
  have et : t / 3 * 3 + t % 3 = t := by omega
  rw [et] at hg
  rw [Nat.zero_add, e1]
  refine ⟨?_, row_free h.row t⟩
  rw [h.row.cellAt t (by omega), hg]
  show (encR x)[t % 3]? = some ((encR y.1)[t % 3]!)
  rw [hyx]
  have : t % 3 < (encR x).length := by simp [encR]; omega
  rw [List.getElem?_eq_getElem this, getElem!_pos (encR x) (t % 3) this]
 have hc := AnyQ.slices_SortFunc_eq sortR 3 Tryz.isAgg88 Tryz.sizeOf88 (encY (w := wr) (g := g)) (fun _ => rfl) (fun x v hv => by
   obtain ⟨a, l, c, e⟩ := x.2.1
   simp [encY, encR, e] at hv
   rcases hv with rfl | rfl | rfl <;> rfl) cmpY swoY 85 #[] g 0 cap d.toArray wr (enters_of Tryz.func85 (by kernel_rfl) rfl) (cmpLays_rows wr g _) hH hglt (by rw [hdl]; omega)
 rw [hdl] at hc
 change Calls Tryz.prog 84 _ _ _ at hc
 refine hc.mono fun e w' hw => ?_
 obtain ⟨he, m, os, rfl⟩ := hw
 obtain ⟨hp, hs⟩ := pdq_sorts (ltOf (cmpY (w := wr) (g := g))) swoY d.toArray 0 xs.length (Lib.bitLen xs.length) true true (Nat.zero_le _) (by rw [hdl]; exact Nat.le_refl _) (Or.inl rfl)
 obtain ⟨d', hd'⟩ : ∃ d', pdq (ltOf (cmpY (w := wr) (g := g))) d.toArray 0 xs.length (Lib.bitLen xs.length) true true = d' := ⟨_, rfl⟩
 rw [hd'] at hp hs ⊢
 have hsz : d'.size = xs.length := by have := hp.1; rw [hdl] at this; exact this
 have hperm := permIn_list hp hdl hsz
 refine ⟨he, d'.toList.map (·.1), ?_, ?_, ?_, upd_sortK _ 3 g m d' os⟩
 ·have := hperm.map (fun (x : RY wr g) => x.1)
  rw [show d.toArray.toList = d from rfl, hdm] at this
  exact this
 ·rw [List.pairwise_map, List.pairwise_iff_getElem]
  intro i j hi hj hij
  have hi' : i < d'.size := by simpa using hi
  have hj' : j < d'.size := by simpa using hj
  have := hs i j (Nat.zero_le _) hij (by rw [← hsz]; exact hj')
  rw [getElem!_pos d' i hi', getElem!_pos d' j hj'] at this
  unfold ltOf at this
  have h2 := of_decide_eq_false this
  simpa [cmpY] using h2
 ·have hG := holdsK_sortWorldK (encY (w := wr) (g := g)) 3 wr g 0 m d.toArray d' os hglt hH (by rw [hsz, hdl])
  refine ⟨lt_sortWorldK _ 3 wr g 0 m d' os hglt, fun i x hx => ?_, fun o ho => ?_⟩
  ·have hi : i < d'.size := by
    have := (List.getElem?_eq_some_iff.1 hx).1
    simpa using this
   have ex : d'[i]!.1 = x := by
    rw [getElem!_pos d' i hi]
    rw [List.getElem?_map] at hx
    have e2 : d'.toList[i]? = some d'[i] := by simp [hi]
    rw [e2] at hx
    exact Option.some.inj hx
   have c0 := (hG.cell (i := i) (c := 0) hi (by omega)).1
   have c1 := (hG.cell (i := i) (c := 1) hi (by omega)).1
   have c2 := (hG.cell (i := i) (c := 2) hi (by omega)).1
   simp only [encY, encR, Nat.zero_add, Nat.add_zero] at c0 c1 c2
   rw [ex] at c0 c1 c2
   exact ⟨c0, c1, c2⟩
  ·have := (hG o (by rw [size_flatK]; simpa using ho)).2
   rwa [Nat.zero_add] at this
end Go.Proofs.YtmfkpllnmmfpiaaGreatDoor

namespace Go.Proofs.YtmfkpllnmmfpiaaGreatDoor
open Go.RowKit Go.Shelf Go.Sort
def keepsR (ys : List RX) : Nat → Bool
 | 0 => true
 | j + 1 => match ys[j + 1]?, ys[j]? with
  | some y, some p => decide (cmpRow y.1 p.1 ≠ 0)
  | _, _ => true
def compTo (ys : List RX) : Nat → List RX
 | 0 => []
 | j + 1 => compTo ys j ++ (if keepsR ys j then (ys[j]?).toList else [])
theorem compTo_keep {ys : List RX} {j : Nat} {y : RX} (h : ys[j]? = some y) (hk : keepsR ys j = true) : compTo ys (j + 1) = compTo ys j ++ [y] := by
 rw [compTo, hk, h]
 rfl
theorem compTo_drop {ys : List RX} {j : Nat} (hk : keepsR ys j = false) : compTo ys (j + 1) = compTo ys j := by
 rw [compTo, hk]
 simp
theorem keepsR_is {ys : List RX} {j : Nat} {y p : RX} (h1 : ys[j + 1]? = some y) (h2 : ys[j]? = some p) : keepsR ys (j + 1) = decide (cmpRow y.1 p.1 ≠ 0) := by
 simp only [keepsR, h1, h2]
theorem upd_grow (w : World) (q : Nat) (os : Array Obj) : Upd [] w (grow (w.drewN q) os) := by
 refine ⟨rfl, rfl, rfl, by simp [grow, World.drewN], fun k hk _ => ?_⟩
 simp only [grow]
 rw [Array.getElem?_append_left (by simpa using hk)]
 rfl
set_option maxHeartbeats 2000000 in
set_option maxRecDepth 100000 in
theorem eqRow_any (x y : RowP) (vx vy : Value) (W : World) (hx : IntsAt W vx x.args) (hy : IntsAt W vy y.args) :
  Calls Tryz.prog 87 #[.agg #[.string x.name, vx, .int .i64 x.value], .agg #[.string y.name, vy, .int .i64 y.value]] W fun e w' => e = .returned (.bool (decide (cmpRow x y = 0))) ∧ Upd [] W w' := by
 have hU := ((Upd.refl [] W).alloc (.cells #[.string x.name, vx, .int .i64 x.value] 88)).alloc (.cells #[.string y.name, vy, .int .i64 y.value] 88)
 have HC := hide (compareRows_any x y vx vy _ (hx.later hU (fun _ _ => by simp)) (hy.later hU (fun _ _ => by simp)))
 obtain ⟨ax, capx, hvx, _, _, _⟩ := hx
 obtain ⟨ay, capy, hvy, _, _, _⟩ := hy
 have HU := hide hU
 obtain ⟨nx, hnx⟩ : ∃ nx, x.args.length = nx := ⟨_, rfl⟩
 obtain ⟨ny, hny⟩ : ∃ ny, y.args.length = ny := ⟨_, rfl⟩
 rw [hnx] at hvx
 rw [hny] at hvy
 subst hvx hvy
 obtain ⟨R, hR⟩ : ∃ R, cmpRow x y = R := ⟨_, rfl⟩
 rw [hR] at HC ⊢
 clear hU hnx hny hR
 by_cases h0 : R = 0
 ·subst h0
  go_enter Tryz.func87, Tryz.ntmps87
  go_wp2_with (go_at_call 85; refine HC.out.mono ?_; rintro e w3 ⟨rfl, q, os, hw3⟩; rw [hw3]; clear hw3 w3)
  go_ret
  exact ⟨by simp, HU.out.trans (upd_grow _ _ _)⟩
 ·have hb : (R == 0) = false := by simpa using h0
  go_enter Tryz.func87, Tryz.ntmps87
  go_wp2_with (go_at_call 85; refine HC.out.mono ?_; rintro e w3 ⟨rfl, q, os, hw3⟩; rw [hw3]; clear hw3 w3)
  go_ret
  exact ⟨by simp [h0], HU.out.trans (upd_grow _ _ _)⟩
theorem RowsAt.later {w w' : World} {g : Nat} {xs : List RX} (h : RowsAt w g xs) (hu : Upd [] w w') : RowsAt w' g xs :=
 ⟨Nat.lt_of_lt_of_le h.lt hu.size, fun i x hx => ⟨(hu.cell (p := ⟨g, i * 3, none⟩) h.lt (by simp)).trans (h.cell i x hx).1, (hu.cell (p := ⟨g, i * 3 + 1, none⟩) h.lt (by simp)).trans (h.cell i x hx).2.1, (hu.cell (p := ⟨g, i * 3 + 2, none⟩) h.lt (by simp)).trans (h.cell i x hx).2.2⟩, fun o ho => (hu.frozen (p := ⟨g, o, none⟩) h.lt (by simp)).trans (h.free o ho)⟩
theorem RowsAt.set {w : World} {g k : Nat} {xs : List RX} {x : RX} (h : RowsAt w g xs) (hk : k < xs.length) : RowsAt (((w.setCell ⟨g, k * 3, none⟩ (.string x.1.name)).setCell ⟨g, k * 3 + 1, none⟩ x.2).setCell ⟨g, k * 3 + 2, none⟩ (.int .i64 x.1.value)) g (xs.set k x) := by
 have hlt := h.lt
 obtain ⟨y, hy⟩ : ∃ y, xs[k]? = some y := ⟨_, List.getElem?_eq_getElem hk⟩
 obtain ⟨y0, y1, y2⟩ := h.cell k y hy
 refine ⟨by simpa using hlt, fun i z hz => ?_, fun o ho => by simpa using h.free o (by simpa using ho)⟩
 by_cases e : i = k
 ·subst e
  rw [List.getElem?_set] at hz
  simp [hk] at hz
  subst hz
  exact ⟨by go_simp, by go_simp, by go_simp⟩
 ·rw [List.getElem?_set_ne (by omega)] at hz
  obtain ⟨z0, z1, z2⟩ := h.cell i z hz
  refine ⟨?_, ?_, ?_⟩
  ·refine (World.cell?_setCell_other _ _ _ _ ?_).trans ((World.cell?_setCell_other _ _ _ _ ?_).trans ((World.cell?_setCell_other _ _ _ _ ?_).trans z0)) <;> (intro e; injection e with _ e2; omega)
  ·refine (World.cell?_setCell_other _ _ _ _ ?_).trans ((World.cell?_setCell_other _ _ _ _ ?_).trans ((World.cell?_setCell_other _ _ _ _ ?_).trans z1)) <;> (intro e; injection e with _ e2; omega)
  ·refine (World.cell?_setCell_other _ _ _ _ ?_).trans ((World.cell?_setCell_other _ _ _ _ ?_).trans ((World.cell?_setCell_other _ _ _ _ ?_).trans z2)) <;> (intro e; injection e with _ e2; omega)
theorem run_clear_rows (w : World) (g o n c : Nat) (hn : 0 < n) (hc : ∀ j, j < n * 3 → (w.cell? ⟨g, o + j, none⟩).isSome = true) (hf : ∀ j, j < n * 3 → w.frozen? ⟨g, o + j, none⟩ = false) :
  ∃ vs : List Value, ∀ ty, (Builtin.clear_ #[46] ty #[.slice (some ⟨g, o, none⟩) n c]).run Tryz.prog w = .ok (.tuple #[]) (w.setCells g o vs) := by
 obtain ⟨vs, hvs⟩ : ∃ vs, (Builtin.zeroCells #[.string ⟨#[]⟩, .slice none 0 0, .int .i64 0] n).toList = vs := ⟨_, rfl⟩
 have hl : vs.length = n * 3 := by rw [← hvs]; simp [Builtin.zeroCells]
 have h1 : ∀ v ∈ vs, v.oneCell' = true := fun v hv => by
  rw [← hvs] at hv
  simp only [Builtin.zeroCells, Array.toList_map, List.mem_map] at hv
  obtain ⟨i, _, rfl⟩ := hv
  have : i % 3 < 3 := Nat.mod_lt _ (by omega)
  show (#[Value.string ⟨#[]⟩, .slice none 0 0, .int .i64 0][i % 3]!).oneCell' = true
  match i % 3, this with
  | 0, _ => rfl
  | 1, _ => rfl
  | 2, _ => rfl
 have hst := run_storeCells_cells (P := Tryz.prog) g o vs 0 w (by rw [hl]; simpa using hc) (by rw [hl]; simpa using hf) h1
 simp only [Nat.add_zero] at hst
 obtain ⟨m, rfl⟩ : ∃ m, n = m + 1 := ⟨n - 1, by omega⟩
 refine ⟨vs, fun ty => ?_⟩
 simp [Builtin.clear_, run_underlying Tryz.underlying46, Tryz.zeroValue88, Value.cells, hvs, hst]
end Go.Proofs.YtmfkpllnmmfpiaaGreatDoor

namespace Go.Proofs.YtmfkpllnmmfpiaaGreatDoor
open Go.RowKit Go.Shelf Go.Sort
theorem wrap_pred {j jm : Nat} (h : j = jm + 1) (hj : j ≤ 1000) : IntKind.i64.wrap ((j : Int) - 1) = (jm : Int) := by
 simp [IntKind.wrap, IntKind.bits, IntKind.signed]
 omega
theorem compTo_take {ys : List RX} : ∀ (j : Nat), j ≤ ys.length → (∀ i, i < j → keepsR ys i = true) → compTo ys j = ys.take j
 | 0, _, _ => rfl
 | j + 1, hj, h => by
  have hlt : j < ys.length := by omega
  rw [compTo_keep (List.getElem?_eq_getElem hlt) (h j (by omega)), compTo_take j (by omega) (fun i hi => h i (by omega)), List.take_succ_eq_append_getElem hlt]
theorem compTo_length_le (ys : List RX) : ∀ j, (compTo ys j).length ≤ j
 | 0 => Nat.le_refl _
 | j + 1 => by
  have := compTo_length_le ys j
  rw [compTo, List.length_append]
  split
  ·cases ys[j]? <;> simp <;> omega
  ·simp; omega
theorem RowsAt.nth {w : World} {g : Nat} {xs : List RX} (h : RowsAt w g xs) {i : Nat} {x : RX} (hx : xs[i]? = some x) (o : Nat) (ho : o = i * 3) : w.cell? ⟨g, o, none⟩ = some (.string x.1.name) ∧ w.cell? ⟨g, o + 1, none⟩ = some x.2 ∧ w.cell? ⟨g, o + 2, none⟩ = some (.int .i64 x.1.value) := by
 subst ho
 exact h.cell i x hx
structure Packing (w wr : World) (g : Nat) (ys : List RX) (j q k : Nat) : Prop where
 len : (compTo ys (j + q)).length = k
 lt : k < j + q
 rows : RowsAt wr g (compTo ys (j + q) ++ ys.drop k)
 upd : Upd [g] w wr
theorem Packing.start {w w3 : World} {g j : Nat} {ys : List RX} (hj : j < ys.length) (hk : ∀ i, i < j → keepsR ys i = true) (hd : keepsR ys j = false) (hA : RowsAt w3 g ys) (hU : Upd [] w w3) : Packing w w3 g ys j 1 j := by
 have e : compTo ys (j + 1) = ys.take j := by rw [compTo_drop hd, compTo_take j (by omega) hk]
 refine ⟨?_, by omega, ?_, hU.mono (fun _ h _ => by simp at h)⟩
 ·rw [e]; simp; omega
 ·rw [e, List.take_append_drop]; exact hA
theorem Packing.get {w wr : World} {g j q k i : Nat} {ys : List RX} {x : RX} (h : Packing w wr g ys j q k) (hi : k ≤ i) (hx : ys[i]? = some x) : (compTo ys (j + q) ++ ys.drop k)[i]? = some x := by
 rw [List.getElem?_append_right (by rw [h.len]; exact hi), h.len, List.getElem?_drop]
 rw [show k + (i - k) = i by omega]
 exact hx
theorem Packing.size {w wr : World} {g j q k : Nat} {ys : List RX} (h : Packing w wr g ys j q k) (hn : j + q ≤ ys.length) : (compTo ys (j + q) ++ ys.drop k).length = ys.length := by
 have := h.len
 have := h.lt
 simp
 omega
theorem Packing.later {w wr wr' : World} {g j q k : Nat} {ys : List RX} (h : Packing w wr g ys j q k) (hu : Upd [] wr wr') : Packing w wr' g ys j q k :=
 ⟨h.len, h.lt, h.rows.later hu, h.upd.trans' hu (fun _ hx _ => by simp at hx)⟩
theorem Packing.skip {w wr : World} {g j q k : Nat} {ys : List RX} (h : Packing w wr g ys j q k) (hd : keepsR ys (j + q) = false) : Packing w wr g ys j (q + 1) k := by
 have e : compTo ys (j + (q + 1)) = compTo ys (j + q) := compTo_drop hd
 have := h.lt
 exact ⟨by rw [e]; exact h.len, by omega, by rw [e]; exact h.rows, h.upd⟩
theorem Packing.keep {w wr : World} {g j q k : Nat} {ys : List RX} {y : RX} (h : Packing w wr g ys j q k) (hy : ys[j + q]? = some y) (hd : keepsR ys (j + q) = true) : Packing w (((wr.setCell ⟨g, k * 3, none⟩ (.string y.1.name)).setCell ⟨g, k * 3 + 1, none⟩ y.2).setCell ⟨g, k * 3 + 2, none⟩ (.int .i64 y.1.value)) g ys j (q + 1) (k + 1) := by
 have e : compTo ys (j + (q + 1)) = compTo ys (j + q) ++ [y] := compTo_keep hy hd
 have hl := h.len
 have hlt := h.lt
 have hjl := (List.getElem?_eq_some_iff.1 hy).1
 have hr := h.rows.set (k := k) (x := y) (by rw [h.size (by omega)]; omega)
 have e2 : (compTo ys (j + q) ++ ys.drop k).set k y = compTo ys (j + q) ++ [y] ++ ys.drop (k + 1) := by
  rw [List.set_append, if_neg (by omega), hl, Nat.sub_self, List.drop_eq_getElem_cons (show k < ys.length by omega), List.set_cons_zero, List.append_assoc]
  rfl
 rw [e2] at hr
 refine ⟨by rw [e]; simp; omega, by omega, by rw [e]; exact hr, ((h.upd.setCell (by simp) _).setCell (by simp) _).setCell (by simp) _⟩
theorem Packing.clear {w wr : World} {g j q k n : Nat} {ys : List RX} (h : Packing w wr g ys j q k) (hn : j + q = n) (vs : List Value) : RowsAt (wr.setCells g (k * 3) vs) g (compTo ys n) ∧ Upd [g] w (wr.setCells g (k * 3) vs) := by
 subst hn
 have hl := h.len
 refine ⟨⟨Nat.lt_of_lt_of_le h.rows.lt (setCells_upd g vs _ wr).size, fun i x hx => ?_, fun o ho => ?_⟩, h.upd.trans (setCells_upd g vs _ wr)⟩
 ·have hi := (List.getElem?_eq_some_iff.1 hx).1
  obtain ⟨c0, c1, c2⟩ := h.rows.cell i x (by rw [List.getElem?_append_left hi]; exact hx)
  refine ⟨?_, ?_, ?_⟩
  ·rw [World.cell?_setCells_out g _ _ _ _ (fun _ _ => .inl (by show i * 3 < k * 3; omega))]; exact c0
  ·rw [World.cell?_setCells_out g _ _ _ _ (fun _ _ => .inl (by show i * 3 + 1 < k * 3; omega))]; exact c1
  ·rw [World.cell?_setCells_out g _ _ _ _ (fun _ _ => .inl (by show i * 3 + 2 < k * 3; omega))]; exact c2
 ·rw [World.frozen?_setCells]
  exact h.rows.free o (by rw [List.length_append]; omega)
set_option maxHeartbeats 4000000 in
set_option maxRecDepth 100000 in
theorem compact_any (w : World) (g cap n : Nat) (ys : List RX) (hA : RowsAt w g ys) (hn : ys.length = n) (hle : n ≤ 1000) (hcap : n ≤ cap) (hmax : cap ≤ maxLen) (hI : ∀ x ∈ ys, IntsAt w x.2 x.1.args ∧ x.2.ownBlock ≠ some g) :
  Calls Tryz.prog 86 #[.slice (some ⟨g, 0, none⟩) n cap, .func (.func 87) #[] #[]] w fun e w' => e = .returned (.slice (some ⟨g, 0, none⟩) (compTo ys n).length cap) ∧ RowsAt w' g (compTo ys n) ∧ Upd [g] w w' := by
 have HI := hide hI
 have HA := hide hA
 have Hn := hide hn
 obtain ⟨k0, hk0⟩ : ∃ k0, (compTo ys n).length = k0 := ⟨_, rfl⟩
 rw [hk0]
 have HK0 := hide hk0
 have hglt := hA.lt
 unfold maxLen at hmax
 clear hI hA hn hk0
 by_cases h2 : n < 2
 ·have h2I : (n : Int) < 2 := by omega
  have HE : Hid (compTo ys n = ys) := by
   show _ = _
   have hl := Hn.out
   rw [compTo_take n (by omega) (fun i hi => by obtain rfl : i = 0 := (by omega); rfl), List.take_of_length_le (by omega)]
  have HKn : Hid (k0 = n) := by show _ = _; rw [← HK0.out, HE.out]; exact Hn.out
  rw [HE.out, HKn.out]
  go_enter Tryz.func86, Tryz.ntmps86
  go_wp2
  go_ret
  exact ⟨rfl, HA.out, Upd.refl _ _⟩
 ·have h2I : ¬ (n : Int) < 2 := by omega
  go_enter Tryz.func86, Tryz.ntmps86
  go_wp2
  go_loopw [5] (fun i wr => ∃ j : Nat, 1 ≤ j ∧ j ≤ n ∧ i = .int .i64 j ∧ Hid (Upd [] w wr) ∧ Hid (∀ i, i < j → keepsR ys i = true)) (fun i _ => n - (intOf i).toNat)
  case atStart => exact ⟨1, Nat.le_refl _, by omega, rfl, Upd.refl _ _, fun i hi => by obtain rfl : i = 0 := (by omega); rfl⟩
  case round =>
   obtain ⟨j, hj1, hjn, rfl, HU, HJ⟩ := hrel
   by_cases hlt : j < n
   ·have hltI : (j : Int) < (n : Int) := by omega
    obtain ⟨jm, hjm⟩ : ∃ jm, j = jm + 1 := ⟨j - 1, by omega⟩
    have hjmI : (0 : Int) ≤ (jm : Int) := by omega
    have hjmn : (jm : Int) < (n : Int) := by omega
    have hw1 : IntKind.i64.wrap ((j : Int) - 1) = (jm : Int) := wrap_pred hjm (by omega)
    have Hjm := hide hjm
    obtain ⟨y, hy⟩ : ∃ y, ys[j]? = some y := ⟨_, List.getElem?_eq_getElem (by rw [Hn.out]; exact hlt)⟩
    obtain ⟨p, hp⟩ : ∃ p, ys[jm]? = some p := ⟨_, List.getElem?_eq_getElem (by rw [Hn.out]; omega)⟩
    have HR := hide (HA.out.later HU.out)
    obtain ⟨k0, k1, k2⟩ := HR.out.cell j y hy
    obtain ⟨l0, l1, l2⟩ := HR.out.cell jm p hp
    have hIy := HI.out y (List.mem_of_getElem? hy)
    have hIp := HI.out p (List.mem_of_getElem? hp)
    have HC := hide (fun (W : World) (hW : Upd [] w W) => eqRow_any y.1 p.1 y.2 p.2 W (hIy.1.later hW (fun _ _ => by simp)) (hIp.1.later hW (fun _ _ => by simp)))
    have HC1 := hide (HC.out wr.drew HU.out.drew)
    obtain ⟨ay, ly, cy, hvy⟩ : ∃ a l c, y.2 = .slice a l c := by obtain ⟨a, c, e, _⟩ := hIy.1; exact ⟨a, _, c, e⟩
    obtain ⟨ap, lp, cp, hvp⟩ : ∃ a l c, p.2 = .slice a l c := by obtain ⟨a, c, e, _⟩ := hIp.1; exact ⟨a, _, c, e⟩
    have Hkeep : Hid (keepsR ys j = decide (cmpRow y.1 p.1 ≠ 0)) := by show _ = _; rw [Hjm.out]; exact keepsR_is (by rw [← Hjm.out]; exact hy) hp
    rw [hvy] at k1 HC1
    rw [hvp] at l1 HC1
    obtain ⟨b, hb⟩ : ∃ b, decide (cmpRow y.1 p.1 = 0) = b := ⟨_, rfl⟩
    rw [hb] at HC1
    have Hy := hide hy
    have Hp := hide hp
    have Hvy := hide hvy
    have Hvp := hide hvp
    have Hb := hide hb
    clear hjm hy hp HC hIy hIp hvy hvp hb
    go_upto_region 6 with (fail)
    go_region_held3 (fun w' => w'.cell? ⟨g, j * 3, none⟩ = some (.string y.1.name) ∧ w'.cell? ⟨g, j * 3 + 1, none⟩ = some (.slice ay ly cy) ∧ w'.cell? ⟨g, j * 3 + 2, none⟩ = some (.int .i64 y.1.value) ∧ w'.cell? ⟨g, jm * 3, none⟩ = some (.string p.1.name) ∧ w'.cell? ⟨g, jm * 3 + 1, none⟩ = some (.slice ap lp cp) ∧ w'.cell? ⟨g, jm * 3 + 2, none⟩ = some (.int .i64 p.1.value)) ((first | go_keep | (refine ⟨?_, ?_, ?_, ?_, ?_, ?_⟩ <;> go_simp)))
     ((go_at_call 87; refine HC1.out.mono ?_; rintro e w3 ⟨rfl, hu3⟩; have Hu3 := hide hu3; obtain ⟨m0, m1, m2⟩ := (HR.out.later ((Upd.refl [] wr).drew.trans hu3)).cell j y Hy.out; obtain ⟨o0, o1, o2⟩ := (HR.out.later ((Upd.refl [] wr).drew.trans hu3)).cell jm p Hp.out; rw [Hvy.out] at m1; rw [Hvp.out] at o1; clear hu3))
    have HU3 := hide ((HU.out.drew).trans Hu3.out)
    clear k0 k1 k2 l0 l1 l2 m0 m1 m2 o0 o1 o2 HC1 Hu3
    cases b with
    | false =>
     have HN : Hid (∀ i, i < j + 1 → keepsR ys i = true) := fun i hi => by
      by_cases e : i < j
      ·exact HJ.out i e
      ·obtain rfl : i = j := (by omega)
       rw [Hkeep.out]
       have := of_decide_eq_false Hb.out
       simpa using this
     go_wp2
     exact ⟨⟨j + 1, by omega, by omega, by go_num, HU3, HN⟩, by simp [intOf]; omega⟩
    | true =>
     have HD : Hid (keepsR ys j = false) := by
      show _ = _
      rw [Hkeep.out]
      have := of_decide_eq_true Hb.out
      simpa using this
     have HR3 := hide (HA.out.later HU3.out)
     have hcI : (j : Int) < (cap : Int) := by omega
     have hcI2 : (n : Int) ≤ (cap : Int) := by omega
     have HP := hide (Packing.start (by rw [Hn.out]; exact hlt) HJ.out HD.out HR3.out HU3.out)
     obtain ⟨m, hm⟩ : ∃ m, n - j = m := ⟨_, rfl⟩
     obtain ⟨c2, hc2⟩ : ∃ c2, cap - j = c2 := ⟨_, rfl⟩
     have Hm := hide hm
     have hm1 : m ≤ 1000 := by omega
     have hm2 : 1 ≤ m := by omega
     clear hw1 HR HR3 HU HU3 HJ HD Hkeep Hy Hp Hvy Hvp Hb Hjm hjmI hjmn wr
     go_wp2
     clear hm hc2
     go_loopw [5, 7] (fun i i2 wr => ∃ k q : Nat, 1 ≤ q ∧ q ≤ m ∧ i = .int .i64 k ∧ i2 = .int .i64 q ∧ Hid (Packing w wr g ys j q k)) (fun _ i _ => m - (intOf i).toNat)
     case atStart => exact ⟨j, 1, Nat.le_refl _, hm2, rfl, rfl, HP⟩
     case round =>
      obtain ⟨k, q, hq1, hqm, rfl, rfl, HP1⟩ := hrel
      clear HP
      by_cases hqlt : q < m
      ·have hqI : (q : Int) < (m : Int) := by omega
       have hm' := Hm.out
       have hql : j + q < ys.length := by rw [Hn.out]; omega
       obtain ⟨qm, hqm'⟩ : ∃ qm, q = qm + 1 := ⟨q - 1, by omega⟩
       have hw1 : IntKind.i64.wrap ((q : Int) - 1) = (qm : Int) := wrap_pred hqm' (by omega)
       have hqmI : (0 : Int) ≤ (qm : Int) := by omega
       have hqmn : (qm : Int) < (m : Int) := by omega
       have Hqm := hide hqm'
       have hlt1 := HP1.out.lt
       obtain ⟨y1, hy⟩ : ∃ y, ys[j + q]? = some y := ⟨_, List.getElem?_eq_getElem hql⟩
       obtain ⟨p1, hp⟩ : ∃ p, ys[j + qm]? = some p := ⟨_, List.getElem?_eq_getElem (by omega)⟩
       obtain ⟨z1, hz⟩ : ∃ z, ys[k]? = some z := ⟨_, List.getElem?_eq_getElem (by omega)⟩
       have hzy := HP1.out.get (by omega) hy
       have hzp := HP1.out.get (by omega) hp
       have hzz := HP1.out.get (Nat.le_refl _) hz
       obtain ⟨k0, k1, k2⟩ := HP1.out.rows.nth hzy (j * 3 + q * 3) (by omega)
       obtain ⟨l0, l1, l2⟩ := HP1.out.rows.nth hzp (j * 3 + qm * 3) (by omega)
       have hIy := HI.out y1 (List.mem_of_getElem? hy)
       have hIp := HI.out p1 (List.mem_of_getElem? hp)
       have hng : ∀ x : RX, x.2.ownBlock ≠ some g → ∀ k, x.2.ownBlock = some k → k ∉ [g] := fun x hx k hk hm => hx (hk.trans (by simp at hm; rw [hm]))
       have HC1 := hide (eqRow_any y1.1 p1.1 y1.2 p1.2 wr.drew (hIy.1.later HP1.out.upd.drew (hng y1 hIy.2)) (hIp.1.later HP1.out.upd.drew (hng p1 hIp.2)))
       obtain ⟨ay, ly, cy, hvy⟩ : ∃ a l c, y1.2 = .slice a l c := by obtain ⟨a, c, e, _⟩ := hIy.1; exact ⟨a, _, c, e⟩
       obtain ⟨ap, lp, cp, hvp⟩ : ∃ a l c, p1.2 = .slice a l c := by obtain ⟨a, c, e, _⟩ := hIp.1; exact ⟨a, _, c, e⟩
       have Hkeep : Hid (keepsR ys (j + q) = decide (cmpRow y1.1 p1.1 ≠ 0)) := by
        show _ = _
        rw [Hqm.out]
        exact keepsR_is (j := j + qm) (by rw [show j + qm + 1 = j + q by omega]; exact hy) hp
       rw [hvy] at k1 HC1
       rw [hvp] at l1 HC1
       obtain ⟨b, hb⟩ : ∃ b, decide (cmpRow y1.1 p1.1 = 0) = b := ⟨_, rfl⟩
       rw [hb] at HC1
       have Hb := hide hb
       have HLK := hide (fun (w4 : World) (hu : Upd [] wr w4) => And.intro ((HP1.out.later hu).rows.nth hzy (j * 3 + q * 3) (by omega)) ((HP1.out.later hu).rows.nth hzp (j * 3 + qm * 3) (by omega)))
       have HLz := hide (fun (w4 : World) (hu : Upd [] wr w4) => (HP1.out.later hu).rows.cell k z1 hzz)
       have HLf := hide (fun (w4 : World) (hu : Upd [] wr w4) (o : Nat) (ho : o < ys.length * 3) => (HP1.out.later hu).rows.free o (by rw [HP1.out.size (by omega)]; exact ho))
       have Hk3 : Hid (k * 3 + 2 < ys.length * 3) := by show _ < _; omega
       have hkI : (k : Int) < (n : Int) := by have := Hn.out; omega
       have Hvy := hide hvy
       have Hvp := hide hvp
       have Hy := hide hy
       clear hy hp hz hzy hzp hzz hIy hIp hng hvy hvp hb hqm' hm' hql
       go_upto_region 11 with (fail)
       go_region_held3 (fun w' => w'.cell? ⟨g, j * 3 + q * 3, none⟩ = some (.string y1.1.name) ∧ w'.cell? ⟨g, j * 3 + q * 3 + 1, none⟩ = some (.slice ay ly cy) ∧ w'.cell? ⟨g, j * 3 + q * 3 + 2, none⟩ = some (.int .i64 y1.1.value) ∧ w'.cell? ⟨g, j * 3 + qm * 3, none⟩ = some (.string p1.1.name) ∧ w'.cell? ⟨g, j * 3 + qm * 3 + 1, none⟩ = some (.slice ap lp cp) ∧ w'.cell? ⟨g, j * 3 + qm * 3 + 2, none⟩ = some (.int .i64 p1.1.value)) ((first | go_keep | (refine ⟨?_, ?_, ?_, ?_, ?_, ?_⟩ <;> go_simp)))
        ((go_at_call 87; refine HC1.out.mono ?_; rintro e w4 ⟨rfl, hu4⟩; have Hu4 := hide ((Upd.refl [] wr).drew.trans hu4); obtain ⟨⟨m0, m1, m2⟩, o0, o1, o2⟩ := HLK.out w4 Hu4.out; rw [Hvy.out] at m1; rw [Hvp.out] at o1; clear hu4))
       have HP4 := hide (HP1.out.later Hu4.out)
       cases b with
       | false =>
        have HN : Hid (keepsR ys (j + q) = true) := by
         show _ = _
         rw [Hkeep.out]
         have := of_decide_eq_false Hb.out
         simpa using this
        obtain ⟨z0, z1', z2⟩ := HLz.out w4 Hu4.out
        have f0 := HLf.out w4 Hu4.out (k * 3) (by have := Hk3.out; omega)
        have f1 := HLf.out w4 Hu4.out (k * 3 + 1) (by have := Hk3.out; omega)
        have f2 := HLf.out w4 Hu4.out (k * 3 + 2) (by have := Hk3.out; omega)
        have HK := hide (HP4.out.keep Hy.out HN.out)
        rw [Hvy.out] at HK
        clear k0 k1 k2 l0 l1 l2 HC1 hw1 HLz HLf HLK
        go_wp2
        exact ⟨⟨k + 1, q + 1, by omega, by omega, by go_num, by go_num, HK⟩, by simp [intOf]; omega⟩
       | true =>
        have HN : Hid (keepsR ys (j + q) = false) := by
         show _ = _
         rw [Hkeep.out]
         have := of_decide_eq_true Hb.out
         simpa using this
        have HK := hide (HP4.out.skip HN.out)
        clear k0 k1 k2 l0 l1 l2 HC1 hw1 HLz HLf HLK
        go_wp2
        exact ⟨⟨k, q + 1, by omega, by omega, rfl, by go_num, HK⟩, by simp [intOf]; omega⟩
      ·have hqI : ¬ (q : Int) < (m : Int) := by omega
       obtain rfl : q = m := by omega
       have hm' := Hm.out
       have hlt1 := HP1.out.lt
       have hjq : j + q = n := by omega
       have hk0 : k = k0 := by rw [← HP1.out.len, hjq]; exact HK0.out
       subst hk0
       have hkn : (k : Int) < (n : Int) := by omega
       have hkc : (k : Int) < (cap : Int) := by omega
       have hkne : cap ≠ k := by omega
       have hsz := HP1.out.size (by rw [Hn.out]; omega)
       obtain ⟨vs, hcl⟩ := run_clear_rows wr g (k * 3) (n - k) (cap - k) (by omega) (fun i hi => by
        obtain ⟨z, hz⟩ : ∃ z, (compTo ys (j + q) ++ ys.drop k)[(k * 3 + i) / 3]? = some z := ⟨_, List.getElem?_eq_getElem (by rw [hsz, Hn.out]; omega)⟩
        obtain ⟨c0, c1, c2⟩ := HP1.out.rows.cell _ z hz
        have h3 : (k * 3 + i) % 3 < 3 := Nat.mod_lt _ (by omega)
        match hr : (k * 3 + i) % 3, h3 with
        | 0, _ => rw [show k * 3 + i = (k * 3 + i) / 3 * 3 by omega, c0]; rfl
        | 1, _ => rw [show k * 3 + i = (k * 3 + i) / 3 * 3 + 1 by omega, c1]; rfl
        | 2, _ => rw [show k * 3 + i = (k * 3 + i) / 3 * 3 + 2 by omega, c2]; rfl) (fun i hi => HP1.out.rows.free _ (by rw [hsz, Hn.out]; omega))
       have HE := hide (HP1.out.clear hjq vs)
       clear hsz hm' hjq
       go_wp2
       go_ret
       exact ⟨rfl, HE.out⟩
   ·have hltI : ¬ (j : Int) < (n : Int) := by omega
    obtain rfl : j = n := by omega
    have HE : Hid (compTo ys j = ys) := by
     show _ = _
     have hl := Hn.out
     rw [compTo_take j (by omega) HJ.out, List.take_of_length_le (by omega)]
    have HKn : Hid (k0 = j) := by show _ = _; rw [← HK0.out, HE.out]; exact Hn.out
    go_wp2
    go_ret
    rw [HE.out, HKn.out]
    exact ⟨rfl, HA.out.later HU.out, HU.out.mono (fun _ h _ => by simp at h)⟩
end Go.Proofs.YtmfkpllnmmfpiaaGreatDoor
