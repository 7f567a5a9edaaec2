/- RowSort, RowComp -/
import Derived.Test.YtmfkpllnmmfpiaaGreatDoorSortLayRW
import Derived.Laws.IdiomCopy
namespace Go.Proofs.YtmfkpllnmmfpiaaGreatDoor
open Go.RowKit Go.Shelf Go.Sort
theorem intsAt_of {w : World} {base : Nat} {v : Value} {l : List Nat} (h : w.ownsRow base 3 1 v l.length (intsOf l)) : IntsAt w v l := by
 rcases ownsRow_slice h with ⟨h1, h2⟩ | ⟨g, cap, h1, h2, h3⟩
 ·exact ⟨none, 0, by rw [h2]; exact h1, by omega, by simp [maxLen], fun h => by omega⟩
 ·subst h1
  refine ⟨_, cap, rfl, h2, h3, fun _ => ⟨g, rfl, ownsRow_lt h rfl, fun i t ht => ?_⟩⟩
  have hi := (List.getElem?_eq_some_iff.1 ht).1
  have := h.cellAt i (by omega)
  rw [this]
  simp [intsOf, ht]
theorem flatR_get : ∀ (xs : List RX) (i c : Nat) (x : RX), xs[i]? = some x → c < 3 → (flatR xs)[i * 3 + c]? = (encR x)[c]?
 | y :: xs, 0, c, x, h, hc => by
  simp at h
  subst h
  simp only [flatR, List.flatMap_cons, Nat.zero_mul, Nat.zero_add]
  rw [List.getElem?_append_left (by simp [encR]; omega)]
 | y :: xs, i + 1, c, x, h, hc => by
  have ih := flatR_get xs i c x (by simpa using h) hc
  simp only [flatR, List.flatMap_cons] at ih ⊢
  rw [List.getElem?_append_right (by simp [encR]; omega)]
  have e : (i + 1) * 3 + c - (encR y).length = i * 3 + c := by simp [encR]; omega
  rw [e]
  exact ih
 | [], i, c, x, h, _ => by simp at h
structure RowsAt (w : World) (g : Nat) (xs : List RX) : Prop where
 lt : g < w.heap.size
 cell : ∀ (i : Nat) (x : RX), xs[i]? = some x → w.cell? ⟨g, i * 3, none⟩ = some (.string x.1.name) ∧ w.cell? ⟨g, i * 3 + 1, none⟩ = some x.2 ∧ w.cell? ⟨g, i * 3 + 2, none⟩ = some (.int .i64 x.1.value)
 free : ∀ o, o < xs.length * 3 → w.frozen? ⟨g, o, none⟩ = false
abbrev RY (w : World) (g : Nat) := { x : RX // (∃ a l c, x.2 = .slice a l c) ∧ IntsAt w x.2 x.1.args ∧ x.2.ownBlock ≠ some g }
instance (w : World) (g : Nat) : Inhabited (RY w g) := ⟨⟨(default, .slice none 0 0), ⟨none, 0, 0, rfl⟩, ⟨none, 0, rfl, Nat.le_refl _, by simp [maxLen], fun h => absurd h (Nat.lt_irrefl _)⟩, by simp [Value.ownBlock]⟩⟩
def encY {w : World} {g : Nat} (x : RY w g) : List Value := encR x.1
def cmpY {w : World} {g : Nat} (x y : RY w g) : Int := cmpRow x.1.1 y.1.1
theorem upd_sortK {α : Type} [Inhabited α] (enc : α → List Value) (k : Nat) {w : World} (g m : Nat) (d : Array α) (os : Array Obj) : Upd [g] w (sortWorldK enc k w g 0 m d os) := by
 unfold sortWorldK putRowK putRow
 refine ⟨rfl, rfl, rfl, ?_, fun k hk hn => ?_⟩
 ·simp [grow, mapBlock, Sort.ahead]
 ·simp only [List.mem_singleton] at hn
  simp only [grow, mapBlock, Sort.ahead]
  rw [Array.getElem?_append_left (by simpa using hk)]
  rw [Array.getElem?_modify, if_neg (fun e => hn e.symm)]
theorem cmpLays_rows (w : World) (g size : Nat) : CmpLays Tryz.prog 85 #[] (encY (w := w) (g := g)) 3 cmpY g 0 size w := fun m os dk _ x y => by
 have U := upd_sortK (encY (w := w) (g := g)) 3 (w := w) g m dk os
 have hx := x.2.2.1.later U (fun k hk hm => x.2.2.2 (hk.trans (by simp at hm; rw [hm])))
 have hy := y.2.2.1.later U (fun k hk hm => y.2.2.2 (hk.trans (by simp at hm; rw [hm])))
 exact compareRows_any x.1.1 y.1.1 x.1.2 y.1.2 _ hx hy
theorem swoY {w : World} {g : Nat} : SWO (ltOf (cmpY (w := w) (g := g))) := by
 have h := swo_of (α := RY w g) lin_key (fun x => keyR x.1.1)
 have e : (fun (x y : RY w g) => cmpK (keyR x.1.1) (keyR y.1.1)) = cmpY := by
  funext x y
  exact (cmpRow_key _ _).symm
 rw [e] at h
 exact h
theorem permIn_list {α : Type} [Inhabited α] {d d' : Array α} {n : Nat} (h : PermIn 0 n d d') (h1 : d.size = n) (h2 : d'.size = n) : d'.toList.Perm d.toList := by
 have h3 := h.2.2
 have e1 : (d'.extract 0 n).toList = d'.toList := by
  rw [Array.toList_extract]
  simp [List.extract, List.take_of_length_le (Nat.le_of_eq (show d'.toList.length = n by simpa using h2))]
 have e2 : (d.extract 0 n).toList = d.toList := by
  rw [Array.toList_extract]
  simp [List.extract, List.take_of_length_le (Nat.le_of_eq (show d.toList.length = n by simpa using h1))]
 rw [e1, e2] at h3
 exact h3
theorem sortRows_any (w3 wr : World) (g cap : Nat) (xs : List RX) (h : Rowing w3 wr (.slice (some ⟨g, 0, none⟩) xs.length cap) xs) (hl : xs.length ≤ 1000) :
  Calls Tryz.prog 84 #[.slice (some ⟨g, 0, none⟩) xs.length cap, .func (.func 85) #[] #[]] wr fun e w' => e = .returned (.tuple #[]) ∧ ∃ ys : List RX, ys.Perm xs ∧ ys.Pairwise (fun x y => ¬ cmpRow y.1 x.1 < 0) ∧ RowsAt w' g ys ∧ Upd [g] wr w' := by
 have hall : ∀ x ∈ xs, (∃ a l c, x.2 = .slice a l c) ∧ IntsAt wr x.2 x.1.args ∧ x.2.ownBlock ≠ some g := fun x hx => by
  obtain ⟨i, hi⟩ := List.getElem?_of_mem hx
  have ha := h.args i x hi
  obtain ⟨a, c, e⟩ := slice_len ha
  exact ⟨⟨a, _, c, e⟩, intsAt_of ha, fun e => h.out i x hi g e rfl⟩
 have hdl : (xs.pmap (fun x hx => (⟨x, hx⟩ : RY wr g)) hall).toArray.size = xs.length := by simp
 have hdm : (xs.pmap (fun x hx => (⟨x, hx⟩ : RY wr g)) hall).map (·.1) = xs := by rw [List.map_pmap]; simp
 obtain ⟨d, hd⟩ : ∃ d : List (RY wr g), xs.pmap (fun x hx => (⟨x, hx⟩ : RY wr g)) hall = d := ⟨_, rfl⟩
 rw [hd] at hdl hdm
 have hglt := ownsRow_lt h.row (k := g) rfl
 have hH : HoldsK (encY (w := wr) (g := g)) 3 wr g 0 d.toArray := by
  intro t ht
  rw [size_flatK, hdl] at ht
  have hq : t / 3 < xs.length := by omega
  obtain ⟨x, hx⟩ : ∃ x, xs[t / 3]? = some x := ⟨_, List.getElem?_eq_getElem hq⟩
  have hx2 : d[t / 3]?.map (·.1) = some x := by rw [← List.getElem?_map, hdm]; exact hx
  obtain ⟨y, hy, hyx⟩ := Option.map_eq_some_iff.1 hx2
  rw [get_flatK _ 3 _ t (by rw [hdl]; exact ht)]
  have e1 : d.toArray[t / 3]! = y := by
   have hlt : t / 3 < d.toArray.size := by rw [hdl]; exact hq
   rw [getElem!_pos d.toArray (t / 3) hlt]
   have : d[t / 3]? = some d.toArray[t / 3] := by simp [List.getElem?_eq_getElem (show t / 3 < d.length by simpa using hlt)]
   rw [this] at hy
   exact Option.some.inj hy
  have hg := flatR_get xs (t / 3) (t % 3) x hx (Nat.mod_lt _ (by omega))
  have et : t / 3 * 3 + t % 3 = t := by omega
  rw [et] at hg
  rw [Nat.zero_add, e1]
  refine ⟨?_, row_free h.row t⟩
  rw [h.row.cellAt t (by omega), hg]
  show (encR x)[t % 3]? = some ((encR y.1)[t % 3]!)
  rw [hyx]
  have : t % 3 < (encR x).length := by simp [encR]; omega
  rw [List.getElem?_eq_getElem this, getElem!_pos (encR x) (t % 3) this]
 have hc := AnyQ.slices_SortFunc_eq sortR 3 Tryz.isAgg88 Tryz.sizeOf88 (encY (w := wr) (g := g)) (fun _ => rfl) (fun x v hv => by
   obtain ⟨a, l, c, e⟩ := x.2.1
   simp [encY, encR, e] at hv
   rcases hv with rfl | rfl | rfl <;> rfl) cmpY swoY 85 #[] g 0 cap d.toArray wr (enters_of Tryz.func85 (by kernel_rfl) rfl) (cmpLays_rows wr g _) hH hglt (by rw [hdl]; omega)
 rw [hdl] at hc
 change Calls Tryz.prog 84 _ _ _ at hc
 refine hc.mono fun e w' hw => ?_
 obtain ⟨he, m, os, rfl⟩ := hw
 obtain ⟨hp, hs⟩ := pdq_sorts (ltOf (cmpY (w := wr) (g := g))) swoY d.toArray 0 xs.length (Lib.bitLen xs.length) true true (Nat.zero_le _) (by rw [hdl]; exact Nat.le_refl _) (Or.inl rfl)
 obtain ⟨d', hd'⟩ : ∃ d', pdq (ltOf (cmpY (w := wr) (g := g))) d.toArray 0 xs.length (Lib.bitLen xs.length) true true = d' := ⟨_, rfl⟩
 rw [hd'] at hp hs ⊢
 have hsz : d'.size = xs.length := by have := hp.1; rw [hdl] at this; exact this
 have hperm := permIn_list hp hdl hsz
 refine ⟨he, d'.toList.map (·.1), ?_, ?_, ?_, upd_sortK _ 3 g m d' os⟩
 ·have := hperm.map (fun (x : RY wr g) => x.1)
  rw [show d.toArray.toList = d from rfl, hdm] at this
  exact this
 ·rw [List.pairwise_map, List.pairwise_iff_getElem]
  intro i j hi hj hij
  have hi' : i < d'.size := by simpa using hi
  have hj' : j < d'.size := by simpa using hj
  have := hs i j (Nat.zero_le _) hij (by rw [← hsz]; exact hj')
  rw [getElem!_pos d' i hi', getElem!_pos d' j hj'] at this
  unfold ltOf at this
  have h2 := of_decide_eq_false this
  simpa [cmpY] using h2
 ·have hG := holdsK_sortWorldK (encY (w := wr) (g := g)) 3 wr g 0 m d.toArray d' os hglt hH (by rw [hsz, hdl])
  refine ⟨lt_sortWorldK _ 3 wr g 0 m d' os hglt, fun i x hx => ?_, fun o ho => ?_⟩
  ·have hi : i < d'.size := by
    have := (List.getElem?_eq_some_iff.1 hx).1
    simpa using this
   have ex : d'[i]!.1 = x := by
    rw [getElem!_pos d' i hi]
    rw [List.getElem?_map] at hx
    have e2 : d'.toList[i]? = some d'[i] := by simp [hi]
    rw [e2] at hx
    exact Option.some.inj hx
   have c0 := (hG.cell (i := i) (c := 0) hi (by omega)).1
   have c1 := (hG.cell (i := i) (c := 1) hi (by omega)).1
   have c2 := (hG.cell (i := i) (c := 2) hi (by omega)).1
   simp only [encY, encR, Nat.zero_add, Nat.add_zero] at c0 c1 c2
   rw [ex] at c0 c1 c2
   exact ⟨c0, c1, c2⟩
  ·have := (hG o (by rw [size_flatK]; simpa using ho)).2
   rwa [Nat.zero_add] at this
end Go.Proofs.YtmfkpllnmmfpiaaGreatDoor

namespace Go.Proofs.YtmfkpllnmmfpiaaGreatDoor
open Go.RowKit Go.Shelf Go.Sort
def keepsR (ys : List RX) : Nat → Bool
 | 0 => true
 | j + 1 => match ys[j + 1]?, ys[j]? with
  | some y, some p => decide (cmpRow y.1 p.1 ≠ 0)
  | _, _ => true
def compTo (ys : List RX) : Nat → List RX
 | 0 => []
 | j + 1 => compTo ys j ++ (if keepsR ys j then (ys[j]?).toList else [])
theorem compTo_keep {ys : List RX} {j : Nat} {y : RX} (h : ys[j]? = some y) (hk : keepsR ys j = true) : compTo ys (j + 1) = compTo ys j ++ [y] := by
 rw [compTo, hk, h]
 rfl
theorem compTo_drop {ys : List RX} {j : Nat} (hk : keepsR ys j = false) : compTo ys (j + 1) = compTo ys j := by
 rw [compTo, hk]
 simp
theorem keepsR_is {ys : List RX} {j : Nat} {y p : RX} (h1 : ys[j + 1]? = some y) (h2 : ys[j]? = some p) : keepsR ys (j + 1) = decide (cmpRow y.1 p.1 ≠ 0) := by
 simp only [keepsR, h1, h2]
theorem upd_grow (w : World) (q : Nat) (os : Array Obj) : Upd [] w (grow (w.drewN q) os) := by
 refine ⟨rfl, rfl, rfl, by simp [grow, World.drewN], fun k hk _ => ?_⟩
 simp only [grow]
 rw [Array.getElem?_append_left (by simpa using hk)]
 rfl
set_option maxHeartbeats 2000000 in
set_option maxRecDepth 100000 in
theorem eqRow_any (x y : RowP) (vx vy : Value) (W : World) (hx : IntsAt W vx x.args) (hy : IntsAt W vy y.args) :
  Calls Tryz.prog 87 #[.agg #[.string x.name, vx, .int .i64 x.value], .agg #[.string y.name, vy, .int .i64 y.value]] W fun e w' => e = .returned (.bool (decide (cmpRow x y = 0))) ∧ Upd [] W w' := by
 have hU := ((Upd.refl [] W).alloc (.cells #[.string x.name, vx, .int .i64 x.value] 88)).alloc (.cells #[.string y.name, vy, .int .i64 y.value] 88)
 have HC := hide (compareRows_any x y vx vy _ (hx.later hU (fun _ _ => by simp)) (hy.later hU (fun _ _ => by simp)))
 obtain ⟨ax, capx, hvx, _, _, _⟩ := hx
 obtain ⟨ay, capy, hvy, _, _, _⟩ := hy
 have HU := hide hU
 obtain ⟨nx, hnx⟩ : ∃ nx, x.args.length = nx := ⟨_, rfl⟩
 obtain ⟨ny, hny⟩ : ∃ ny, y.args.length = ny := ⟨_, rfl⟩
 rw [hnx] at hvx
 rw [hny] at hvy
 subst hvx hvy
 obtain ⟨R, hR⟩ : ∃ R, cmpRow x y = R := ⟨_, rfl⟩
 rw [hR] at HC ⊢
 clear hU hnx hny hR
 by_cases h0 : R = 0
 ·subst h0
  go_enter Tryz.func87, Tryz.ntmps87
  go_wp2_with (go_at_call 85; refine HC.out.mono ?_; rintro e w3 ⟨rfl, q, os, hw3⟩; rw [hw3]; clear hw3 w3)
  go_ret
  exact ⟨by simp, HU.out.trans (upd_grow _ _ _)⟩
 ·have hb : (R == 0) = false := by simpa using h0
  go_enter Tryz.func87, Tryz.ntmps87
  go_wp2_with (go_at_call 85; refine HC.out.mono ?_; rintro e w3 ⟨rfl, q, os, hw3⟩; rw [hw3]; clear hw3 w3)
  go_ret
  exact ⟨by simp [h0], HU.out.trans (upd_grow _ _ _)⟩
theorem RowsAt.later {w w' : World} {g : Nat} {xs : List RX} (h : RowsAt w g xs) (hu : Upd [] w w') : RowsAt w' g xs :=
 ⟨Nat.lt_of_lt_of_le h.lt hu.size, fun i x hx => ⟨(hu.cell (p := ⟨g, i * 3, none⟩) h.lt (by simp)).trans (h.cell i x hx).1, (hu.cell (p := ⟨g, i * 3 + 1, none⟩) h.lt (by simp)).trans (h.cell i x hx).2.1, (hu.cell (p := ⟨g, i * 3 + 2, none⟩) h.lt (by simp)).trans (h.cell i x hx).2.2⟩, fun o ho => (hu.frozen (p := ⟨g, o, none⟩) h.lt (by simp)).trans (h.free o ho)⟩
theorem RowsAt.set {w : World} {g k : Nat} {xs : List RX} {x : RX} (h : RowsAt w g xs) (hk : k < xs.length) : RowsAt (((w.setCell ⟨g, k * 3, none⟩ (.string x.1.name)).setCell ⟨g, k * 3 + 1, none⟩ x.2).setCell ⟨g, k * 3 + 2, none⟩ (.int .i64 x.1.value)) g (xs.set k x) := by
 have hlt := h.lt
 obtain ⟨y, hy⟩ : ∃ y, xs[k]? = some y := ⟨_, List.getElem?_eq_getElem hk⟩
 obtain ⟨y0, y1, y2⟩ := h.cell k y hy
 refine ⟨by simpa using hlt, fun i z hz => ?_, fun o ho => by simpa using h.free o (by simpa using ho)⟩
 by_cases e : i = k
 ·subst e
  rw [List.getElem?_set] at hz
  simp [hk] at hz
  subst hz
  exact ⟨by go_simp, by go_simp, by go_simp⟩
 ·rw [List.getElem?_set_ne (by omega)] at hz
  obtain ⟨z0, z1, z2⟩ := h.cell i z hz
  refine ⟨?_, ?_, ?_⟩
  ·refine (World.cell?_setCell_other _ _ _ _ ?_).trans ((World.cell?_setCell_other _ _ _ _ ?_).trans ((World.cell?_setCell_other _ _ _ _ ?_).trans z0)) <;> (intro e; injection e with _ e2; omega)
  ·refine (World.cell?_setCell_other _ _ _ _ ?_).trans ((World.cell?_setCell_other _ _ _ _ ?_).trans ((World.cell?_setCell_other _ _ _ _ ?_).trans z1)) <;> (intro e; injection e with _ e2; omega)
  ·refine (World.cell?_setCell_other _ _ _ _ ?_).trans ((World.cell?_setCell_other _ _ _ _ ?_).trans ((World.cell?_setCell_other _ _ _ _ ?_).trans z2)) <;> (intro e; injection e with _ e2; omega)
theorem run_clear_rows (w : World) (g o n c : Nat) (hn : 0 < n) (hc : ∀ j, j < n * 3 → (w.cell? ⟨g, o + j, none⟩).isSome = true) (hf : ∀ j, j < n * 3 → w.frozen? ⟨g, o + j, none⟩ = false) :
  ∃ vs : List Value, ∀ ty, (Builtin.clear_ #[46] ty #[.slice (some ⟨g, o, none⟩) n c]).run Tryz.prog w = .ok (.tuple #[]) (w.setCells g o vs) := by
 obtain ⟨vs, hvs⟩ : ∃ vs, (Builtin.zeroCells #[.string ⟨#[]⟩, .slice none 0 0, .int .i64 0] n).toList = vs := ⟨_, rfl⟩
 have hl : vs.length = n * 3 := by rw [← hvs]; simp [Builtin.zeroCells]
 have h1 : ∀ v ∈ vs, v.oneCell' = true := fun v hv => by
  rw [← hvs] at hv
  simp only [Builtin.zeroCells, Array.toList_map, List.mem_map] at hv
  obtain ⟨i, _, rfl⟩ := hv
  have : i % 3 < 3 := Nat.mod_lt _ (by omega)
  show (#[Value.string ⟨#[]⟩, .slice none 0 0, .int .i64 0][i % 3]!).oneCell' = true
  match i % 3, this with
  | 0, _ => rfl
  | 1, _ => rfl
  | 2, _ => rfl
 have hst := run_storeCells_cells (P := Tryz.prog) g o vs 0 w (by rw [hl]; simpa using hc) (by rw [hl]; simpa using hf) h1
 simp only [Nat.add_zero] at hst
 obtain ⟨m, rfl⟩ : ∃ m, n = m + 1 := ⟨n - 1, by omega⟩
 refine ⟨vs, fun ty => ?_⟩
 simp [Builtin.clear_, run_underlying Tryz.underlying46, Tryz.zeroValue88, Value.cells, hvs, hst]
end Go.Proofs.YtmfkpllnmmfpiaaGreatDoor
