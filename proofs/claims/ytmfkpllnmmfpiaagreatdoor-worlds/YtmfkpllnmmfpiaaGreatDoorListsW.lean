/- RowBuild, Lists -/
import Derived.Test.YtmfkpllnmmfpiaaGreatDoorRowCmpW
import Derived.Test.YtmfkpllnmmfpiaaGreatDoorWebTermW
namespace Go.Proofs.YtmfkpllnmmfpiaaGreatDoor
open Go.RowKit Go.Shelf Go.Sort
theorem info_apiRow : (Tryz.prog.info? 88).map (fun i => (i.zero, i.size, i.bytes)) = some (some (.agg #[.string ⟨#[]⟩, .slice none 0 0, .int .i64 0]), 3, 48) := by kernel_rfl
abbrev RX := RowP × Value
def encR (x : RX) : List Value := [.string x.1.name, x.2, .int .i64 x.1.value]
def flatR (xs : List RX) : List Value := xs.flatMap encR
theorem flatR_append (a b : List RX) : flatR (a ++ b) = flatR a ++ flatR b := by simp [flatR]
def rowOf (S : WS) (pl : List Nat) (i : Nat) : RowP := ⟨(shapeAt S i).1, (partsL (shapeAt S i)).map fun k => pl.getD k 0, pl.getD i 0⟩
def rowsTo (S : WS) (pl : List Nat) (j : Nat) : List RowP := (List.range j).map (rowOf S pl)
theorem rowsTo_succ (S : WS) (pl : List Nat) (j : Nat) : rowsTo S pl (j + 1) = rowsTo S pl j ++ [rowOf S pl j] := by simp [rowsTo, List.range_succ]
structure Rowing (w3 wr : World) (v : Value) (xs : List RX) : Prop where
 row : wr.ownsRow w3.heap.size 88 3 v xs.length (flatR xs)
 args : ∀ (i : Nat) (x : RX), xs[i]? = some x → wr.ownsRow w3.heap.size 3 1 x.2 x.1.args.length (intsOf x.1.args)
 out : ∀ (i : Nat) (x : RX), xs[i]? = some x → ∀ k, x.2.ownBlock = some k → v.ownBlock ≠ some k
 sep : ∀ (i j : Nat) (x y : RX), xs[i]? = some x → xs[j]? = some y → i ≠ j → ∀ k, x.2.ownBlock = some k → y.2.ownBlock ≠ some k
 upd : Upd [] w3 wr
 made : v.ownBlock ≠ none
theorem Rowing.next {w3 wr w4 w5 w6 : World} {v vA : Value} {xs : List RX} {r : RowP} {g cap B : Nat} (h : Rowing w3 wr v xs) (hu : Upd [] wr w4) (hA : w4.ownsRow B 3 1 vA r.args.length (intsOf r.args)) (hB : wr.heap.size ≤ B) (hu5 : Upd [] w4 w5) (hg : w5.grownBy w6 v.ownBlock) (hat : v.ownBlock = some g ∨ g = w5.heap.size)
  (hown : w6.ownsRow w3.heap.size 88 3 (.slice (some ⟨g, 0, none⟩) (xs.length + 1) cap) (xs.length + 1) (flatR xs ++ [.string r.name, vA, .int .i64 r.value])) : Rowing w3 w6 (.slice (some ⟨g, 0, none⟩) (xs.length + 1) cap) (xs ++ [(r, vA)]) := by
 have s1 := h.upd.size
 have s2 := hu.size
 have s3 := hu5.size
 have U : Upd v.ownBlock.toList w5 w6 := Upd.of_grown hg
 have hAlt : ∀ k, vA.ownBlock = some k → B ≤ k ∧ k < w4.heap.size := fun k hk => ⟨own_geT hA hk, ownsRow_lt hA hk⟩
 have hvlt : ∀ k, v.ownBlock = some k → w3.heap.size ≤ k ∧ k < wr.heap.size := fun k hk => ⟨own_geT h.row hk, ownsRow_lt h.row hk⟩
 have key : ∀ (i : Nat) (x : RX), (xs ++ [(r, vA)])[i]? = some x → (xs[i]? = some x ∧ i < xs.length) ∨ (i = xs.length ∧ x = (r, vA)) := fun i x hx => by
  by_cases hi : i < xs.length
  ·rw [List.getElem?_append_left hi] at hx
   exact .inl ⟨hx, hi⟩
  ·have hi2 : i = xs.length := by
    have := (List.getElem?_eq_some_iff.1 hx).1
    simp at this
    omega
   subst hi2
   rw [List.getElem?_concat_length] at hx
   exact .inr ⟨rfl, (Option.some.inj hx).symm⟩
 have hout : ∀ (i : Nat) (x : RX), (xs ++ [(r, vA)])[i]? = some x → ∀ k, x.2.ownBlock = some k → v.ownBlock ≠ some k ∧ k < w5.heap.size := fun i x hx k hk => by
  rcases key i x hx with ⟨hx', _⟩ | ⟨_, rfl⟩
  ·exact ⟨h.out i x hx' k hk, by have := ownsRow_lt (h.args i x hx') hk; omega⟩
  ·have := hAlt k hk
   exact ⟨fun e => by have := hvlt k e; omega, by omega⟩
 refine ⟨?_, fun i x hx => ?_, fun i x hx k hk e => ?_, fun i j x y hx hy hij k hk e => ?_, ((h.upd.trans hu).trans hu5).trans' U (fun k hk hl => ?_), by simp [own_slice]⟩
 ·rw [List.length_append, flatR_append]
  exact hown
 ·have ho := fun k hk => (hout i x hx k hk).1
  rcases key i x hx with ⟨hx', _⟩ | ⟨_, rfl⟩
  ·exact U.ownsRow ((hu.trans hu5).ownsRow (h.args i x hx') (fun _ _ => by simp)) (fun k hk hm => ho k hk (by simpa using hm))
  ·have hb : w4.ownsRow w3.heap.size 3 1 vA r.args.length (intsOf r.args) := ownsRow_base hA fun k hk => by have := hAlt k hk; omega
   exact U.ownsRow (hu5.ownsRow hb (fun _ _ => by simp)) (fun k hk hm => ho k hk (by simpa using hm))
 ·obtain ⟨h1, h2⟩ := hout i x hx k hk
  simp only [own_slice, Option.some.injEq] at e
  subst e
  rcases hat with hat | hat
  ·exact h1 hat
  ·omega
 ·rcases key i x hx with ⟨hx', hi⟩ | ⟨rfl, rfl⟩
  ·rcases key j y hy with ⟨hy', hj⟩ | ⟨rfl, rfl⟩
   ·exact h.sep i j x y hx' hy' hij k hk e
   ·have := ownsRow_lt (h.args i x hx') hk
    have := hAlt k e
    omega
  ·rcases key j y hy with ⟨hy', hj⟩ | ⟨rfl, rfl⟩
   ·have := ownsRow_lt (h.args j y hy') e
    have := hAlt k hk
    omega
   ·exact hij rfl
 ·have := hvlt k (by simpa using hk)
  omega
structure RowBld (w4 wr : World) (SB RB : Nat) (s : Sh) (val : Nat) (vA : Value) (bs : List Nat) : Prop where
 box : BoxSh wr SB s
 sb : SB < RB
 lt : RB < wr.heap.size
 free : ∀ o, wr.frozen? ⟨RB, o, none⟩ = false
 c0 : wr.cell? ⟨RB, 0, none⟩ = some (.string s.1)
 c1 : wr.cell? ⟨RB, 1, none⟩ = some vA
 c2 : wr.cell? ⟨RB, 2, none⟩ = some (.int .i64 val)
 row : wr.ownsRow (RB + 1) 3 1 vA bs.length (intsOf bs)
 ge : w4.heap.size ≤ SB
 upd : Upd [] w4 wr
theorem RowBld.grown {w4 wr w1 w3 : World} {SB RB val : Nat} {s : Sh} {vA : Value} {bs : List Nat} (h : RowBld w4 wr SB RB s val vA bs) (hu : Upd [] wr w1) (hg : w1.grownBy w3 vA.ownBlock) : w3.cell? ⟨RB, 1, none⟩ = some vA ∧ ∀ o, w3.frozen? ⟨RB, o, none⟩ = false := by
 have hnt : RB ∉ vA.ownBlock.toList := fun hm => by have := own_geT h.row (by simpa using hm); omega
 have U : Upd vA.ownBlock.toList wr w3 := (hu.mono (fun x hx _ => by cases hx)).trans (Upd.of_grown hg)
 exact ⟨(U.cell (p := ⟨RB, 1, none⟩) h.lt hnt).trans h.c1, fun o => (U.frozen (p := ⟨RB, o, none⟩) h.lt hnt).trans (h.free o)⟩
theorem RowBld.next {w4 wr w1 w3 : World} {SB RB val g cap a : Nat} {s : Sh} {vA : Value} {bs : List Nat} (h : RowBld w4 wr SB RB s val vA bs) (hu : Upd [] wr w1) (hg : w1.grownBy w3 vA.ownBlock) (hat : vA.ownBlock = some g ∨ g = w1.heap.size)
  (hown : w3.ownsRow (RB + 1) 3 1 (.slice (some ⟨g, 0, none⟩) (bs.length + 1) cap) (bs.length + 1) (intsOf bs ++ [.int .i64 a])) : RowBld w4 (w3.setCell ⟨RB, 1, none⟩ (.slice (some ⟨g, 0, none⟩) (bs.length + 1) cap)) SB RB s val (.slice (some ⟨g, 0, none⟩) (bs.length + 1) cap) (bs ++ [a]) := by
 have h0 := h.lt
 have hs := hu.size
 have hge := h.ge
 have hsb := h.sb
 have hs4 := h.upd.size
 have hvge : ∀ k, vA.ownBlock = some k → RB < k ∧ k < wr.heap.size := fun k hk => ⟨own_geT h.row hk, ownsRow_lt h.row hk⟩
 have hnt : RB ∉ vA.ownBlock.toList := fun hm => by have := hvge RB (by simpa using hm); omega
 have U : Upd vA.ownBlock.toList wr w3 := (hu.mono (fun x hx _ => by cases hx)).trans (Upd.of_grown hg)
 have g0 := (U.cell (p := ⟨RB, 0, none⟩) h.lt hnt).trans h.c0
 have g1 := (U.cell (p := ⟨RB, 1, none⟩) h.lt hnt).trans h.c1
 have g2 := (U.cell (p := ⟨RB, 2, none⟩) h.lt hnt).trans h.c2
 have gf : ∀ o, w3.frozen? ⟨RB, o, none⟩ = false := fun o => (U.frozen (p := ⟨RB, o, none⟩) h.lt hnt).trans (h.free o)
 have hlt3 : RB < w3.heap.size := Nat.lt_of_lt_of_le h.lt U.size
 have hgt : RB < g := by rcases hat with hat | hat; exact (hvge g hat).1; omega
 have hu3 : Upd [RB] w3 (w3.setCell ⟨RB, 1, none⟩ (.slice (some ⟨g, 0, none⟩) (bs.length + 1) cap)) := (Upd.refl [RB] w3).setCell (by simp) _
 have UU : Upd (RB :: vA.ownBlock.toList) wr (w3.setCell ⟨RB, 1, none⟩ (.slice (some ⟨g, 0, none⟩) (bs.length + 1) cap)) := (U.mono (fun x hx _ => by simp at hx ⊢; exact .inr hx)).setCell (by simp) _
 refine ⟨?_, hsb, by simpa using hlt3, fun o => by simpa using gf o, by go_simp, by go_simp, by go_simp, ?_, hge, h.upd.trans' UU (fun k hk hl => ?_)⟩
 ·have hb := h.box
  have hSn : SB ∉ RB :: vA.ownBlock.toList := fun hm => by
   simp at hm
   rcases hm with hm | hm
   ·omega
   ·have := hvge SB hm; omega
  exact hb.later UU hSn
 ·have := hu3.ownsRow hown (fun k hk hm => by simp [Value.ownBlock] at hk hm; omega)
  simpa [intsOf] using this
 ·simp at hk
  rcases hk with hk | hk
  ·omega
  ·have := hvge k hk; omega
end Go.Proofs.YtmfkpllnmmfpiaaGreatDoor

namespace Go.Proofs.YtmfkpllnmmfpiaaGreatDoor
open Go.RowKit
def ofClass (S : WS) (ts : List TN) (i c : Nat) : List ByteArray := ((ts.take i).filter (fun t => classAt S t.2 == c)).map (·.1)
def listsTo (S : WS) (ts : List TN) (i : Nat) : List (List ByteArray) := (firstsOf (clsTo S ts i)).map (ofClass S ts i)
theorem listsTo_length (S : WS) (ts : List TN) (i : Nat) : (listsTo S ts i).length = (firstsOf (clsTo S ts i)).length := by simp [listsTo]
theorem ofClass_succ {S : WS} {ts : List TN} {i c : Nat} {t : TN} (h : ts[i]? = some t) : ofClass S ts (i + 1) c = ofClass S ts i c ++ (if classAt S t.2 = c then [t.1] else []) := by
 unfold ofClass
 have hlt := (List.getElem?_eq_some_iff.1 h).1
 rw [List.getElem?_eq_getElem hlt] at h
 rw [List.take_succ_eq_append_getElem hlt, Option.some.inj h, List.filter_append, List.map_append]
 congr 1
 by_cases e : classAt S t.2 = c
 ·simp [e]
 ·simp [e]
theorem ofClass_none {S : WS} {ts : List TN} {i c : Nat} (h : c ∉ clsTo S ts i) : ofClass S ts i c = [] := by
 unfold ofClass
 rw [List.map_eq_nil_iff, List.filter_eq_nil_iff]
 intro t ht he
 exact h (List.mem_map.2 ⟨t, ht, by simpa using he⟩)
theorem listsTo_new {S : WS} {ts : List TN} {i : Nat} {t : TN} (h : ts[i]? = some t) (hn : classAt S t.2 ∉ clsTo S ts i) : listsTo S ts (i + 1) = listsTo S ts i ++ [[t.1]] := by
 unfold listsTo
 rw [clsTo_succ h, (idx_new hn).1, List.map_append]
 congr 1
 ·refine List.map_congr_left fun c hc => ?_
  rw [ofClass_succ h, if_neg (fun e : classAt S t.2 = c => hn ((mem_firsts _ _).1 (by rw [e]; exact hc))), List.append_nil]
 ·simp only [List.map_cons, List.map_nil]
  rw [ofClass_succ h, if_pos rfl, ofClass_none hn, List.nil_append]
theorem listsTo_at {S : WS} {ts : List TN} {i c : Nat} (h : c ∈ clsTo S ts i) : (listsTo S ts i)[placeIn (clsTo S ts i) c]? = some (ofClass S ts i c) := by
 unfold listsTo placeIn
 have hm := (mem_firsts _ _).2 h
 rw [List.getElem?_map, List.getElem?_eq_getElem (List.idxOf_lt_length_iff.2 hm), List.getElem_idxOf]
 rfl
theorem listsTo_old {S : WS} {ts : List TN} {i : Nat} {t : TN} (h : ts[i]? = some t) (hin : classAt S t.2 ∈ clsTo S ts i) : listsTo S ts (i + 1) = (listsTo S ts i).set (placeIn (clsTo S ts i) (classAt S t.2)) (ofClass S ts i (classAt S t.2) ++ [t.1]) := by
 have e := idx_old hin
 have hnd := firsts_nodup (clsTo S ts i)
 unfold listsTo placeIn
 rw [clsTo_succ h, e]
 refine List.ext_getElem? fun q => ?_
 rw [List.getElem?_map, List.getElem?_set, List.length_map]
 have hm := (mem_firsts _ _).2 hin
 have hp := List.idxOf_lt_length_iff.2 hm
 by_cases hq : q < (firstsOf (clsTo S ts i)).length
 ·rw [List.getElem?_eq_getElem hq]
  simp only [Option.map_some]
  by_cases he : (firstsOf (clsTo S ts i)).idxOf (classAt S t.2) = q
  ·subst he
   rw [if_pos rfl, if_pos hp]
   simp only [List.getElem_idxOf]
   rw [ofClass_succ h, if_pos rfl]
  ·rw [if_neg he, List.getElem?_map, List.getElem?_eq_getElem hq]
   simp only [Option.map_some]
   rw [ofClass_succ h, if_neg (fun e2 => he ?_), List.append_nil]
   rw [e2]
   exact hnd.idxOf_getElem q hq
 ·rw [List.getElem?_eq_none (by omega), if_neg (by omega), List.getElem?_map, List.getElem?_eq_none (by omega)]
  rfl
theorem placesTo_get {S : WS} {ts : List TN} (hnd : (ts.map (·.2)).Nodup) {i : Nat} {t : TN} (h : ts[i]? = some t) (hlt : t.2 < ts.length) : ∀ m, i < m → m ≤ ts.length → (placesTo S ts m).getD t.2 0 = placeIn (clsTo S ts (i + 1)) (classAt S t.2)
 | 0, hm, _ => absurd hm (Nat.not_lt_zero _)
 | m + 1, hm, hml => by
  obtain ⟨u, hu⟩ : ∃ u, ts[m]? = some u := ⟨_, List.getElem?_eq_getElem (show m < ts.length by omega)⟩
  rw [placesTo_succ hu, List.getD_eq_getElem?_getD, List.getElem?_set]
  by_cases he : i = m
  ·subst he
   obtain rfl := Option.some.inj (h.symm.trans hu)
   rw [if_pos rfl, if_pos (by rw [placesTo_length]; exact hlt)]
   rfl
  ·have hne : u.2 ≠ t.2 := fun e => he (by
    have h1 : (ts.map (·.2))[m]? = some t.2 := by rw [List.getElem?_map, hu]; simp [e]
    have h2 : (ts.map (·.2))[i]? = some t.2 := by rw [List.getElem?_map, h]; rfl
    obtain ⟨l1, e1⟩ := List.getElem?_eq_some_iff.1 h1
    obtain ⟨l2, e2⟩ := List.getElem?_eq_some_iff.1 h2
    exact (List.getElem_inj hnd).1 (e2.trans e1.symm))
   rw [if_neg hne, ← List.getD_eq_getElem?_getD]
   exact placesTo_get hnd h hlt m (by omega) (by omega)
def StrRow (w : World) (base : Nat) (r : Value) (l : List ByteArray) : Prop := w.ownsRow base 9 1 r l.length (l.map Value.string)
structure ListsAt (w : World) (base : Nat) (v : Value) (rs : List Value) (ls : List (List ByteArray)) : Prop where
 row : w.ownsRow base 50 1 v ls.length rs
 len : rs.length = ls.length
 all : ∀ (p : Nat) (r : Value) (l : List ByteArray), rs[p]? = some r → ls[p]? = some l → StrRow w base r l
 out : ∀ (p : Nat) (r : Value), rs[p]? = some r → ∀ k, r.ownBlock = some k → v.ownBlock ≠ some k
 sep : ∀ (p q : Nat) (r s : Value), rs[p]? = some r → rs[q]? = some s → p ≠ q → ∀ k, r.ownBlock = some k → s.ownBlock ≠ some k
theorem ListsAt.empty (w : World) (base : Nat) : ListsAt w base (.slice none 0 0) [] [] := ⟨World.ownsRow_nil _ _ _ _, rfl, fun p r l h => by simp at h, fun p r h => by simp at h, fun p q r s h => by simp at h⟩
theorem ListsAt.inner {w : World} {base : Nat} {v : Value} {rs : List Value} {ls : List (List ByteArray)} (h : ListsAt w base v rs ls) {p : Nat} {r : Value} (hp : rs[p]? = some r) : ∃ l, ls[p]? = some l ∧ StrRow w base r l := by
 have hlt := (List.getElem?_eq_some_iff.1 hp).1
 rw [h.len] at hlt
 exact ⟨_, List.getElem?_eq_getElem hlt, h.all p r _ hp (List.getElem?_eq_getElem hlt)⟩
theorem ListsAt.later {w w' : World} {L : List Nat} {base : Nat} {v : Value} {rs : List Value} {ls : List (List ByteArray)} (h : ListsAt w base v rs ls) (U : Upd L w w') (hL : ∀ k ∈ L, k < base ∨ w.heap.size ≤ k) : ListsAt w' base v rs ls := by
 have no : ∀ {e size n : Nat} {r : Value} {xs : List Value}, w.ownsRow base e size r n xs → w'.ownsRow base e size r n xs := fun hr => U.ownsRow hr fun k hk hm => by
  have h1 := own_ge hr hk
  have h2 := ownsRow_lt hr hk
  have := hL k hm
  omega
 exact ⟨no h.row, h.len, fun p r l hp hl => no (h.all p r l hp hl), h.out, h.sep⟩
theorem ListsAt.more {w w' : World} {base g cap : Nat} {v : Value} {rs : List Value} {ls : List (List ByteArray)} (h : ListsAt w base v rs ls) (hown : w'.ownsRow base 50 1 (.slice (some ⟨g, 0, none⟩) (ls.length + 1) cap) (ls.length + 1) (rs ++ [.slice none 0 0])) (hgrow : w.grownBy w' v.ownBlock) (hat : v.ownBlock = some g ∨ g = w.heap.size) :
  ListsAt w' base (.slice (some ⟨g, 0, none⟩) (ls.length + 1) cap) (rs ++ [.slice none 0 0]) (ls ++ [[]]) := by
 have U := Upd.of_grown hgrow
 have hg : ∀ (p : Nat) (r : Value), (rs ++ [Value.slice none 0 0])[p]? = some r → ∀ k, r.ownBlock = some k → rs[p]? = some r := fun p r hp k hk => by
  rcases getElem?_snoc_lt hp with ⟨_, h1⟩ | ⟨_, rfl⟩
  ·exact h1
  ·simp [Value.ownBlock] at hk
 have hl := h.len
 refine ⟨by simpa using hown, by simp [hl], fun p r l hp hl2 => ?_, fun p r hp k hk => ?_, fun p q r s hp hq hne k hk e => ?_⟩
 ·rcases getElem?_snoc_lt hp with ⟨hlt, h1⟩ | ⟨hpe, rfl⟩
  ·rcases getElem?_snoc_lt hl2 with ⟨_, h2⟩ | ⟨he, _⟩
   ·exact U.ownsRow (h.all p r l h1 h2) fun k hk hm2 => h.out p r h1 k hk (by simpa using hm2)
   ·omega
  ·rcases getElem?_snoc_lt hl2 with ⟨he, _⟩ | ⟨_, rfl⟩
   ·omega
   ·exact World.ownsRow_nil _ _ _ _
 ·have h1 := hg p r hp k hk
  simp only [own_slice, ne_eq, Option.some.injEq]
  intro e
  subst e
  rcases hat with hat | hat
  ·exact h.out p r h1 g hk hat
  ·obtain ⟨l, _, hr⟩ := h.inner h1
   have := ownsRow_lt hr hk
   omega
 ·exact h.sep p q r s (hg p r hp k hk) (hg q s hq k e) hne k hk e
theorem ListsAt.put {w w1 w2 : World} {base g cap g' cap' p : Nat} {rs : List Value} {ls : List (List ByteArray)} {r : Value} {l : List ByteArray} {t : ByteArray} (h : ListsAt w base (.slice (some ⟨g, 0, none⟩) ls.length cap) rs ls) (hp : rs[p]? = some r) (hl : ls[p]? = some l) (hu1 : Upd [] w w1)
  (hown : w2.ownsRow base 9 1 (.slice (some ⟨g', 0, none⟩) (l.length + 1) cap') (l.length + 1) (l.map Value.string ++ [.string t])) (hgrow : w1.grownBy w2 r.ownBlock) (hat : r.ownBlock = some g' ∨ g' = w1.heap.size) :
  ListsAt (w2.setCell ⟨g, p, none⟩ (.slice (some ⟨g', 0, none⟩) (l.length + 1) cap')) base (.slice (some ⟨g, 0, none⟩) ls.length cap) (rs.set p (.slice (some ⟨g', 0, none⟩) (l.length + 1) cap')) (ls.set p (l ++ [t])) := by
 have hplt := (List.getElem?_eq_some_iff.1 hp).1
 have hg0 : g < w.heap.size := ownsRow_lt h.row rfl
 have hs1 := hu1.size
 have U2 : Upd r.ownBlock.toList w w2 := (hu1.mono (fun x hx _ => by cases hx)).trans (Upd.of_grown hgrow)
 have hgr : r.ownBlock ≠ some g := fun e => h.out p r hp g e rfl
 have hgg : g' ≠ g := fun e => by
  subst e
  rcases hat with hat | hat
  ·exact hgr hat
  ·omega
 have U3 : Upd [g] w2 (w2.setCell ⟨g, p, none⟩ (.slice (some ⟨g', 0, none⟩) (l.length + 1) cap')) := (Upd.refl [g] w2).setCell (by simp) _
 have get : ∀ (q : Nat) (s : Value), (rs.set p (.slice (some ⟨g', 0, none⟩) (l.length + 1) cap'))[q]? = some s → (q = p ∧ s = .slice (some ⟨g', 0, none⟩) (l.length + 1) cap') ∨ (q ≠ p ∧ rs[q]? = some s) := fun q s hq => by
  rw [List.getElem?_set] at hq
  by_cases e : p = q
  ·subst e
   rw [if_pos rfl, if_pos hplt] at hq
   exact .inl ⟨rfl, (Option.some.inj hq).symm⟩
  ·rw [if_neg e] at hq
   exact .inr ⟨fun e2 => e e2.symm, hq⟩
 have new_ne : ∀ (q : Nat) (s : Value), q ≠ p → rs[q]? = some s → s.ownBlock ≠ some g' := fun q s hq hs e => by
  rcases hat with hat | hat
  ·exact h.sep p q r s hp hs (fun e2 => hq e2.symm) g' hat e
  ·obtain ⟨m, _, hm⟩ := h.inner hs
   have := ownsRow_lt hm e
   omega
 refine ⟨?_, by simp [h.len], fun q s m hq hm => ?_, fun q s hq k hk => ?_, fun q q2 s s2 hq hq2 hne k hk e => ?_⟩
 ·have h1 := U2.ownsRow h.row (fun k hk hm => by
   simp only [own_slice, Option.some.injEq] at hk
   subst hk
   exact hgr (by simpa using hm))
  have := (h1.stored p (.slice (some ⟨g', 0, none⟩) (l.length + 1) cap')).1
  simpa using this
 ·rcases get q s hq with ⟨rfl, rfl⟩ | ⟨hqp, hq'⟩
  ·have hplt2 : q < ls.length := by rw [← h.len]; exact hplt
   rw [List.getElem?_set, if_pos rfl, if_pos hplt2] at hm
   obtain rfl := Option.some.inj hm
   show World.ownsRow _ _ _ _ _ (l ++ [t]).length ((l ++ [t]).map Value.string)
   have := U3.ownsRow hown (fun k hk hm2 => by
    simp only [own_slice, Option.some.injEq] at hk
    simp only [List.mem_singleton] at hm2
    omega)
   simpa using this
  ·rw [List.getElem?_set, if_neg (fun e => hqp e.symm)] at hm
   refine U3.ownsRow (U2.ownsRow (h.all q s m hq' hm) fun k hk hm2 => ?_) fun k hk hm2 => ?_
   ·exact h.sep q p s r hq' hp hqp k hk (by simpa using hm2)
   ·simp only [List.mem_singleton] at hm2
    subst hm2
    exact h.out q s hq' k hk rfl
 ·rcases get q s hq with ⟨_, rfl⟩ | ⟨hqp, hq'⟩
  ·simp only [own_slice, Option.some.injEq, ne_eq] at hk ⊢
   omega
  ·exact h.out q s hq' k hk
 ·rcases get q s hq with ⟨rfl, rfl⟩ | ⟨hqp, hq'⟩
  ·rcases get q2 s2 hq2 with ⟨rfl, _⟩ | ⟨hqp2, hq2'⟩
   ·exact hne rfl
   ·simp only [own_slice, Option.some.injEq] at hk
    subst hk
    exact new_ne q2 s2 hqp2 hq2' e
  ·rcases get q2 s2 hq2 with ⟨rfl, rfl⟩ | ⟨hqp2, hq2'⟩
   ·simp only [own_slice, Option.some.injEq] at e
    subst e
    exact new_ne q s hqp hq' hk
   ·exact h.sep q q2 s s2 hq' hq2' hne k hk e
end Go.Proofs.YtmfkpllnmmfpiaaGreatDoor
