/- RefOf, RowBuild, RowWalk, SortLayR -/
import Derived.Test.YtmfkpllnmmfpiaaGreatDoorRefClassWalkH
import Derived.Test.YtmfkpllnmmfpiaaGreatDoorRefWhyH
import Derived.Test.YtmfkpllnmmfpiaaGreatDoorRowLinH
import Derived.Test.YtmfkpllnmmfpiaaGreatDoorPlacesH
import Derived.Test.YtmfkpllnmmfpiaaGreatDoorWebTermH
import Derived.Test.YtmfkpllnmmfpiaaGreatDoorRefSortH
import Derived.Deep.CutBlock
import Derived.Shelf.SlSortCmp.WholeK
import Derived.Ground.SlsfProg
import Derived.Test.YtmfkpllnmmfpiaaGreatDoorProg
namespace Go.Proofs.YtmfkpllnmmfpiaaGreatDoor
open Go.RowKit
set_option maxHeartbeats 4000000 in
set_option maxRecDepth 100000 in
theorem refOf_any (w : World) (B : Nat) (v : Value) (rs : List Value) (ls : List (List ByteArray)) (t : ByteArray) (i : Nat) (l : List ByteArray) (h : LRead w B v rs ls) (hi : ls[i]? = some l) (ht : t ∈ l) (hno : ∀ i' l', i' < i → ls[i']? = some l' → t ∉ l') (hls : ls.length ≤ 100000) (hle : ∀ l' ∈ ls, l'.length ≤ 100000) :
  Calls Tryz.prog 105 #[v, .string t] w fun e w' => e = .returned (.int .i64 i) ∧ w' = w := by
 obtain ⟨n, hn⟩ : ∃ n, ls.length = n := ⟨_, rfl⟩
 have hr := h.row
 rw [hn] at hr hls
 obtain ⟨a, cap, hv, p1, p2, f1⟩ := rows_form hr (by rw [h.len, hn])
 subst hv
 have hin := (List.getElem?_eq_some_iff.1 hi).1
 rw [hn] at hin
 obtain ⟨g, rfl, _, q1⟩ := f1 (by omega)
 have HF := hide q1
 have HL := hide h
 have Hn := hide hn
 have Hi := hide hi
 have Ht := hide ht
 have Hno := hide hno
 have Hle := hide hle
 unfold maxLen at p2
 clear h hn hi ht hno q1 hr f1 hle
 go_enter Tryz.func105, Tryz.ntmps105
 go_wp2
 go_loopw [5] (fun c wr => ∃ j : Nat, j ≤ i ∧ c = .int .i64 j ∧ wr = w) (fun c _ => n - (intOf c).toNat)
 case atStart => exact ⟨0, Nat.zero_le _, rfl, rfl⟩
 case round =>
  obtain ⟨j, hj, rfl, hwr⟩ := hrel
  rw [hwr]
  clear hwr wr
  have hjI : (j : Int) < (n : Int) := by omega
  have hjc : (j : Int) < (cap : Int) := by omega
  obtain ⟨r1, hr1⟩ : ∃ r, rs[j]? = some r := ⟨_, List.getElem?_eq_getElem (by rw [HL.out.len, Hn.out]; omega)⟩
  obtain ⟨l1, hl1⟩ : ∃ l, ls[j]? = some l := ⟨_, List.getElem?_eq_getElem (by rw [Hn.out]; omega)⟩
  have z1 := HF.out j r1 hr1
  have hS := HL.out.all j r1 l1 hr1 hl1
  have hm := Hle.out l1 (List.mem_of_getElem? hl1)
  obtain ⟨b, cb, hv1, s1, s2, s3, s4⟩ := strRow_form2 hS
  obtain ⟨m, hm'⟩ : ∃ m, l1.length = m := ⟨_, rfl⟩
  rw [hm'] at hv1 s1 s4 hm
  subst hv1
  have Hm := hide hm'
  have H4 := hide s4
  unfold maxLen at s2
  have HJ : Hid (j < i → t ∉ l1) := fun hlt => Hno.out j l1 hlt hl1
  have HE : Hid (j = i → t ∈ l1) := fun e => by
   have h2 := Hi.out
   rw [← e, hl1] at h2
   cases h2
   exact Ht.out
  clear hr1 hl1 hS hm' s4 s3
  go_wp2
  go_loopw [6] (fun c wr => ∃ q : Nat, q ≤ m ∧ c = .int .i64 q ∧ wr = w ∧ Hid (∀ (q' : Nat) (x : ByteArray), q' < q → l1[q']? = some x → x ≠ t)) (fun c _ => m - (intOf c).toNat)
  case atStart => exact ⟨0, Nat.zero_le _, rfl, rfl, fun q' x h => by omega⟩
  case round =>
   obtain ⟨q, hq, rfl, hwr, HQ⟩ := hrel
   rw [hwr]
   clear hwr wr
   by_cases hqm : q < m
   ·have hqI : (q : Int) < (m : Int) := by omega
    have hqc : (q : Int) < (cb : Int) := by omega
    obtain ⟨gb, rfl, _, k4⟩ := H4.out (by omega)
    obtain ⟨x, hx⟩ : ∃ x, l1[q]? = some x := ⟨_, List.getElem?_eq_getElem (by rw [Hm.out]; exact hqm)⟩
    have z2 := k4 q x hx
    have Hx := hide hx
    clear k4 hx
    by_cases e : x = t
    ·subst e
     have hji : Hid (j = i) := by
      show _ = _
      by_cases hlt : j < i
      ·exact absurd (List.mem_of_getElem? Hx.out) (HJ.out hlt)
      ·omega
     go_wp2
     go_ret
     rw [hji.out]
     exact ⟨rfl, rfl⟩
    ·have he := toList_ne e
     have HN : Hid (∀ (q' : Nat) (y : ByteArray), q' < q + 1 → l1[q']? = some y → y ≠ t) := fun q' y hq' hy => by
      by_cases e2 : q' < q
      ·exact HQ.out q' y e2 hy
      ·obtain rfl : q' = q := (by omega)
       rw [Hx.out] at hy
       cases hy
       exact e
     go_wp2
     refine ⟨⟨q + 1, by omega, by simp, trivial, HN⟩, ?_⟩
     simp [intOf]
     omega
   ·have hqI : ¬ (q : Int) < (m : Int) := by omega
    have hji : j < i := by
     by_cases e : j = i
     ·obtain ⟨q', hq'⟩ := List.getElem?_of_mem (HE.out e)
      have := (List.getElem?_eq_some_iff.1 hq').1
      have hm2 := Hm.out
      exact absurd rfl (HQ.out q' t (by omega) hq')
     ·omega
    go_wp2
    refine ⟨⟨j + 1, by omega, by simp, trivial⟩, ?_⟩
    simp [intOf]
    omega
def aheadR (x y : RowP) : Bool := decide (cmpRow x y < 0)
def alikeR (x y : RowP) : Bool := decide (cmpRow x y = 0)
theorem ahead_name {x y : RowP} (h : x.name ≠ y.name) : aheadR x y = Op.bytesLess x.name.toList y.name.toList ∧ alikeR x y = false := by
 have h1 : Lib.compareBytes x.name.data.toList y.name.data.toList ≠ 0 := fun e => h (ByteArray.ext (Array.ext' ((lin_bytes.eq _ _).1 e)))
 have h2 : cmpRow x y = Lib.compareBytes x.name.data.toList y.name.data.toList := by
  unfold cmpRow firstNZ
  rw [if_pos h1]
 refine ⟨?_, by unfold alikeR; rw [h2]; simpa using h1⟩
 rw [bytesLess_eq]
 unfold aheadR
 rw [h2]
 simp only [ByteArray.toList_eq]
 exact decide_eq_decide.2 (cmpB_lt _ _).1
theorem ahead_len {x y : RowP} (hn : x.name = y.name) (h : x.args.length ≠ y.args.length) : aheadR x y = decide (x.args.length < y.args.length) ∧ alikeR x y = false := by
 have h1 : cmpI x.args.length y.args.length ≠ 0 := fun e => h (cmpI_zero.1 e)
 have h0 : Lib.compareBytes x.name.data.toList y.name.data.toList = 0 := (lin_bytes.eq _ _).2 (by rw [hn])
 have h2 : cmpRow x y = cmpI x.args.length y.args.length := by
  simp only [cmpRow, firstNZ, h0]
  simp [h1]
 refine ⟨?_, by unfold alikeR; rw [h2]; simpa using h1⟩
 unfold aheadR
 rw [h2]
 exact decide_eq_decide.2 cmpI_lt
theorem ahead_args {x y : RowP} (hn : x.name = y.name) (h : x.args.length = y.args.length) : cmpRow x y = cmpArgs x.args y.args := by
 have h1 : cmpI x.args.length y.args.length = 0 := cmpI_zero.2 h
 have h0 : Lib.compareBytes x.name.data.toList y.name.data.toList = 0 := (lin_bytes.eq _ _).2 (by rw [hn])
 simp only [cmpRow, firstNZ, h0, h1]
 by_cases h2 : cmpArgs x.args y.args = 0
 ·simp [h2]
 ·simp [h2]
set_option maxHeartbeats 4000000 in
set_option maxRecDepth 100000 in
theorem refAhead_any (x y : RowP) (vx vy : Value) (W : World) (hx : IntsAt W vx x.args) (hy : IntsAt W vy y.args) :
  Calls Tryz.prog 106 #[.agg #[.string x.name, vx, .int .i64 x.value], .agg #[.string y.name, vy, .int .i64 y.value]] W fun e w' => e = .returned (.tuple #[.bool (aheadR x y), .bool (alikeR x y)]) ∧ Upd [] W w' := by
 obtain ⟨W1, hW1⟩ : ∃ W1, W1 = (W.alloc (.cells #[.string x.name, vx, .int .i64 x.value] 88)).alloc (.cells #[.string y.name, vy, .int .i64 y.value] 88) := ⟨_, rfl⟩
 have hU1 : Upd [] W W1 := by rw [hW1]; exact ((Upd.refl [] W).alloc _).alloc _
 have hx1 := hx.later hU1 (fun _ _ => by simp)
 have hy1 := hy.later hU1 (fun _ _ => by simp)
 obtain ⟨ax, capx, hvx, lx1, lx2, fx⟩ := hx1
 obtain ⟨ay, capy, hvy, ly1, ly2, fy⟩ := hy1
 obtain ⟨nx, hnx⟩ : ∃ nx, x.args.length = nx := ⟨_, rfl⟩
 obtain ⟨ny, hny⟩ : ∃ ny, y.args.length = ny := ⟨_, rfl⟩
 rw [hnx] at hvx lx1 fx
 rw [hny] at hvy ly1 fy
 subst hvx hvy
 have e0 : W1.cell? ⟨W.heap.size, 0, none⟩ = some (.string x.name) := by rw [hW1]; go_simp
 have e1 : W1.cell? ⟨W.heap.size, 1, none⟩ = some (.slice ax nx capx) := by rw [hW1]; go_simp
 have d0 : W1.cell? ⟨W.heap.size + 1, 0, none⟩ = some (.string y.name) := by rw [hW1]; go_simp
 have d1 : W1.cell? ⟨W.heap.size + 1, 1, none⟩ = some (.slice ay ny capy) := by rw [hW1]; go_simp
 have HU := hide hU1
 have Fx := hide fx
 have Fy := hide fy
 have Hnx := hide hnx
 have Hny := hide hny
 unfold maxLen at lx2 ly2
 clear hx hy hU1 fx fy hnx hny
 obtain ⟨A, hA⟩ : ∃ A, aheadR x y = A := ⟨_, rfl⟩
 obtain ⟨E, hE⟩ : ∃ E, alikeR x y = E := ⟨_, rfl⟩
 rw [hA, hE]
 have HA := hide hA
 have HE := hide hE
 clear hA hE
 by_cases hn : x.name = y.name
 ·have Hnm := hide hn
  rw [← hn] at d0
  rw [← hn] at hW1 ⊢
  clear hn
  by_cases hl : nx = ny
  ·have hCA : Hid (cmpRow x y = cmpArgs x.args y.args) := ahead_args Hnm.out (by rw [Hnx.out, Hny.out]; exact hl)
   subst hl
   go_enter Tryz.func106, Tryz.ntmps106
   go_upto_region 1 with fail
   rw [← hW1]
   clear hW1
   go_wp2
   go_loopw [6] (fun i wr => ∃ j m : Nat, j ≤ nx ∧ i = .int .i64 j ∧ wr = W1.drewN m ∧ Hid (cmpArgs x.args y.args = cmpArgs (x.args.drop j) (y.args.drop j))) (fun i _ => nx - (intOf i).toNat)
   case atStart => exact ⟨0, 0, Nat.zero_le _, rfl, rfl, rfl⟩
   case round =>
    obtain ⟨j, m, hj, rfl, hwr, HJ⟩ := hrel
    rw [hwr]
    clear hwr wr
    by_cases hjn : j < nx
    ·have hjI : (j : Int) < (nx : Int) := by omega
     obtain ⟨a, ha⟩ : ∃ a, x.args[j]? = some a := ⟨_, List.getElem?_eq_getElem (by rw [Hnx.out]; exact hjn)⟩
     obtain ⟨b, hb⟩ : ∃ b, y.args[j]? = some b := ⟨_, List.getElem?_eq_getElem (by rw [Hny.out]; exact hjn)⟩
     obtain ⟨g1, rfl, _, k1⟩ := Fx.out (by omega)
     obtain ⟨g2, rfl, _, k2⟩ := Fy.out (by omega)
     have q1 := k1 j a ha
     have q2 := k2 j b hb
     have hst := cmpArgs_step ha hb
     have HST := hide hst
     clear k1 k2 ha hb hst
     by_cases hab : a = b
     ·have HN : Hid (cmpArgs x.args y.args = cmpArgs (x.args.drop (j + 1)) (y.args.drop (j + 1))) := by show _ = _; rw [HJ.out, HST.out, if_neg (by simp [cmpI_zero.2 hab])]
      subst hab
      go_wp2_with fail
      go_quiet (fail)
      go_wp2
      refine ⟨⟨j + 1, _, by omega, by simp, rfl, HN⟩, ?_⟩
      simp [intOf]
      omega
     ·have hc0 : cmpI a b ≠ 0 := fun e => hab (cmpI_zero.1 e)
      have HN : Hid (cmpRow x y = cmpI a b) := by show _ = _; rw [hCA.out, HJ.out, HST.out, if_pos hc0]
      have HA1 : Hid (A = decide (a < b)) := by
       show _ = _
       rw [← HA.out]
       unfold aheadR
       rw [HN.out]
       exact decide_eq_decide.2 cmpI_lt
      have HE1 : Hid (E = false) := by
       show _ = _
       rw [← HE.out]
       unfold alikeR
       rw [HN.out]
       simpa using hc0
      have habI : ((a : Int) != (b : Int)) = true := by simp; omega
      clear hc0
      go_wp2_with fail
      go_quiet (fail)
      go_wp2_with fail
      go_quiet (fail)
      go_wp2
      go_ret2
      exact ⟨by rw [HA1.out, HE1.out]; rfl, ((HU.out.drewN m).drewN _).drewN _⟩
    ·have hjI : ¬ (j : Int) < (nx : Int) := by omega
     have HN : Hid (cmpRow x y = 0) := by
      show _ = _
      rw [hCA.out, HJ.out, List.drop_eq_nil_of_le (by rw [Hnx.out]; omega), List.drop_eq_nil_of_le (by rw [Hny.out]; omega)]
      rfl
     have HA1 : Hid (A = false) := by show _ = _; rw [← HA.out]; unfold aheadR; rw [HN.out]; rfl
     have HE1 : Hid (E = true) := by show _ = _; rw [← HE.out]; unfold alikeR; rw [HN.out]; rfl
     go_wp2
     go_ret2
     exact ⟨by rw [HA1.out, HE1.out]; rfl, HU.out.drewN m⟩
  ·have h1 := ahead_len Hnm.out (by rw [Hnx.out, Hny.out]; exact hl)
   have HA1 : Hid (A = decide (nx < ny)) := by
    show _ = _
    rw [← HA.out, h1.1, Hnx.out, Hny.out]
   have HE1 : Hid (E = false) := by show _ = _; rw [← HE.out]; exact h1.2
   have hlI : ((nx : Int) != (ny : Int)) = true := by simp; omega
   clear h1
   go_enter Tryz.func106, Tryz.ntmps106
   go_upto_region 1 with fail
   rw [← hW1]
   clear hW1
   go_wp2
   go_ret2
   exact ⟨by rw [HA1.out, HE1.out]; rfl, HU.out⟩
 ·have hb := toList_ne hn
  have h1 := ahead_name hn
  have HA1 : Hid (A = Op.bytesLess x.name.toList y.name.toList) := by show _ = _; rw [← HA.out]; exact h1.1
  have HE1 : Hid (E = false) := by show _ = _; rw [← HE.out]; exact h1.2
  clear h1 hn
  go_enter Tryz.func106, Tryz.ntmps106
  go_upto_region 1 with fail
  rw [← hW1]
  clear hW1
  go_wp2
  go_ret2
  exact ⟨by rw [HA1.out, HE1.out]; rfl, HU.out⟩
end Go.Proofs.YtmfkpllnmmfpiaaGreatDoor

namespace Go.Proofs.YtmfkpllnmmfpiaaGreatDoor
open Go.RowKit Go.Shelf Go.Sort
theorem info_apiRow : (Tryz.prog.info? 88).map (fun i => (i.zero, i.size, i.bytes)) = some (some (.agg #[.string ⟨#[]⟩, .slice none 0 0, .int .i64 0]), 3, 48) := by kernel_rfl
abbrev RX := RowP × Value
def encR (x : RX) : List Value := [.string x.1.name, x.2, .int .i64 x.1.value]
def flatR (xs : List RX) : List Value := xs.flatMap encR
theorem flatR_append (a b : List RX) : flatR (a ++ b) = flatR a ++ flatR b := by simp [flatR]
theorem flatR_length (xs : List RX) : (flatR xs).length = xs.length * 3 := by
 induction xs with
 | nil => rfl
 | cons x xs ih => simp only [flatR, List.flatMap_cons, List.length_append] at ih ⊢; simp [encR, ih]; omega
def rowOf (S : WS) (pl : List Nat) (i : Nat) : RowP := ⟨(shapeAt S i).1, (partsL (shapeAt S i)).map fun k => pl.getD k 0, pl.getD i 0⟩
def rowsTo (S : WS) (pl : List Nat) (j : Nat) : List RowP := (List.range j).map (rowOf S pl)
theorem rowsTo_succ (S : WS) (pl : List Nat) (j : Nat) : rowsTo S pl (j + 1) = rowsTo S pl j ++ [rowOf S pl j] := by simp [rowsTo, List.range_succ]
structure Rowing (w3 wr : World) (v : Value) (xs : List RX) : Prop where
 row : wr.ownsRow w3.heap.size 88 3 v xs.length (flatR xs)
 args : ∀ (i : Nat) (x : RX), xs[i]? = some x → wr.ownsRow w3.heap.size 3 1 x.2 x.1.args.length (intsOf x.1.args)
 out : ∀ (i : Nat) (x : RX), xs[i]? = some x → ∀ k, x.2.ownBlock = some k → v.ownBlock ≠ some k
 sep : ∀ (i j : Nat) (x y : RX), xs[i]? = some x → xs[j]? = some y → i ≠ j → ∀ k, x.2.ownBlock = some k → y.2.ownBlock ≠ some k
 upd : Upd [] w3 wr
 made : v.ownBlock ≠ none
theorem Rowing.next {w3 wr w4 w5 w6 : World} {v vA : Value} {xs : List RX} {r : RowP} {g cap B : Nat} (h : Rowing w3 wr v xs) (hu : Upd [] wr w4) (hA : w4.ownsRow B 3 1 vA r.args.length (intsOf r.args)) (hB : wr.heap.size ≤ B) (hu5 : Upd [] w4 w5) (hg : w5.grownBy w6 v.ownBlock) (hat : v.ownBlock = some g ∨ g = w5.heap.size)
  (hown : w6.ownsRow w3.heap.size 88 3 (.slice (some ⟨g, 0, none⟩) (xs.length + 1) cap) (xs.length + 1) (flatR xs ++ [.string r.name, vA, .int .i64 r.value])) : Rowing w3 w6 (.slice (some ⟨g, 0, none⟩) (xs.length + 1) cap) (xs ++ [(r, vA)]) := by
 have s1 := h.upd.size
 have s2 := hu.size
 have s3 := hu5.size
 have U : Upd v.ownBlock.toList w5 w6 := Upd.of_grown hg
 have hAlt : ∀ k, vA.ownBlock = some k → B ≤ k ∧ k < w4.heap.size := fun k hk => ⟨own_geT hA hk, ownsRow_lt hA hk⟩
 have hvlt : ∀ k, v.ownBlock = some k → w3.heap.size ≤ k ∧ k < wr.heap.size := fun k hk => ⟨own_geT h.row hk, ownsRow_lt h.row hk⟩
 have key : ∀ (i : Nat) (x : RX), (xs ++ [(r, vA)])[i]? = some x → (xs[i]? = some x ∧ i < xs.length) ∨ (i = xs.length ∧ x = (r, vA)) := fun i x hx => by
  by_cases hi : i < xs.length
  ·rw [List.getElem?_append_left hi] at hx
   exact .inl ⟨hx, hi⟩
  ·have hi2 : i = xs.length := by
    have := (List.getElem?_eq_some_iff.1 hx).1
    simp at this
    omega
   subst hi2
   rw [List.getElem?_concat_length] at hx
   exact .inr ⟨rfl, (Option.some.inj hx).symm⟩
 have hout : ∀ (i : Nat) (x : RX), (xs ++ [(r, vA)])[i]? = some x → ∀ k, x.2.ownBlock = some k → v.ownBlock ≠ some k ∧ k < w5.heap.size := fun i x hx k hk => by
  rcases key i x hx with ⟨hx', _⟩ | ⟨_, rfl⟩
  ·exact ⟨h.out i x hx' k hk, by have := ownsRow_lt (h.args i x hx') hk; omega⟩
  ·have := hAlt k hk
   exact ⟨fun e => by have := hvlt k e; omega, by omega⟩
 refine ⟨?_, fun i x hx => ?_, fun i x hx k hk e => ?_, fun i j x y hx hy hij k hk e => ?_, ((h.upd.trans hu).trans hu5).trans' U (fun k hk hl => ?_), by simp [own_slice]⟩
 ·rw [List.length_append, flatR_append]
  exact hown
 ·have ho := fun k hk => (hout i x hx k hk).1
  rcases key i x hx with ⟨hx', _⟩ | ⟨_, rfl⟩
  ·exact U.ownsRow ((hu.trans hu5).ownsRow (h.args i x hx') (fun _ _ => by simp)) (fun k hk hm => ho k hk (by simpa using hm))
  ·have hb : w4.ownsRow w3.heap.size 3 1 vA r.args.length (intsOf r.args) := ownsRow_base hA fun k hk => by have := hAlt k hk; omega
   exact U.ownsRow (hu5.ownsRow hb (fun _ _ => by simp)) (fun k hk hm => ho k hk (by simpa using hm))
 ·obtain ⟨h1, h2⟩ := hout i x hx k hk
  simp only [own_slice, Option.some.injEq] at e
  subst e
  rcases hat with hat | hat
  ·exact h1 hat
  ·omega
 ·rcases key i x hx with ⟨hx', hi⟩ | ⟨rfl, rfl⟩
  ·rcases key j y hy with ⟨hy', hj⟩ | ⟨rfl, rfl⟩
   ·exact h.sep i j x y hx' hy' hij k hk e
   ·have := ownsRow_lt (h.args i x hx') hk
    have := hAlt k e
    omega
  ·rcases key j y hy with ⟨hy', hj⟩ | ⟨rfl, rfl⟩
   ·have := ownsRow_lt (h.args j y hy') e
    have := hAlt k hk
    omega
   ·exact hij rfl
 ·have := hvlt k (by simpa using hk)
  omega
structure RowBld (w4 wr : World) (SB RB : Nat) (s : Sh) (val : Nat) (vA : Value) (bs : List Nat) : Prop where
 box : BoxSh wr SB s
 sb : SB < RB
 lt : RB < wr.heap.size
 free : ∀ o, wr.frozen? ⟨RB, o, none⟩ = false
 c0 : wr.cell? ⟨RB, 0, none⟩ = some (.string s.1)
 c1 : wr.cell? ⟨RB, 1, none⟩ = some vA
 c2 : wr.cell? ⟨RB, 2, none⟩ = some (.int .i64 val)
 row : wr.ownsRow (RB + 1) 3 1 vA bs.length (intsOf bs)
 ge : w4.heap.size ≤ SB
 upd : Upd [] w4 wr
theorem RowBld.grown {w4 wr w1 w3 : World} {SB RB val : Nat} {s : Sh} {vA : Value} {bs : List Nat} (h : RowBld w4 wr SB RB s val vA bs) (hu : Upd [] wr w1) (hg : w1.grownBy w3 vA.ownBlock) : w3.cell? ⟨RB, 1, none⟩ = some vA ∧ ∀ o, w3.frozen? ⟨RB, o, none⟩ = false := by
 have hnt : RB ∉ vA.ownBlock.toList := fun hm => by have := own_geT h.row (by simpa using hm); omega
 have U : Upd vA.ownBlock.toList wr w3 := (hu.mono (fun x hx _ => by cases hx)).trans (Upd.of_grown hg)
 exact ⟨(U.cell (p := ⟨RB, 1, none⟩) h.lt hnt).trans h.c1, fun o => (U.frozen (p := ⟨RB, o, none⟩) h.lt hnt).trans (h.free o)⟩
theorem RowBld.next {w4 wr w1 w3 : World} {SB RB val g cap a : Nat} {s : Sh} {vA : Value} {bs : List Nat} (h : RowBld w4 wr SB RB s val vA bs) (hu : Upd [] wr w1) (hg : w1.grownBy w3 vA.ownBlock) (hat : vA.ownBlock = some g ∨ g = w1.heap.size)
  (hown : w3.ownsRow (RB + 1) 3 1 (.slice (some ⟨g, 0, none⟩) (bs.length + 1) cap) (bs.length + 1) (intsOf bs ++ [.int .i64 a])) : RowBld w4 (w3.setCell ⟨RB, 1, none⟩ (.slice (some ⟨g, 0, none⟩) (bs.length + 1) cap)) SB RB s val (.slice (some ⟨g, 0, none⟩) (bs.length + 1) cap) (bs ++ [a]) := by
 have h0 := h.lt
 have hs := hu.size
 have hge := h.ge
 have hsb := h.sb
 have hs4 := h.upd.size
 have hvge : ∀ k, vA.ownBlock = some k → RB < k ∧ k < wr.heap.size := fun k hk => ⟨own_geT h.row hk, ownsRow_lt h.row hk⟩
 have hnt : RB ∉ vA.ownBlock.toList := fun hm => by have := hvge RB (by simpa using hm); omega
 have U : Upd vA.ownBlock.toList wr w3 := (hu.mono (fun x hx _ => by cases hx)).trans (Upd.of_grown hg)
 have g0 := (U.cell (p := ⟨RB, 0, none⟩) h.lt hnt).trans h.c0
 have g1 := (U.cell (p := ⟨RB, 1, none⟩) h.lt hnt).trans h.c1
 have g2 := (U.cell (p := ⟨RB, 2, none⟩) h.lt hnt).trans h.c2
 have gf : ∀ o, w3.frozen? ⟨RB, o, none⟩ = false := fun o => (U.frozen (p := ⟨RB, o, none⟩) h.lt hnt).trans (h.free o)
 have hlt3 : RB < w3.heap.size := Nat.lt_of_lt_of_le h.lt U.size
 have hgt : RB < g := by rcases hat with hat | hat; exact (hvge g hat).1; omega
 have hu3 : Upd [RB] w3 (w3.setCell ⟨RB, 1, none⟩ (.slice (some ⟨g, 0, none⟩) (bs.length + 1) cap)) := (Upd.refl [RB] w3).setCell (by simp) _
 have UU : Upd (RB :: vA.ownBlock.toList) wr (w3.setCell ⟨RB, 1, none⟩ (.slice (some ⟨g, 0, none⟩) (bs.length + 1) cap)) := (U.mono (fun x hx _ => by simp at hx ⊢; exact .inr hx)).setCell (by simp) _
 refine ⟨?_, hsb, by simpa using hlt3, fun o => by simpa using gf o, by go_simp, by go_simp, by go_simp, ?_, hge, h.upd.trans' UU (fun k hk hl => ?_)⟩
 ·have hb := h.box
  have hSn : SB ∉ RB :: vA.ownBlock.toList := fun hm => by
   simp at hm
   rcases hm with hm | hm
   ·omega
   ·have := hvge SB hm; omega
  exact hb.later UU hSn
 ·have := hu3.ownsRow hown (fun k hk hm => by simp [Value.ownBlock] at hk hm; omega)
  simpa [intsOf] using this
 ·simp at hk
  rcases hk with hk | hk
  ·omega
  ·have := hvge k hk; omega
end Go.Proofs.YtmfkpllnmmfpiaaGreatDoor

namespace Go.Proofs.YtmfkpllnmmfpiaaGreatDoor
open Go.RowKit Go.Shelf Go.Sort
def Built (w wr : World) (v : Value) (S : WS) (pl : List Nat) : Prop := ∃ w3 xs, Upd [] w w3 ∧ Rowing w3 wr v xs ∧ xs.map (·.1) = rowsTo S pl S.shapes.length
def placesOf (S : WS) : List Nat := placesTo S (sortedT S) (sortedT S).length
set_option maxHeartbeats 8000000 in
set_option maxRecDepth 100000 in
theorem webWorld_any (w : World) (wb : Nat) (H : Hd) (Z : Nat → Prop) (S : WS) (h : WebAt w wb H Z S) (hB : Base S) (hZ : ∀ k, Z k → k < w.heap.size) (hn : S.shapes.length ≤ 1000) (hsm : ∀ g j, (plainF S g j).length ≤ 1000) (R : World → Value → World → Prop)
  (hSort : ∀ (wr : World) (g cap : Nat), Built w wr (.slice (some ⟨g, 0, none⟩) S.shapes.length cap) S (placesOf S) → Calls Tryz.prog 84 #[.slice (some ⟨g, 0, none⟩) S.shapes.length cap, .func (.func 85) #[] #[]] wr fun e w' => e = .returned (.tuple #[]) ∧ R wr (.slice (some ⟨g, 0, none⟩) S.shapes.length cap) w')
  (Q : World → Value → World → Prop)
  (hComp : ∀ (wr w' : World) (v : Value), R wr v w' → Built w wr v S (placesOf S) → Calls Tryz.prog 86 #[v, .func (.func 87) #[] #[]] w' fun e w'' => ∃ v', e = .returned v' ∧ Q wr v' w'') :
  Calls Tryz.prog 46 #[.pointer (some ⟨wb, 0, none⟩)] w fun e w' => ∃ v' wr, e = .returned v' ∧ Q wr v' w' := by
 obtain ⟨i0, hi, hz0, hz1, hz2⟩ := info_parts info_apiRow
 obtain ⟨j0, hj0, hy0, hy1, hy2⟩ := info_parts info_int
 have HT := hide (byText_any w wb H Z S h hB hZ hn hsm)
 have HP := hide (fun (w1 : World) (v : Value) (hu : Upd [] w w1) (ht : TextsAt w1 w.heap.size v (sortedT S)) => places_any w1 wb w.heap.size H Z S v (sortedT S) (h.later hu (fun _ _ => by simp)) hB.inv (fun k hk => Nat.lt_of_lt_of_le (hZ k hk) hu.size) ht (sortedT_nums S).2 (sortedT_length S) hn)
 rw [sortedT_length] at HP
 obtain ⟨pl, hpl⟩ : ∃ pl, placesTo S (sortedT S) S.shapes.length = pl := ⟨_, rfl⟩
 have hplo : placesOf S = pl := by unfold placesOf; rw [sortedT_length]; exact hpl
 rw [hpl] at HP
 rw [hplo] at hSort hComp
 have hpll : pl.length = S.shapes.length := by rw [← hpl, placesTo_length, sortedT_length]
 have HSort := hide hSort
 have HComp := hide hComp
 obtain ⟨n, hnn⟩ : ∃ n, S.shapes.length = n := ⟨_, rfl⟩
 have hrs := h.rs
 obtain ⟨gs, cap, hd, hcap, hmax, hgs⟩ : ∃ g cap, H.shapes = .slice g S.shapes.length cap ∧ S.shapes.length ≤ cap ∧ cap ≤ maxLen ∧ (0 < S.shapes.length → ∃ b, g = some ⟨b, 0, none⟩) := by
  rcases ownsRow_slice hrs with ⟨h1, h2⟩ | ⟨g, cap, h1, h2, h3⟩
  ·exact ⟨none, 0, by rw [h1, h2], by omega, by simp [maxLen], fun e => by omega⟩
  ·exact ⟨_, cap, h1, h2, h3, fun _ => ⟨g, rfl⟩⟩
 have c1 := h.c1
 rw [hd] at c1 hrs
 have Hrs := hide hrs
 have Hgood := hide hB.good
 rw [hnn] at hcap c1 hgs hn HSort HP hpll
 have Hn := hide hnn
 have HC1 := hide c1
 have hwlt := h.lt
 have Hgs := hide hgs
 have Hpll := hide hpll
 unfold maxLen at hmax
 clear h hB hZ hsm hSort hComp hpl hplo hrs c1 hgs hnn hd hpll
 go_enter Tryz.func46, Tryz.ntmps46
 go_upto_region 2 with (first
  | (go_at_call 83; refine HT.out.mono ?_; rintro e w1 ⟨v1, rfl, hu1, ht1⟩; have HP1 := hide (HP.out w1 v1 hu1 ht1); have HU1 := hide hu1; clear hu1 ht1)
  | (go_at_call 82; refine HP1.out.mono ?_; rintro e w2 ⟨P, rfl, hu2, hr2⟩; have HU2 := hide hu2; have HR2 := hide hr2; clear hu2 hr2))
 have hU := HU1.out.trans HU2.out
 have c2 := (hU.cell (p := ⟨wb, 2, none⟩) hwlt (by simp)).trans HC1.out
 obtain ⟨w3, hmk, hown3, hgr3⟩ := run_make_own (P := Tryz.prog) w2 w2.heap.size 46 88 i0 _ 3 Tryz.underlying46 hi hz0 hz1 .i64 .i64 n (by rw [hz2]; omega) (by unfold maxLen; omega) (Nat.le_refl _)
 have U3 : Upd [] w2 w3 := Upd.of_grown hgr3
 have hU3 := hU.trans U3
 have c3 := (hU3.cell (p := ⟨wb, 2, none⟩) hwlt (by simp)).trans HC1.out
 have HU3 := hide hU3
 have HU23 := hide U3
 have hstart : Rowing w2 w3 (.slice (some ⟨w2.heap.size, 0, none⟩) 0 n) [] := ⟨hown3, fun i x hx => by simp at hx, fun i x hx => by simp at hx, fun i j x y hx => by simp at hx, U3, by simp [own_slice]⟩
 have HUw2 := hide hU
 have Hst := hide hstart
 clear hgr3 hown3 U3 hU hU3 hstart HT HP HP1
 go_wp2
 clear hmk c2 c3
 go_loopw [4, 25] (fun v i wr => ∃ j : Nat, j ≤ n ∧ i = .int .i64 j ∧ Hid (∃ xs, Rowing w2 wr v xs ∧ xs.map (·.1) = rowsTo S pl j)) (fun _ i _ => n - (intOf i).toNat)
 case atStart => exact ⟨0, Nat.zero_le _, rfl, [], Hst.out, rfl⟩
 case round =>
  clear Hst
  obtain ⟨w4, hw4⟩ : ∃ w4, w4 = wr := ⟨_, rfl⟩
  rw [← hw4] at hrel ⊢
  clear hw4
  obtain ⟨j, hj, rfl, HJ⟩ := hrel
  by_cases hjn : j < n
  ·have hjI : (j : Int) < (n : Int) := by omega
   obtain ⟨xs, hR, hxs⟩ := HJ.out
   have hxl : xs.length = j := by have := congrArg List.length hxs; simpa [rowsTo] using this
   obtain ⟨gb, rfl⟩ := Hgs.out (by omega)
   have hsh := shapeAt_some (S := S) (i := j) (by rw [Hn.out]; exact hjn)
   have hgd := Hgood.out j _ hsh
   obtain ⟨k0, k1, k2, k3, k4⟩ := row5_cells Hrs.out hsh
   have hgl : gb < w.heap.size := ownsRow_lt Hrs.out rfl
   have hUw := HUw2.out.trans hR.upd
   have q0 := (hUw.cell (p := ⟨gb, j * 5, none⟩) hgl (by simp)).trans k0
   have q1 := (hUw.cell (p := ⟨gb, j * 5 + 1, none⟩) hgl (by simp)).trans k1
   have q2 := (hUw.cell (p := ⟨gb, j * 5 + 2, none⟩) hgl (by simp)).trans k2
   have q3 := (hUw.cell (p := ⟨gb, j * 5 + 3, none⟩) hgl (by simp)).trans k3
   have q4 := (hUw.cell (p := ⟨gb, j * 5 + 4, none⟩) hgl (by simp)).trans k4
   have hPlt : P < w2.heap.size := ownsRow_lt HR2.out rfl
   have HPl : Hid (∀ wr, Upd [] w2 wr → ∀ i, i < n → wr.cell? ⟨P, i, none⟩ = some (.int .i64 (pl.getD i 0))) := fun wr hu i hi => by
    rw [hu.cell (p := ⟨P, i, none⟩) hPlt (by simp), HR2.out.cellAt i (by omega)]
    have : i < pl.length := by rw [Hpll.out]; exact hi
    rw [List.getD_eq_getElem?_getD]
    simp [intsOf, List.getElem?_eq_getElem this]
   have p0 := HPl.out w4 hR.upd j hjn
   have HRo : Hid (rowOf S pl j = ⟨(shapeAt S j).1, (partsL (shapeAt S j)).map fun k => pl.getD k 0, pl.getD j 0⟩) := rfl
   have hcnt := hgd.count
   have Hpart := hide hgd.part
   obtain ⟨val, hval⟩ : ∃ val, pl.getD j 0 = val := ⟨_, rfl⟩
   rw [hval] at p0 HRo
   have HRx := hide hR
   have Hxs := hide hxs
   have Hxl := hide hxl
   clear hval hsh hgd k0 k1 k2 k3 k4 hUw hR hxs hxl HJ
   generalize shapeAt S j = s at *
   have hc3 : (s.2.1 : Int) ≤ 3 := by omega
   have hP4 : P < w4.heap.size := Nat.lt_of_lt_of_le hPlt HRx.out.upd.size
   go_upto_region 6 with fail
   obtain ⟨W1, hW1⟩ : ∃ W1, W1 = w4.alloc (.cells #[.string s.1, .int .i64 s.2.1, .int .i64 s.2.2.1, .int .i64 s.2.2.2.1, .int .i64 s.2.2.2.2] 141) := ⟨_, rfl⟩
   have hU1 : Upd [] w4 W1 := by rw [hW1]; exact (Upd.refl [] w4).alloc _
   have hx : BoxSh W1 w4.heap.size s := by rw [hW1]; exact ⟨by simp, by go_simp, by go_simp, by go_simp, by go_simp, by go_simp⟩
   have p1 := (hU1.cell (p := ⟨P, j, none⟩) hP4 (by simp)).trans p0
   have x0 := hx.2.1
   have hW1l : w4.heap.size < W1.heap.size := hx.1
   have p2 := (((Upd.refl [] W1).alloc (.cells #[.string ⟨#[]⟩, .slice none 0 0, .int .i64 0] 88)).cell (p := ⟨P, j, none⟩) (by show P < _; omega) (by simp)).trans p1
   have x2 := (((Upd.refl [] W1).alloc (.cells #[.string ⟨#[]⟩, .slice none 0 0, .int .i64 0] 88)).cell (p := ⟨w4.heap.size, 0, none⟩) hW1l (by simp)).trans x0
   have hPn : P ≠ W1.heap.size := by omega
   have hSn : w4.heap.size ≠ W1.heap.size := by omega
   have HX := hide hx
   have HU1' := hide hU1
   rw [← hW1]
   clear hW1 hx hU1 p0 q0 q1 q2 q3 q4
   go_cut [7] (fun p wx => p = .pointer (some ⟨W1.heap.size, 0, none⟩) ∧ Hid (RowBld w4 wx w4.heap.size W1.heap.size s val (.slice none 0 0) []))
   case first =>
    go_region
    all_goals (
     go_wp2_with fail
     go_meet
     case rel =>
      have U2 := (((Upd.refl [] W1).alloc (.cells #[.string s.1, .slice none 0 0, .int .i64 val] 88)).drew)
      refine ⟨rfl, HX.out.later U2 (by simp), hW1l, by simp, fun o => by go_simp, by go_simp, by go_simp, by go_simp, ⟨rfl, .inl ⟨rfl, rfl⟩⟩, Nat.le_refl _, HU1'.out.trans U2⟩)
   case rest =>
    obtain ⟨rfl, HB⟩ := hcut
    have b1 := HB.out.box.2.2.1
    have hsb := HB.out.box.1
    clear p1 p2 x0 x2 HX HU1' hPn hSn
    go_wp2
    go_loopw [42] (fun ix wr => ∃ (q : Nat) (vA : Value), q ≤ s.2.1 ∧ ix = .int .i64 q ∧ Hid (RowBld w4 wr w4.heap.size W1.heap.size s val vA (((partsL s).take q).map fun k => pl.getD k 0))) (fun ix _ => s.2.1 - (intOf ix).toNat)
    case atStart => exact ⟨0, _, Nat.zero_le _, rfl, HB.out⟩
    case round =>
     clear HB b1 hsb
     obtain ⟨w5, hw5⟩ : ∃ w5, w5 = wr := ⟨_, rfl⟩
     rw [← hw5] at hrel ⊢
     clear hw5
     obtain ⟨q, vA, hq, rfl, HQ⟩ := hrel
     have hal : (((partsL s).take q).map fun k => pl.getD k 0).length = q := by rw [List.length_map, List.length_take, partsL_length]; omega
     obtain ⟨gA, capA, hvA⟩ := slice_len HQ.out.row
     rw [hal] at hvA
     have Hal := hide hal
     by_cases hqc : q < s.2.1
     ·have hqI : (q : Int) < (s.2.1 : Int) := by omega
      have hcq := HQ.out.box.part q (by omega)
      have hpq := Hpart.out q hqc
      have hget := partsL_get hqc
      have HNx : Hid (((partsL s).take (q + 1)).map (fun k => pl.getD k 0) = ((partsL s).take q).map (fun k => pl.getD k 0) ++ [pl.getD (partAt s q) 0]) := by
       show _ = _
       have hlt := (List.getElem?_eq_some_iff.1 hget).1
       rw [List.take_succ_eq_append_getElem hlt, List.map_append]
       rw [List.getElem?_eq_getElem hlt] at hget
       rw [Option.some.inj hget]
       rfl
      obtain ⟨pq, hpqe⟩ : ∃ pq, partAt s q = pq := ⟨_, rfl⟩
      rw [hpqe] at hcq hpq HNx
      have hU25 := HRx.out.upd.trans HQ.out.upd
      have z0 := HPl.out w5 hU25 pq (by omega)
      have hpI : (pq : Int) < (n : Int) := by omega
      obtain ⟨a, ha⟩ : ∃ a, pl.getD pq 0 = a := ⟨_, rfl⟩
      rw [ha] at z0 HNx
      have z1 := HQ.out.c1
      have zf := HQ.out.free
      have hRl := HQ.out.lt
      have hP5 : P < w5.heap.size := Nat.lt_of_lt_of_le hPlt hU25.size
      have HA : Hid (∀ X : Obj, (w5.alloc X).cell? ⟨P, pq, none⟩ = some (.int .i64 a) ∧ (w5.alloc X).cell? ⟨W1.heap.size, 1, none⟩ = some vA) := fun X => ⟨(((Upd.refl [] w5).alloc X).cell (p := ⟨P, pq, none⟩) hP5 (by simp)).trans z0, (((Upd.refl [] w5).alloc X).cell (p := ⟨W1.heap.size, 1, none⟩) hRl (by simp)).trans z1⟩
      obtain ⟨y1, y2⟩ := HA.out (.cells #[.int .i64 a] 3)
      have hrow1 := (((Upd.refl [] w5).alloc (.cells #[.int .i64 a] 3)).drew).ownsRow HQ.out.row (fun _ _ => by simp)
      rw [hal] at hrow1
      have Hrow1 := hide hrow1
      have hnews : Hid (∀ j u, [Value.int .i64 a][j]? = some u → (w5.alloc (.cells #[.int .i64 a] 3)).drew.cell? ((⟨w5.heap.size, 0, none⟩ : Addr).add j) = some u) := World.news_of_block (heap_alloc_new w5 _)
      have hone : Hid (∀ u ∈ [Value.int .i64 a], u.oneCell' = true) := (fun u hu' => by simp at hu'; subst hu'; rfl)
      have Hc : Hid (∀ w6, (w5.alloc (.cells #[.int .i64 a] 3)).drew.grownBy w6 vA.ownBlock → w6.cell? ⟨W1.heap.size, 1, none⟩ = some vA ∧ ∀ o, w6.frozen? ⟨W1.heap.size, o, none⟩ = false) := fun w6 hg => HQ.out.grown (((Upd.refl [] w5).alloc _).drew) hg
      have Hfin : Hid (∀ g cap w6, (w5.alloc (.cells #[.int .i64 a] 3)).drew.grownBy w6 vA.ownBlock → (vA.ownBlock = some g ∨ g = (w5.alloc (.cells #[.int .i64 a] 3)).drew.heap.size) → w6.ownsRow (W1.heap.size + 1) 3 1 (.slice (some ⟨g, 0, none⟩) (q + 1) cap) (q + 1) (intsOf (((partsL s).take q).map fun k => pl.getD k 0) ++ [.int .i64 a]) → RowBld w4 (w6.setCell ⟨W1.heap.size, 1, none⟩ (.slice (some ⟨g, 0, none⟩) (q + 1) cap)) w4.heap.size W1.heap.size s val (.slice (some ⟨g, 0, none⟩) (q + 1) cap) (((partsL s).take (q + 1)).map fun k => pl.getD k 0)) := fun g cap w6 hg hat hown => by
       rw [HNx.out]
       have := HQ.out.next (a := a) (((Upd.refl [] w5).alloc _).drew) hg hat (by rw [hal]; exact hown)
       rw [hal] at this
       exact this
      have hlm : q + 1 ≤ maxLen := by unfold maxLen; omega
      have hlb : (q + 1) * 8 ≤ 140737488355328 := by omega
      have hbs : W1.heap.size + 1 ≤ (w5.alloc (.cells #[.int .i64 a] 3)).drew.heap.size := by simp; omega
      have Hbs := hide hbs
      have hn5 : P ≠ w5.heap.size := by omega
      have hn6 : W1.heap.size ≠ w5.heap.size := by omega
      clear hpqe ha hget hal hrow1 hU25 HQ hbs hvA
      go_wp2_with fail
      go_region_law (refine step_append_lies _ (by rfl) _ _ 44 (by rfl) (W1.heap.size + 1) 3 j0 (.int .i64 0) 1 8 Tryz.underlying44 hj0 hy0 hy1 hy2 (by rfl) (by decide) vA q (intsOf (((partsL s).take q).map fun k => pl.getD k 0)) (by rfl) Hrow1.out ⟨w5.heap.size, 0, none⟩ 1 1 [Value.int .i64 a] (by rfl) (by rfl) hnews.out hone.out (by decide) hlm hlb Hbs.out _ (by rfl) ?_; intro g cap' w6 hown' hgrow hat hlt3; obtain ⟨k0, kf⟩ := Hc.out w6 hgrow)
      all_goals (
       go_wp2
       refine ⟨⟨q + 1, _, by omega, by simp, Hfin.out g cap' w6 hgrow hat hown'⟩, ?_⟩
       simp [intOf]
       omega)
     ·have hqI : ¬ (q : Int) < (s.2.1 : Int) := by omega
      have hqe : (partsL s).take q = partsL s := List.take_of_length_le (by rw [partsL_length]; omega)
      rw [hqe] at HQ Hal
      subst hvA
      have t0 := HQ.out.c0
      have t1 := HQ.out.c1
      have t2 := HQ.out.c2
      have hRl := HQ.out.lt
      have hb5 := HQ.out.upd.size
      have hrw := ((HQ.out.upd.alloc (.cells #[.string s.1, .slice gA q capA, .int .i64 val] 88))).ownsRow HRx.out.row (fun _ _ => by simp)
      rw [Hxl.out] at hrw
      have Hrw := hide hrw
      have Hnews : Hid (∀ j u, [Value.string s.1, .slice gA q capA, .int .i64 val][j]? = some u → (w5.alloc (.cells #[.string s.1, .slice gA q capA, .int .i64 val] 88)).cell? ((⟨w5.heap.size, 0, none⟩ : Addr).add j) = some u) := World.news_of_block (heap_alloc_new _ _)
      have hone : Hid (∀ u ∈ [Value.string s.1, .slice gA q capA, .int .i64 val], u.oneCell' = true) := fun u hu' => by simp at hu'; rcases hu' with rfl | rfl | rfl <;> rfl
      have Hfin : Hid (∀ g cap w6, (w5.alloc (.cells #[.string s.1, .slice gA q capA, .int .i64 val] 88)).grownBy w6 u4.ownBlock → (u4.ownBlock = some g ∨ g = (w5.alloc (.cells #[.string s.1, .slice gA q capA, .int .i64 val] 88)).heap.size) → w6.ownsRow w2.heap.size 88 3 (.slice (some ⟨g, 0, none⟩) (j + 1) cap) (j + 1) (flatR xs ++ [.string s.1, .slice gA q capA, .int .i64 val]) → ∃ ys, Rowing w2 w6 (.slice (some ⟨g, 0, none⟩) (j + 1) cap) ys ∧ ys.map (·.1) = rowsTo S pl (j + 1)) := fun g cap w6 hg hat hown => by
       have hrw' := HQ.out.row
       rw [Hal.out] at hrw'
       have hrl : (rowOf S pl j).args.length = q := by rw [HRo.out]; exact Hal.out
       have hra : (rowOf S pl j).args = (partsL s).map fun k => pl.getD k 0 := by rw [HRo.out]
       have := HRx.out.next (r := rowOf S pl j) (vA := .slice gA q capA) (B := W1.heap.size + 1) HQ.out.upd (by rw [hrl, hra]; exact hrw') (by have := hW1l; omega) ((Upd.refl [] w5).alloc _) hg hat (by rw [Hxl.out, HRo.out]; exact hown)
       rw [Hxl.out] at this
       exact ⟨_, this, by rw [List.map_append, Hxs.out, rowsTo_succ]; rfl⟩
      have hlm : j + 1 ≤ maxLen := by unfold maxLen; omega
      have hlb : (j + 1) * 48 ≤ 140737488355328 := by omega
      have hs24 := HRx.out.upd.size
      have hbs : w2.heap.size ≤ (w5.alloc (.cells #[.string s.1, .slice gA q capA, .int .i64 val] 88)).heap.size := by simp; omega
      have Hbs := hide hbs
      clear hqe hrw hbs HQ
      go_wp2_with (at_builtin; go_must (refine wpList_append_lies _ rfl _ _ 46 rfl w2.heap.size 88 i0 (.agg #[.string ⟨#[]⟩, .slice none 0 0, .int .i64 0]) 3 48 Tryz.underlying46 hi hz0 hz1 hz2 rfl (by decide) _ _ _ rfl Hrw.out ⟨w5.heap.size, 0, none⟩ 1 1 [.string s.1, .slice gA q capA, .int .i64 val] rfl rfl Hnews.out hone.out (by decide) hlm hlb Hbs.out _ rfl ?_); intro g6 cap6 w6 hown6 hgrow6 hat6 hlt6)
      refine ⟨⟨j + 1, by omega, by simp, Hfin.out g6 cap6 w6 hgrow6 hat6 hown6⟩, ?_⟩
      simp [intOf]
      omega
  ·have hjI : ¬ (j : Int) < (n : Int) := by omega
   have hje : j = n := by omega
   obtain ⟨xs, hR, hxs⟩ := HJ.out
   rw [hje] at hxs
   have hxl : xs.length = n := by have := congrArg List.length hxs; simpa [rowsTo] using this
   obtain ⟨g, capv, hv⟩ : ∃ g cap, u4 = .slice (some ⟨g, 0, none⟩) n cap := by
    rcases ownsRow_slice hR.row with ⟨h1, _⟩ | ⟨g, cap, h1, _⟩
    ·exact absurd (by rw [h1]; rfl) hR.made
    ·exact ⟨g, cap, by rw [h1, hxl]⟩
   subst hv
   have hBt : Built w w4 (.slice (some ⟨g, 0, none⟩) n capv) S pl := ⟨w2, xs, HUw2.out, hR, by rw [Hn.out]; exact hxs⟩
   have HS1 := hide (HSort.out w4 g capv hBt)
   have HC1' := hide (fun w' hr => HComp.out w4 w' (.slice (some ⟨g, 0, none⟩) n capv) hr hBt)
   clear hje hR hxs hxl hBt HJ
   go_wp2_with (first
    | (go_at_call 84; refine HS1.out.mono ?_; rintro e w5 ⟨rfl, hr5⟩; have HC5 := hide (HC1'.out w5 hr5); clear hr5)
    | (go_at_call 86; refine HC5.out.mono ?_; rintro e w6 ⟨v6, rfl, hq6⟩; have HQ6 := hide hq6; clear hq6))
   go_ret
   exact ⟨_, _, rfl, HQ6.out⟩
end Go.Proofs.YtmfkpllnmmfpiaaGreatDoor

namespace Go.Proofs.YtmfkpllnmmfpiaaGreatDoor
open Go.Shelf
def sortR_ren : Go.Shelf.Ren := ⟨fun | 6 => 84 | 15 => 119 | 14 => 118 | 28 => 145 | 29 => 146 | 20 => 137 | 21 => 138 | 22 => 139 | 23 => 140 | 24 => 141 | 25 => 142 | 26 => 143 | 27 => 144 | 46 => 170 | 47 => 171 | 48 => 172 | 49 => 173 | 50 => 174 | 57 => 182 | n => n, fun | 22 => 46 | 24 => 88 | 25 => 143 | 3 => 3 | 39 => 195 | 0 => 0 | 53 => 220 | 55 => 222 | 4 => 4 | 46 => 214 | 45 => 213 | 50 => 189 | 5 => 5 | 9 => 9 | 66 => 240 | 70 => 244 | 76 => 251 | 77 => 252 | n => n, fun | n => n⟩
theorem sortR : Go.Proofs.SlLaysF0.n6 Tryz.prog sortR_ren := {
 mixed := by kernel_rfl
 f6 := ⟨Tryz.f84.name, by decide, Tryz.func84.trans (congrArg some (by kernel_rfl))⟩
 f14 := ⟨Tryz.f118.name, by decide, Tryz.func118.trans (congrArg some (by kernel_rfl))⟩
 f15 := Tryz.func119.trans (congrArg some (by kernel_rfl))
 f20 := ⟨Tryz.f137.name, by decide, Tryz.func137.trans (congrArg some (by kernel_rfl))⟩
 f21 := ⟨Tryz.f138.name, by decide, Tryz.func138.trans (congrArg some (by kernel_rfl))⟩
 f22 := ⟨Tryz.f139.name, by decide, Tryz.func139.trans (congrArg some (by kernel_rfl))⟩
 f23 := ⟨Tryz.f140.name, by decide, Tryz.func140.trans (congrArg some (by kernel_rfl))⟩
 f24 := ⟨Tryz.f141.name, by decide, Tryz.func141.trans (congrArg some (by kernel_rfl))⟩
 f25 := ⟨Tryz.f142.name, by decide, Tryz.func142.trans (congrArg some (by kernel_rfl))⟩
 f26 := ⟨Tryz.f143.name, by decide, Tryz.func143.trans (congrArg some (by kernel_rfl))⟩
 f27 := ⟨Tryz.f144.name, by decide, Tryz.func144.trans (congrArg some (by kernel_rfl))⟩
 f28 := Tryz.func145.trans (congrArg some (by kernel_rfl))
 f29 := Tryz.func146.trans (congrArg some (by kernel_rfl))
 f46 := ⟨Tryz.f170.name, by decide, Tryz.func170.trans (congrArg some (by kernel_rfl))⟩
 f47 := Tryz.func171.trans (congrArg some (by kernel_rfl))
 f48 := Tryz.func172.trans (congrArg some (by kernel_rfl))
 f49 := ⟨Tryz.f173.name, by decide, Tryz.func173.trans (congrArg some (by kernel_rfl))⟩
 f50 := ⟨Tryz.f174.name, by decide, Tryz.func174.trans (congrArg some (by kernel_rfl))⟩
 f57 := ⟨Tryz.f182.name, by decide, Tryz.func182.trans (congrArg some (by kernel_rfl))⟩
 t0 := Tryz.underlying0
 a0 := Tryz.isAgg0
 z0 := Tryz.sizeOf0
 v0 := Tryz.zeroValue0
 t3 := Tryz.underlying3
 a3 := Tryz.isAgg3
 z3 := Tryz.sizeOf3
 v3 := Tryz.zeroValue3
 t4 := Tryz.underlying4
 a4 := Tryz.isAgg4
 z4 := Tryz.sizeOf4
 v4 := Tryz.zeroValue4
 t5 := Tryz.underlying5
 a5 := Tryz.isAgg5
 z5 := Tryz.sizeOf5
 v5 := Tryz.zeroValue5
 t9 := Tryz.underlying9
 a9 := Tryz.isAgg9
 z9 := Tryz.sizeOf9
 v9 := Tryz.zeroValue9
 t22 := Tryz.underlying46
 a22 := Tryz.isAgg46
 z22 := Tryz.sizeOf46
 v22 := Tryz.zeroValue46
 t25 := Tryz.underlying143
 a25 := Tryz.isAgg143
 z25 := Tryz.sizeOf143
 v25 := Tryz.zeroValue143
 t39 := Tryz.underlying195
 a39 := Tryz.isAgg195
 z39 := Tryz.sizeOf195
 v39 := Tryz.zeroValue195
 t45 := Tryz.underlying213
 a45 := Tryz.isAgg213
 z45 := Tryz.sizeOf213
 v45 := Tryz.zeroValue213
 t46 := Tryz.underlying214
 a46 := Tryz.isAgg214
 z46 := Tryz.sizeOf214
 v46 := Tryz.zeroValue214
 t50 := Tryz.underlying189
 a50 := Tryz.isAgg189
 z50 := Tryz.sizeOf189
 v50 := Tryz.zeroValue189
 t53 := Tryz.underlying220
 a53 := Tryz.isAgg220
 z53 := Tryz.sizeOf220
 v53 := Tryz.zeroValue220
 t55 := Tryz.underlying222
 a55 := Tryz.isAgg222
 z55 := Tryz.sizeOf222
 v55 := Tryz.zeroValue222
 t66 := Tryz.underlying240
 a66 := Tryz.isAgg240
 z66 := Tryz.sizeOf240
 v66 := Tryz.zeroValue240
 t70 := Tryz.underlying244
 a70 := Tryz.isAgg244
 z70 := Tryz.sizeOf244
 v70 := Tryz.zeroValue244
 t76 := Tryz.underlying251
 a76 := Tryz.isAgg251
 z76 := Tryz.sizeOf251
 v76 := Tryz.zeroValue251
 t77 := Tryz.underlying252
 a77 := Tryz.isAgg252
 z77 := Tryz.sizeOf252
 v77 := Tryz.zeroValue252 }
end Go.Proofs.YtmfkpllnmmfpiaaGreatDoor
