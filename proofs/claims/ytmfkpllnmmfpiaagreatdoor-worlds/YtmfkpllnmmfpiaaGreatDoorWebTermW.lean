/- IMap, Firsts, Places, WebTerm -/
import Derived.Test.YtmfkpllnmmfpiaaGreatDoorMapHeapW
import Derived.PlainAid
import Derived.Test.YtmfkpllnmmfpiaaGreatDoorRowCmpW
import Derived.Test.YtmfkpllnmmfpiaaGreatDoorTwinsW
import Derived.Deep.OwnRows
import Derived.Test.YtmfkpllnmmfpiaaGreatDoorTellW
import Derived.Test.YtmfkpllnmmfpiaaGreatDoorSayW
namespace Go.Proofs.YtmfkpllnmmfpiaaGreatDoor
open Go.RowKit Go.Maps
theorem law_int : Keyed Tryz.prog 3 := Maps.int_keyed Tryz.underlying3
def IMapIs (w : World) (b n : Nat) (f : Nat → Option Nat) : Prop :=
 ∃ D : DataW Unit, w.ownsMap Tryz.prog 3 (plainElem Tryz.prog 3) b n D ∧ Maps.size D = n ∧
  ∀ (s : Nat) kl, keyOf Tryz.prog 3 (.int .i64 s) = some kl → Maps.has D kl = (f s).isSome ∧ ∀ c, f s = some c → D.atKey kl (.lit (.int .i64 0)) = .lit (.int .i64 c)
theorem key_int (s : Nat) (h : s ≤ 1000000) : ∃ kl, keyOf Tryz.prog 3 (.int .i64 s) = some kl := ⟨_, Maps.keyOf_int_mk Tryz.underlying3 (wf_i64 h)⟩
theorem IMapIs.lt {w : World} {b n : Nat} {f : Nat → Option Nat} (h : IMapIs w b n f) : b < w.heap.size := let ⟨_, ho, _⟩ := h; ho.lt
theorem IMapIs.later {w w' : World} {L : List Nat} {b n : Nat} {f : Nat → Option Nat} (h : IMapIs w b n f) (hu : Upd L w w') (hb : b ∉ L) : IMapIs w' b n f := by
 obtain ⟨D, ho, hn, hf⟩ := h
 obtain ⟨es, clock, hh, r⟩ := ho
 exact ⟨D, ⟨es, clock, (hu.block b (World.ownsMap.lt ⟨es, clock, hh, r⟩) hb).trans hh, r⟩, hn, hf⟩
theorem IMapIs.new (w : World) : IMapIs (w.alloc (.map #[] 0)) w.heap.size 0 (fun _ => none) :=
 ⟨.map [], World.ownsMap_made _ _ _ _, rfl, fun _ _ _ => ⟨rfl, fun _ h => by cases h⟩⟩
theorem IMapIs.look {w : World} {b n : Nat} {f : Nat → Option Nat} (h : IMapIs w b n f) (s : Nat) (hs : s ≤ 1000000) :
  (Instr.lookup 188 (.map (some b)) (.int .i64 s) true).run Tryz.prog w = .ok (.tuple #[.int .i64 ((f s).getD 0), .bool (f s).isSome]) w := by
 obtain ⟨D, ho, _, hf⟩ := h
 obtain ⟨kl, hk⟩ := key_int s hs
 obtain ⟨v, ps, hrun, hv⟩ := ho.look_ok law_int Tryz.underlying188 (zero_int w) (plainElem_int Tryz.underlying3 (by decide)) hk
 obtain ⟨c, rfl, hc, hwc⟩ := plainElem_int_inv Tryz.underlying3 hv
 have hat : D.atKey kl (.lit (.int .i64 0)) = .lit (.int .i64 c) := congrArg Prod.fst hc
 obtain ⟨h1, h2⟩ := hf s kl hk
 rw [hrun, h1]
 cases hfs : f s with
 | none =>
  rw [hfs] at h1
  have := atKey_of_not_has h1 (.lit (.int .i64 0) : DataW Unit)
  rw [this] at hat
  cases hat
  rfl
 | some x =>
  have := h2 x hfs
  rw [this] at hat
  cases hat
  rfl
def setI (f : Nat → Option Nat) (s : Nat) (v : Nat) : Nat → Option Nat := fun t => if t = s then some v else f t
theorem IMapIs.put {w : World} {b n : Nat} {f : Nat → Option Nat} (h : IMapIs w b n f) (s : Nat) (hs : s ≤ 1000000) (v : Nat) (hv : v ≤ 1000000) (hn : n < maxLen) (hnew : f s = none) :
  ∃ w', (Instr.mapUpdate 188 (.map (some b)) (.int .i64 s) (.int .i64 v)).run Tryz.prog w = .ok () w' ∧ IMapIs w' b (n + 1) (setI f s v) ∧ w.mapTurned w' b := by
 obtain ⟨D, ho, hsz, hf⟩ := h
 obtain ⟨kl, hk⟩ := key_int s hs
 obtain ⟨w', hrun, h1, h2⟩ := ho.store law_int Tryz.underlying188 hn hk (plainElem_int Tryz.underlying3 (wf_i64 hv))
 have hz : Maps.size (D.put kl (.lit (.int .i64 (v : Int)))) = n + 1 := by
  rw [size_put (ho.tidy law_int), (hf s kl hk).1, hnew, hsz]
  rfl
 refine ⟨w', hrun, ⟨_, h1, hz, fun t kt hkt => ?_⟩, h2⟩
 unfold setI
 by_cases e : t = s
 ·subst e
  obtain rfl := Option.some.inj (hk.symm.trans hkt)
  rw [if_pos rfl]
  refine ⟨has_put_same ho.isMap (law_int.key hk) _, fun c hc => ?_⟩
  obtain rfl := Option.some.inj hc
  exact atKey_put_same ho.isMap (law_int.key hk) _ _
 ·have hne : kt ≠ kl := fun e' => e (by
   have := law_int.inj (hkt.trans (congrArg some e')) hk
   simp at this
   omega)
  rw [if_neg e, has_put_other hne]
  refine ⟨(hf t kt hkt).1, fun c hc => ?_⟩
  rw [atKey_put_other hne]
  exact (hf t kt hkt).2 c hc
theorem IMapIs.len {w : World} {b n : Nat} {f : Nat → Option Nat} (h : IMapIs w b n f) (ty : TypeId) : (Builtin.len_ #[188] ty #[.map (some b)]).run Tryz.prog w = .ok (.int .i64 (n : Int)) w := by
 obtain ⟨D, ho, hsz, _⟩ := h
 rw [ho.len Tryz.underlying188 ty, hsz]
end Go.Proofs.YtmfkpllnmmfpiaaGreatDoor

namespace Go.Proofs.YtmfkpllnmmfpiaaGreatDoor
def firstStep (a : List Nat) (c : Nat) : List Nat := if c ∈ a then a else a ++ [c]
def firstsOf (l : List Nat) : List Nat := l.foldl firstStep []
theorem firstsOf_snoc (l : List Nat) (c : Nat) : firstsOf (l ++ [c]) = firstStep (firstsOf l) c := by simp [firstsOf]
theorem list_snoc_induction {α : Type} {P : List α → Prop} (h0 : P []) (h1 : ∀ l a, P l → P (l ++ [a])) (l : List α) : P l := by
 have : ∀ m : List α, P m.reverse := fun m => by
  induction m with
  | nil => exact h0
  | cons a m ih => rw [List.reverse_cons]; exact h1 _ _ ih
 have h := this l.reverse
 rwa [List.reverse_reverse] at h
theorem mem_firsts (l : List Nat) : ∀ c, c ∈ firstsOf l ↔ c ∈ l := by
 refine list_snoc_induction (P := fun l => ∀ c, c ∈ firstsOf l ↔ c ∈ l) (fun c => by simp [firstsOf]) (fun l a ih c => ?_) l
 rw [firstsOf_snoc]
 unfold firstStep
 split
 ·rename_i h
  rw [ih c, List.mem_append]
  constructor
  ·exact fun h => .inl h
  ·rintro (h1 | h1)
   ·exact h1
   ·obtain rfl : c = a := by simpa using h1
    exact (ih c).1 h
 ·rw [List.mem_append, List.mem_append, ih c]
theorem firsts_nodup (l : List Nat) : (firstsOf l).Nodup := by
 refine list_snoc_induction (P := fun l => (firstsOf l).Nodup) (by simp [firstsOf]) (fun l a ih => ?_) l
 rw [firstsOf_snoc]
 unfold firstStep
 split
 ·exact ih
 ·rename_i h
  rw [List.nodup_append]
  exact ⟨ih, by simp, fun x hx y hy e => by simp at hy; subst hy; subst e; exact h hx⟩
theorem firsts_length (l : List Nat) : (firstsOf l).length ≤ l.length := by
 refine list_snoc_induction (P := fun l => (firstsOf l).length ≤ l.length) (by simp [firstsOf]) (fun l a ih => ?_) l
 rw [firstsOf_snoc]
 unfold firstStep
 split <;> simp <;> omega
theorem firsts_prefix (l m : List Nat) : ∃ r, firstsOf (l ++ m) = firstsOf l ++ r := by
 refine list_snoc_induction (P := fun m => ∃ r, firstsOf (l ++ m) = firstsOf l ++ r) ⟨[], by simp⟩ (fun m a ih => ?_) m
 obtain ⟨r, hr⟩ := ih
 rw [← List.append_assoc, firstsOf_snoc, hr]
 unfold firstStep
 split
 ·exact ⟨r, rfl⟩
 ·exact ⟨r ++ [a], by simp⟩
theorem idx_prefix (l m : List Nat) {c : Nat} (h : c ∈ l) : (firstsOf (l ++ m)).idxOf c = (firstsOf l).idxOf c := by
 obtain ⟨r, hr⟩ := firsts_prefix l m
 rw [hr, List.idxOf_append, if_pos ((mem_firsts l c).2 h)]
theorem idx_lt (l : List Nat) {c : Nat} (h : c ∈ l) : (firstsOf l).idxOf c < (firstsOf l).length := List.idxOf_lt_length_iff.2 ((mem_firsts l c).2 h)
theorem idx_new {l : List Nat} {c : Nat} (h : c ∉ l) : firstsOf (l ++ [c]) = firstsOf l ++ [c] ∧ (firstsOf (l ++ [c])).idxOf c = (firstsOf l).length := by
 have hn : c ∉ firstsOf l := fun hm => h ((mem_firsts l c).1 hm)
 have e : firstsOf (l ++ [c]) = firstsOf l ++ [c] := by rw [firstsOf_snoc]; unfold firstStep; rw [if_neg hn]
 refine ⟨e, ?_⟩
 rw [e, List.idxOf_append, if_neg hn]
 simp
theorem idx_old {l : List Nat} {c : Nat} (h : c ∈ l) : firstsOf (l ++ [c]) = firstsOf l := by
 rw [firstsOf_snoc]; unfold firstStep; rw [if_pos ((mem_firsts l c).2 h)]
end Go.Proofs.YtmfkpllnmmfpiaaGreatDoor

namespace Go.Proofs.YtmfkpllnmmfpiaaGreatDoor
open Go.RowKit
def clsTo (S : WS) (ts : List TN) (i : Nat) : List Nat := (ts.take i).map fun t => classAt S t.2
theorem clsTo_succ {S : WS} {ts : List TN} {i : Nat} {t : TN} (h : ts[i]? = some t) : clsTo S ts (i + 1) = clsTo S ts i ++ [classAt S t.2] := by
 unfold clsTo
 have hlt := (List.getElem?_eq_some_iff.1 h).1
 rw [List.take_succ_eq_append_getElem hlt, List.map_append]
 rw [List.getElem?_eq_getElem hlt] at h
 rw [Option.some.inj h]
 rfl
def placeIn (l : List Nat) (c : Nat) : Nat := (firstsOf l).idxOf c
def seenF (l : List Nat) (c : Nat) : Option Nat := if c ∈ l then some (placeIn l c) else none
def placesTo (S : WS) (ts : List TN) : Nat → List Nat
 | 0 => List.replicate ts.length 0
 | i + 1 => match ts[i]? with
  | some t => (placesTo S ts i).set t.2 (placeIn (clsTo S ts (i + 1)) (classAt S t.2))
  | none => placesTo S ts i
theorem placesTo_length (S : WS) (ts : List TN) : ∀ i, (placesTo S ts i).length = ts.length
 | 0 => by simp [placesTo]
 | i + 1 => by
  unfold placesTo
  split
  ·rw [List.length_set]; exact placesTo_length S ts i
  ·exact placesTo_length S ts i
theorem placesTo_succ {S : WS} {ts : List TN} {i : Nat} {t : TN} (h : ts[i]? = some t) : placesTo S ts (i + 1) = (placesTo S ts i).set t.2 (placeIn (clsTo S ts (i + 1)) (classAt S t.2)) := by
 conv => lhs; unfold placesTo
 rw [h]
theorem seen_old {l : List Nat} {c : Nat} (h : c ∈ l) : placeIn (l ++ [c]) c = placeIn l c ∧ seenF (l ++ [c]) = seenF l := by
 have e := idx_old h
 unfold placeIn
 refine ⟨by rw [e], ?_⟩
 funext d
 unfold seenF placeIn
 rw [e]
 by_cases hd : d ∈ l
 ·rw [if_pos hd, if_pos (by simp [hd])]
 ·rw [if_neg hd, if_neg (by simp [hd]; rintro rfl; exact hd h)]
theorem seen_new {l : List Nat} {c : Nat} (h : c ∉ l) : placeIn (l ++ [c]) c = (firstsOf l).length ∧ seenF (l ++ [c]) = setI (seenF l) c (firstsOf l).length ∧ (firstsOf (l ++ [c])).length = (firstsOf l).length + 1 := by
 obtain ⟨e1, e2⟩ := idx_new h
 refine ⟨e2, ?_, by rw [e1]; simp⟩
 funext d
 unfold seenF setI
 by_cases hd : d = c
 ·subst hd
  rw [if_pos (by simp), if_pos rfl]
  exact congrArg some e2
 ·rw [if_neg hd]
  by_cases hl : d ∈ l
  ·show _ = (if d ∈ l then some (placeIn l d) else none)
   rw [if_pos (by simp [hl]), if_pos hl]
   exact congrArg some (idx_prefix l [c] hl)
  ·show _ = (if d ∈ l then some (placeIn l d) else none)
   rw [if_neg (by simp [hl, hd]), if_neg hl]
structure Placing (w wr : World) (wb base P M : Nat) (H : Hd) (Z : Nat → Prop) (S : WS) (v : Value) (ts : List TN) (i : Nat) : Prop where
 web : WebAt wr wb H Z S
 texts : TextsAt wr base v ts
 row : wr.ownsRow w.heap.size 3 1 (.slice (some ⟨P, 0, none⟩) ts.length ts.length) ts.length (intsOf (placesTo S ts i))
 map : IMapIs wr M (firstsOf (clsTo S ts i)).length (seenF (clsTo S ts i))
 upd : Upd [] w wr
 mge : w.heap.size ≤ M
 pm : P ≠ M
theorem zeros_own (w : World) (base n : Nat) (hb : base ≤ w.heap.size) (hm : n ≤ maxLen) : (w.alloc (.cells (madeCells #[.int .i64 0] n) 3)).ownsRow base 3 1 (.slice (some ⟨w.heap.size, 0, none⟩) n n) n (intsOf (List.replicate n 0)) := by
 refine ⟨by simp [intsOf], .inr ⟨w.heap.size, n, madeCells #[.int .i64 0] n, rfl, hb, heap_alloc_new w _, Nat.le_refl _, hm, by simp [size_madeCells], ?_⟩⟩
 have e : (madeCells #[.int .i64 0] n).toList = List.replicate n (.int .i64 0) := by
  refine List.ext_getElem (by simp [madeCells]) fun k h1 h2 => ?_
  simp [madeCells, Nat.mod_one]
 rw [e, Nat.mul_one]
 simp [intsOf]
theorem Placing.next {w wr W W' : World} {wb base P M i place : Nat} {H : Hd} {Z : Nat → Prop} {S : WS} {v : Value} {ts : List TN} {t : TN} {X : Obj} {nq : Nat} (h : Placing w wr wb base P M H Z S v ts i) (hZ : ∀ k, Z k → k < w.heap.size) (hvw : ∀ g, v.ownBlock = some g → g < w.heap.size) (ht : ts[i]? = some t)
  (hW : W = (wr.alloc X).drewN nq) (hU : Upd [M] W W') (hp : place = placeIn (clsTo S ts (i + 1)) (classAt S t.2)) (hm : IMapIs W' M (firstsOf (clsTo S ts (i + 1))).length (seenF (clsTo S ts (i + 1)))) :
  Placing w (W'.setCell ⟨P, t.2, none⟩ (.int .i64 place)) wb base P M H Z S v ts (i + 1) := by
 have U0 : Upd [M, P] wr W' := by
  rw [hW] at hU
  exact ((((Upd.refl [M, P] wr).alloc X).drewN nq)).trans (hU.mono fun x hx _ => by simp at hx ⊢; exact .inl hx)
 have UM : Upd [M] wr W' := by
  rw [hW] at hU
  exact ((((Upd.refl [M] wr).alloc X).drewN nq)).trans hU
 have U : Upd [M, P] wr (W'.setCell ⟨P, t.2, none⟩ (.int .i64 place)) := U0.setCell (by simp) _
 have hP : w.heap.size ≤ P := own_ge h.row (k := P) rfl
 have hMge := h.mge
 have hsz := h.upd.size
 obtain ⟨g, cap, hv, h2, h3, h4, h5, h6⟩ := h.texts.ex
 have hgw := hvw g (by rw [hv]; rfl)
 have hn : g ∉ [M, P] := by simp; omega
 refine ⟨h.web.later U (fun k hk hm => ?_), ⟨g, cap, hv, h2, h3, h4, Nat.lt_of_lt_of_le h5 U.size, fun j x hj => ⟨(U.cell (p := ⟨g, j * 2, none⟩) h5 hn).trans (h6 j x hj).1, (U.cell (p := ⟨g, j * 2 + 1, none⟩) h5 hn).trans (h6 j x hj).2⟩⟩, ?_, ?_, h.upd.trans' U (fun x hx hl => by simp at hx; omega), h.mge, h.pm⟩
 ·have := hZ k hk
  simp at hm
  omega
 ·have hr := UM.ownsRow h.row (fun k hk hm => by
   simp only [own_slice, Option.some.injEq] at hk
   simp only [List.mem_singleton] at hm
   exact h.pm (hk.trans hm))
  have := ownsRow_set1 (i := t.2) (v := place) hr
  rw [placesTo_succ ht, ← hp]
  exact this
 ·exact hm.later ((Upd.refl [P] W').setCell (p := ⟨P, t.2, none⟩) (by simp) _) (by simp; exact fun e => h.pm e.symm)
set_option maxHeartbeats 4000000 in
set_option maxRecDepth 100000 in
theorem places_any (w : World) (wb base : Nat) (H : Hd) (Z : Nat → Prop) (S : WS) (v : Value) (ts : List TN) (h : WebAt w wb H Z S) (hI : Inv S) (hZ : ∀ k, Z k → k < w.heap.size) (ht : TextsAt w base v ts) (hnum : ∀ t ∈ ts, t.2 < ts.length) (hlen : ts.length = S.shapes.length) (hn : S.shapes.length ≤ 1000) :
  Calls Tryz.prog 82 #[.pointer (some ⟨wb, 0, none⟩), v] w fun e w' => ∃ P, e = .returned (.slice (some ⟨P, 0, none⟩) ts.length ts.length) ∧ Upd [] w w' ∧ w'.ownsRow w.heap.size 3 1 (.slice (some ⟨P, 0, none⟩) ts.length ts.length) ts.length (intsOf (placesTo S ts ts.length)) := by
 have hmk := run_make_row' (P := Tryz.prog) 44 3 (.int .i64 0) 8 Tryz.underlying44 info_int rfl .i64 .i64 ts.length (by omega) (by omega) w
 have hmm := run_makeMap (P := Tryz.prog) 188
 have U1 := ((Upd.refl [] w).alloc (.cells (madeCells #[.int .i64 0] ts.length) 3)).alloc (.map #[] 0)
 have hstart : Placing w ((w.alloc (.cells (madeCells #[.int .i64 0] ts.length) 3)).alloc (.map #[] 0)) wb base w.heap.size (w.heap.size + 1) H Z S v ts 0 := by
  have hrow := ((Upd.refl [] (w.alloc (.cells (madeCells #[.int .i64 0] ts.length) 3))).alloc (.map #[] 0)).ownsRow (zeros_own w w.heap.size ts.length (Nat.le_refl _) (by unfold maxLen; omega)) (fun _ _ => by simp)
  have hmap := IMapIs.new (w.alloc (.cells (madeCells #[.int .i64 0] ts.length) 3))
  have e1 : (w.alloc (.cells (madeCells #[.int .i64 0] ts.length) 3)).heap.size = w.heap.size + 1 := by simp
  rw [e1] at hmap
  have e2 : seenF (clsTo S ts 0) = fun _ => none := by funext d; simp [seenF, clsTo]
  exact ⟨h.later U1 (fun _ _ => by simp), ht.later U1 (fun k hk => by cases hk), hrow, by rw [e2]; exact hmap, U1, by omega, by omega⟩
 obtain ⟨g, cap, hv, hcap, hcm, hgb, hgl, hcells⟩ := ht.ex
 have HvW : Hid (∀ g, v.ownBlock = some g → g < w.heap.size) := fun k hk => by
  rw [hv] at hk
  simp only [own_slice, Option.some.injEq] at hk
  subst hk
  exact hgl
 have HZ := hide hZ
 have hlI : (ts.length : Int) ≤ 1000 := by omega
 have hnN : ts.length ≤ 1000 := by omega
 subst hv
 unfold maxLen at hcm
 have hcl := hI.len
 have hle1 : ts.length ≤ S.classes.length := by omega
 have hle2 : S.classes.length ≤ ts.length := by omega
 clear h ht hcells U1 hcl hlen hn
 go_enter Tryz.func82, Tryz.ntmps82
 go_wp2
 generalize (w.alloc (.cells (madeCells #[.int .i64 0] ts.length) 3)).alloc (.map #[] 0) = W1 at hstart ⊢
 clear hmk hmm
 go_loopw [18] (fun i wr => ∃ j : Nat, j ≤ ts.length ∧ i = .int .i64 j ∧ Hid (Placing w wr wb base w.heap.size (w.heap.size + 1) H Z S (.slice (some ⟨g, 0, none⟩) ts.length cap) ts j)) (fun i _ => ts.length - (intOf i).toNat)
 case atStart => exact ⟨0, Nat.zero_le _, rfl, hstart⟩
 case round =>
  obtain ⟨j, hj, rfl, HP⟩ := hrel
  clear hstart
  by_cases hjn : j < ts.length
  ·have hjn' : (j : Int) < (ts.length : Int) := by omega
   obtain ⟨t, htj⟩ : ∃ t, ts[j]? = some t := ⟨_, List.getElem?_eq_getElem hjn⟩
   have htm : t ∈ ts := List.mem_of_getElem? htj
   have ht2 := hnum t htm
   obtain ⟨g', cap', hv', _, _, _, hgl', hc'⟩ := HP.out.texts.ex
   cases hv'
   obtain ⟨k0, k1⟩ := hc' j t htj
   obtain ⟨W, hW⟩ : ∃ W, W = wr.alloc (.cells #[.string t.1, .int .i64 t.2] 147) := ⟨_, rfl⟩
   have UW : Upd [] wr W := hW ▸ (Upd.refl [] wr).alloc _
   have b1 : W.cell? ⟨wr.heap.size, 1, none⟩ = some (.int .i64 t.2) := by rw [hW]; go_simp
   have web := HP.out.web.later UW (fun _ _ => by simp)
   obtain ⟨gc, capc, hcc, hcc1, hcc2⟩ : ∃ g cap, H.classes = .slice (some ⟨g, 0, none⟩) S.classes.length cap ∧ S.classes.length ≤ cap ∧ cap ≤ maxLen := by
    rcases ownsRow_slice web.rc with ⟨_, h0⟩ | hh
    ·omega
    ·exact hh
   have hrc := web.rc
   rw [hcc] at hrc
   have hcell := row1_cell hrc (i := t.2) (by omega)
   have c3 := web.c3
   rw [hcc] at c3
   have hclt : S.classes.getD t.2 0 = classAt S t.2 := rfl
   rw [hclt] at hcell
   have hcls : classAt S t.2 < S.classes.length := hI.class_lt _ (by omega)
   have ht2c : (t.2 : Int) < (S.classes.length : Int) := by omega
   have ht2p : (t.2 : Int) < (ts.length : Int) := by omega
   have hmap := HP.out.map.later UW (by simp)
   have hrowP := UW.ownsRow HP.out.row (fun _ _ => by simp)
   have hpc := row1_cell hrowP (i := t.2) (by rw [placesTo_length]; exact ht2)
   have hpf := hrowP.frozenAt t.2
   have hlook : ∀ nq, (Instr.lookup 188 (.map (some (w.heap.size + 1))) (.int .i64 (classAt S t.2)) true).run Tryz.prog (W.drewN nq) = .ok (.tuple #[.int .i64 ((seenF (clsTo S ts j) (classAt S t.2)).getD 0 : Nat), .bool (seenF (clsTo S ts j) (classAt S t.2)).isSome]) (W.drewN nq) :=
    fun nq => (hmap.later ((Upd.refl [] W).drewN nq) (by simp)).look _ (by omega)
   have hsucc := clsTo_succ (S := S) htj
   by_cases hin : classAt S t.2 ∈ clsTo S ts j
   ·obtain ⟨p1, p2⟩ := seen_old hin
    have hs1 : seenF (clsTo S ts j) (classAt S t.2) = some (placeIn (clsTo S ts j) (classAt S t.2)) := by unfold seenF; rw [if_pos hin]
    rw [hs1] at hlook
    simp only [Option.getD_some, Option.isSome_some] at hlook
    have Hmap2 : Hid (IMapIs W (w.heap.size + 1) (firstsOf (clsTo S ts (j + 1))).length (seenF (clsTo S ts (j + 1)))) := by
     show IMapIs _ _ _ _
     rw [hsucc, p2, idx_old hin]
     exact hmap
    have Hpl : Hid (placeIn (clsTo S ts j) (classAt S t.2) = placeIn (clsTo S ts (j + 1)) (classAt S t.2)) := by show _ = _; rw [hsucc, p1]
    have Hnext : Hid (∀ nq, Placing w ((W.drewN nq).setCell ⟨w.heap.size, t.2, none⟩ (.int .i64 (placeIn (clsTo S ts j) (classAt S t.2)))) wb base w.heap.size (w.heap.size + 1) H Z S (.slice (some ⟨g, 0, none⟩) ts.length cap) ts (j + 1)) := fun nq =>
     HP.out.next HZ.out HvW.out htj (W := W.drewN nq) (by rw [hW]) (Upd.refl _ _) Hpl.out (Hmap2.out.later ((Upd.refl [] W).drewN nq) (by simp))
    generalize placeIn (clsTo S ts j) (classAt S t.2) = place at *
    generalize classAt S t.2 = c at *
    have HW := hide hW
    clear hin p1 p2 hs1 hmap hrowP hsucc Hmap2 Hpl hrc web hnum htj htm hc' HP hW hclt hcc
    go_wp2
    rw [← HW.out]
    go_quiet (fail)
    go_wp2
    exact ⟨⟨j + 1, by omega, by go_num, Hnext.out _⟩, by simp [intOf]; omega⟩
   ·obtain ⟨p1, p2, p3⟩ := seen_new hin
    have hs1 : seenF (clsTo S ts j) (classAt S t.2) = none := by unfold seenF; rw [if_neg hin]
    rw [hs1] at hlook
    simp only [Option.getD_none, Option.isSome_none] at hlook
    have hfl : (firstsOf (clsTo S ts j)).length ≤ 1000 := by
     have h1 := firsts_length (clsTo S ts j)
     have h2 : (clsTo S ts j).length ≤ ts.length := by unfold clsTo; simp; omega
     omega
    have hlenm : ∀ nq ty, (Builtin.len_ #[188] ty #[.map (some (w.heap.size + 1))]).run Tryz.prog (W.drewN nq) = .ok (.int .i64 ((firstsOf (clsTo S ts j)).length : Int)) (W.drewN nq) := fun nq ty => (hmap.later ((Upd.refl [] W).drewN nq) (by simp)).len ty
    obtain ⟨f, hput⟩ := Classical.axiomOfChoice (fun nq => (hmap.later ((Upd.refl [] W).drewN nq) (by simp)).put (classAt S t.2) (by omega) (firstsOf (clsTo S ts j)).length (by omega) (by unfold maxLen; omega) hs1)
    have hrun : ∀ nq, (Instr.mapUpdate 188 (.map (some (w.heap.size + 1))) (.int .i64 (classAt S t.2)) (.int .i64 ((firstsOf (clsTo S ts j)).length : Int))).run Tryz.prog (W.drewN nq) = .ok () (f nq) := fun nq => (hput nq).1
    have hUf : ∀ nq, Upd [w.heap.size + 1] (W.drewN nq) (f nq) := fun nq => mapTurned_upd (hput nq).2.2
    have Hnext : Hid (∀ nq, Placing w ((f nq).setCell ⟨w.heap.size, t.2, none⟩ (.int .i64 ((firstsOf (clsTo S ts j)).length : Nat))) wb base w.heap.size (w.heap.size + 1) H Z S (.slice (some ⟨g, 0, none⟩) ts.length cap) ts (j + 1)) := fun nq =>
     HP.out.next HZ.out HvW.out htj (W := W.drewN nq) (by rw [hW]) (hUf nq) (by rw [hsucc, p1]) (by
      rw [hsucc, p2, p3]
      exact (hput nq).2.1)
    have hWl : wr.heap.size < W.heap.size := by rw [hW]; simp
    have hsz := HP.out.upd.size
    have hfl2 : w.heap.size < W.heap.size := by omega
    have b1f : ∀ nq, (f nq).cell? ⟨wr.heap.size, 1, none⟩ = some (.int .i64 t.2) := fun nq => ((hUf nq).cell (p := ⟨wr.heap.size, 1, none⟩) hWl (by
     have := HP.out.map.lt
     simp; omega)).trans b1
    have hpcf : ∀ nq, (f nq).cell? ⟨w.heap.size, t.2, none⟩ = some (.int .i64 ((placesTo S ts j).getD t.2 0)) := fun nq => ((hUf nq).cell (p := ⟨w.heap.size, t.2, none⟩) hfl2 (by simp)).trans hpc
    have hpff : ∀ nq, (f nq).frozen? ⟨w.heap.size, t.2, none⟩ = false := fun nq => ((hUf nq).frozen (p := ⟨w.heap.size, t.2, none⟩) hfl2 (by simp)).trans hpf
    generalize (firstsOf (clsTo S ts j)).length = q at *
    generalize classAt S t.2 = c at *
    have HW := hide hW
    clear hin p1 p2 p3 hs1 hmap hrowP hsucc hrc web hnum htj htm hc' HP hW hclt hcc hput hUf hpc hpf
    go_wp2
    rw [← HW.out]
    go_quiet (fail)
    go_wp2
    exact ⟨⟨j + 1, by omega, by go_num, Hnext.out _⟩, by simp [intOf]; omega⟩
  ·obtain rfl : j = ts.length := by omega
   have hge : ¬ ((ts.length : Nat) : Int) < (ts.length : Int) := by omega
   clear hnum
   go_wp2
   go_ret
   exact ⟨_, rfl, HP.out.upd, HP.out.row⟩
end Go.Proofs.YtmfkpllnmmfpiaaGreatDoor

namespace Go.Proofs.YtmfkpllnmmfpiaaGreatDoor
open Go.RowKit
def partsL (s : Sh) : List Nat := (List.range s.2.1).map (partAt s)
def termTm (S : WS) : (f : Nat) → Nat → Tm (f + 2)
 | 0, i => Tm.mk (shapeAt S i).1 0 ((partsL (shapeAt S i)).map fun _ => (Tm.mk ⟨#[]⟩ 0 [] : Tm 1))
 | f + 1, i => Tm.mk (shapeAt S i).1 0 ((partsL (shapeAt S i)).map (termTm S f))
theorem own_geT {w : World} {base e size n k : Nat} {v : Value} {xs : List Value} (h : w.ownsRow base e size v n xs) (hk : v.ownBlock = some k) : base ≤ k := by
 rcases h.2 with ⟨hv, _⟩ | ⟨g, cap, cur, hv, hg, _⟩
 ·rw [hv] at hk; simp [Value.ownBlock] at hk
 ·rw [hv] at hk
  simp only [own_slice, Option.some.injEq] at hk
  subst hk
  exact hg
structure Terming (w wr : World) (s : Sh) (n : Nat) (g : Nat → Tm n) (v : Value) (j : Nat) : Prop where
 box : BoxSh wr (w.heap.size + 1) s
 r0 : ∀ o, o < 3 → ∃ u, wr.cell? ⟨w.heap.size, o, none⟩ = some u
 rf : ∀ o, wr.frozen? ⟨w.heap.size, o, none⟩ = false
 t0 : wr.cell? ⟨w.heap.size + 2, 0, none⟩ = some (.string s.1)
 t1 : wr.cell? ⟨w.heap.size + 2, 1, none⟩ = some (.int .i64 0)
 t2 : wr.cell? ⟨w.heap.size + 2, 2, none⟩ = some v
 tf : ∀ o, wr.frozen? ⟨w.heap.size + 2, o, none⟩ = false
 row : ∃ cs : List V3, wr.ownsRow (w.heap.size + 3) 98 3 v j (flat3 cs) ∧ AllIs (IsTm wr (fun k => w.heap.size + 3 ≤ k ∧ v.ownBlock ≠ some k) n) cs (((partsL s).take j).map g)
 upd : Upd [] w wr
 size : w.heap.size + 3 ≤ wr.heap.size
theorem Terming.next {w wr w2 w3 : World} {s : Sh} {n j g' cap : Nat} {g : Nat → Tm n} {v : Value} {cs : List V3} {c : V3} {X : Obj} {k : Nat} (h : Terming w wr s n g v j) (hk : (partsL s)[j]? = some k) (hrow : wr.ownsRow (w.heap.size + 3) 98 3 v j (flat3 cs)) (hall : AllIs (IsTm wr (fun k => w.heap.size + 3 ≤ k ∧ v.ownBlock ≠ some k) n) cs (((partsL s).take j).map g))
  (hu2 : Upd [] wr w2) (hc : IsTm w2 (fun k => wr.heap.size ≤ k) n c (g k))
  (hown : w3.ownsRow (w.heap.size + 3) 98 3 (.slice (some ⟨g', 0, none⟩) (j + 1) cap) (j + 1) (flat3 cs ++ [c.1, c.2.1, c.2.2])) (hgrow : (w2.alloc X).grownBy w3 v.ownBlock) (hat : v.ownBlock = some g' ∨ g' = (w2.alloc X).heap.size) :
  Terming w (w3.setCell ⟨w.heap.size + 2, 2, none⟩ (.slice (some ⟨g', 0, none⟩) (j + 1) cap)) s n g (.slice (some ⟨g', 0, none⟩) (j + 1) cap) (j + 1) := by
 have hsz := h.size
 have hge : ∀ q, v.ownBlock = some q → w.heap.size + 3 ≤ q ∧ q < wr.heap.size := fun q hq => ⟨by
  rcases hrow.2 with ⟨hv, _⟩ | ⟨g, cap, cur, hv, hg, _⟩
  ·rw [hv] at hq; simp [Value.ownBlock] at hq
  ·rw [hv] at hq; cases hq; exact hg, ownsRow_lt hrow hq⟩
 have U1 : Upd v.ownBlock.toList w2 w3 := ((Upd.refl v.ownBlock.toList w2).alloc X).trans (Upd.of_grown hgrow)
 have U : Upd v.ownBlock.toList wr w3 := (hu2.mono (fun x hx _ => by cases hx)).trans U1
 have no : ∀ q, q < w.heap.size + 3 → q ∉ v.ownBlock.toList := fun q hq hm => by
  have := hge q (by simpa using hm)
  omega
 have hg3 : w.heap.size + 3 ≤ g' := by
  rcases hown.2 with ⟨hv, _⟩ | ⟨g, cap, cur, hv, hg, _⟩
  ·cases hv
  ·cases hv; exact hg
 have US : Upd [w.heap.size + 2] w3 (w3.setCell ⟨w.heap.size + 2, 2, none⟩ (.slice (some ⟨g', 0, none⟩) (j + 1) cap)) := (Upd.refl _ w3).setCell (by simp) _
 have h3l : w.heap.size + 2 < w3.heap.size := by have := U.size; omega
 have a0 := (U.cell (p := ⟨w.heap.size + 2, 0, none⟩) (by show w.heap.size + 2 < _; omega) (no (w.heap.size + 2) (by omega))).trans h.t0
 have a1 := (U.cell (p := ⟨w.heap.size + 2, 1, none⟩) (by show w.heap.size + 2 < _; omega) (no (w.heap.size + 2) (by omega))).trans h.t1
 have a2 := (U.cell (p := ⟨w.heap.size + 2, 2, none⟩) (by show w.heap.size + 2 < _; omega) (no (w.heap.size + 2) (by omega))).trans h.t2
 refine ⟨(h.box.later U (no _ (by omega))).later US (by simp), fun o ho => ?_, fun o => ?_, by go_simp, by go_simp, by go_simp, fun o => ?_, ⟨cs ++ [c], ?_, ?_⟩, ?_, ?_⟩
 ·obtain ⟨u, hu⟩ := h.r0 o ho
  exact ⟨u, ((US.cell (p := ⟨w.heap.size, o, none⟩) (by show w.heap.size < _; omega) (by simp)).trans ((U.cell (p := ⟨w.heap.size, o, none⟩) (by show w.heap.size < _; omega) (no w.heap.size (by omega))).trans hu))⟩
 ·exact (US.frozen (p := ⟨w.heap.size, o, none⟩) (by show w.heap.size < _; omega) (by simp)).trans ((U.frozen (p := ⟨w.heap.size, o, none⟩) (by show w.heap.size < _; omega) (no w.heap.size (by omega))).trans (h.rf o))
 ·rw [World.frozen?_setCell]
  exact (U.frozen (p := ⟨w.heap.size + 2, o, none⟩) (by show w.heap.size + 2 < _; omega) (no (w.heap.size + 2) (by omega))).trans (h.tf o)
 ·rw [flat3_append]
  exact US.ownsRow hown (fun q hq hm => by simp only [own_slice, Option.some.injEq] at hq; simp only [List.mem_singleton] at hm; omega)
 ·have hlt := (List.getElem?_eq_some_iff.1 hk).1
  rw [List.getElem?_eq_getElem hlt] at hk
  rw [List.take_succ_eq_append_getElem hlt, Option.some.inj hk, List.map_append]
  have hz2 := hu2.size
  have hfr : ∀ q, (w.heap.size + 3 ≤ q ∧ v.ownBlock ≠ some q) ∧ q < wr.heap.size → w.heap.size + 3 ≤ q ∧ (Value.slice (some ⟨g', 0, none⟩) (j + 1) cap).ownBlock ≠ some q := fun q hq => ⟨hq.1.1, fun e => by
   simp only [own_slice, Option.some.injEq] at e
   subst e
   rcases hat with hat | hat
   ·exact hq.1.2 hat
   ·simp at hat; omega⟩
  refine AllIs.snoc ?_ ?_
  ·have h1 : IsTm w2 (fun k => wr.heap.size ≤ k ∧ k < w2.heap.size) n c (g k) := hc.mono fun q hq hl => ⟨hq, hl⟩
   have h2 := h1.later U1 (fun q hq hm => by have := hge q (by simpa using hm); omega)
   refine (h2.later US (fun q hq hm => by simp only [List.mem_singleton] at hm; omega)).mono (fun q hq _ => ⟨by omega, fun e => ?_⟩)
   simp only [own_slice, Option.some.injEq] at e
   subst e
   rcases hat with hat | hat
   ·have := hge _ hat; omega
   ·simp at hat; omega
  ·refine hall.mono fun a b hab => ?_
   have h1 : IsTm wr (fun k => (w.heap.size + 3 ≤ k ∧ v.ownBlock ≠ some k) ∧ k < wr.heap.size) n a b := hab.mono fun q hq hl => ⟨hq, hl⟩
   have h2 := h1.later U (fun q hq hm => hq.1.2 (by simpa using hm))
   exact (h2.later US (fun q hq hm => by simp only [List.mem_singleton] at hm; omega)).mono (fun q hq _ => hfr q hq)
 ·refine (h.upd.trans' U (fun x hx hl => ?_)).setCell (.inr (by show w.heap.size ≤ w.heap.size + 2; omega)) _
  have := hge x (by simpa using hx)
  omega
 ·have := U.size
  simp [World.setCell]
  omega
theorem partsL_get {s : Sh} {q : Nat} (h : q < s.2.1) : (partsL s)[q]? = some (partAt s q) := by
 unfold partsL
 rw [List.getElem?_map, List.getElem?_range h]
 rfl
theorem partsL_length (s : Sh) : (partsL s).length = s.2.1 := by simp [partsL]
end Go.Proofs.YtmfkpllnmmfpiaaGreatDoor
