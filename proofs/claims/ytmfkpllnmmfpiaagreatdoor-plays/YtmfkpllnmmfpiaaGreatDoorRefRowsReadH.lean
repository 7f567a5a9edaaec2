/- RowWorld, RowsPlain, RefRowsLaw, RefRowsRead -/
import Derived.Test.YtmfkpllnmmfpiaaGreatDoorRowCompWalkH
import Derived.Test.YtmfkpllnmmfpiaaGreatDoorRefPosH
import Derived.Test.YtmfkpllnmmfpiaaGreatDoorTellH
import Derived.Test.YtmfkpllnmmfpiaaGreatDoorSortLayRH
namespace Go.Proofs.YtmfkpllnmmfpiaaGreatDoor
open Go.RowKit Go.Shelf Go.Sort
theorem cmpRow_zero {x y : RowP} : cmpRow x y = 0 ↔ keyR x = keyR y := by rw [cmpRow_key]; exact lin_key.eq _ _
theorem cmpRow_swap {x y : RowP} (h : ¬ cmpRow y x < 0) : cmpRow x y < 0 ∨ keyR x = keyR y := by
 rw [cmpRow_key] at h ⊢
 rcases lin_key.tot (keyR x) (keyR y) with h1 | h1 | h1
 ·exact .inl h1
 ·exact .inr h1
 ·exact absurd h1 h
theorem compTo_mem {ys : List RX} : ∀ {j : Nat} {x : RX}, x ∈ compTo ys j → ∃ i, i < j ∧ ys[i]? = some x
 | 0, x, h => by simp [compTo] at h
 | j + 1, x, h => by
  rw [compTo, List.mem_append] at h
  rcases h with h | h
  ·obtain ⟨i, hi, he⟩ := compTo_mem h
   exact ⟨i, by omega, he⟩
  ·split at h
   ·exact ⟨j, by omega, by simpa using h⟩
   ·simp at h
theorem compTo_mono {ys : List RX} {x : RX} : ∀ {j k : Nat}, j ≤ k → x ∈ compTo ys j → x ∈ compTo ys k
 | j, 0, h, hx => by obtain rfl : j = 0 := (by omega); exact hx
 | j, k + 1, h, hx => by
  by_cases e : j = k + 1
  ·subst e; exact hx
  ·rw [compTo]
   exact List.mem_append_left _ (compTo_mono (by omega) hx)
theorem compTo_has {ys : List RX} : ∀ (i : Nat) (y : RX), ys[i]? = some y → ∃ x ∈ compTo ys (i + 1), keyR x.1 = keyR y.1
 | 0, y, h => ⟨y, by rw [compTo_keep h rfl]; simp, rfl⟩
 | i + 1, y, h => by
  have hl := (List.getElem?_eq_some_iff.1 h).1
  obtain ⟨p, hp⟩ : ∃ p, ys[i]? = some p := ⟨_, List.getElem?_eq_getElem (by omega)⟩
  have hk := keepsR_is h hp
  by_cases e : cmpRow y.1 p.1 = 0
  ·obtain ⟨x, hx, hxe⟩ := compTo_has i p hp
   exact ⟨x, compTo_mono (by omega) hx, hxe.trans (cmpRow_zero.1 e).symm⟩
  ·exact ⟨y, by rw [compTo_keep h (by rw [hk]; simpa using e)]; simp, rfl⟩
theorem compTo_strict {ys : List RX} (hs : ys.Pairwise (fun x y => ¬ cmpRow y.1 x.1 < 0)) : ∀ j, j ≤ ys.length → (compTo ys j).Pairwise (fun x y => cmpRow x.1 y.1 < 0)
 | 0, _ => List.Pairwise.nil
 | j + 1, hj => by
  obtain ⟨y, hy⟩ : ∃ y, ys[j]? = some y := ⟨_, List.getElem?_eq_getElem (by omega)⟩
  have ih := compTo_strict hs j (by omega)
  by_cases hk : keepsR ys j = true
  ·rw [compTo_keep hy hk, List.pairwise_append]
   refine ⟨ih, List.pairwise_singleton _ _, fun x hx z hz => ?_⟩
   simp only [List.mem_singleton] at hz
   subst hz
   obtain ⟨i, hi, hxi⟩ := compTo_mem hx
   have get : ∀ (a b : Nat) (x y : RX), ys[a]? = some x → ys[b]? = some y → a < b → ¬ cmpRow y.1 x.1 < 0 := fun a b x y ha hb hab => by
    obtain ⟨la, ea⟩ := List.getElem?_eq_some_iff.1 ha
    obtain ⟨lb, eb⟩ := List.getElem?_eq_some_iff.1 hb
    have := List.pairwise_iff_getElem.1 hs a b la lb hab
    rw [ea, eb] at this
    exact this
   match j, hi with
   | j + 1, hi =>
    obtain ⟨p, hp⟩ : ∃ p, ys[j]? = some p := ⟨_, List.getElem?_eq_getElem (by omega)⟩
    rw [keepsR_is hy hp] at hk
    have hne : cmpRow z.1 p.1 ≠ 0 := by simpa using hk
    have hpz : cmpRow p.1 z.1 < 0 := by
     rcases cmpRow_swap (get j (j + 1) p z hp hy (by omega)) with h | h
     ·exact h
     ·exact absurd (cmpRow_zero.2 h.symm) hne
    by_cases e : i = j
    ·subst e
     rw [hxi] at hp
     cases hp
     exact hpz
    ·rcases cmpRow_swap (get i j x p hxi hp (by omega)) with h | h
     ·rw [cmpRow_key] at *
      exact lin_key.tr _ _ _ h hpz
     ·rw [cmpRow_key] at *
      rw [h]
      exact hpz
  ·rw [compTo_drop (by simpa using hk)]
   exact ih
structure WorldIs (S : WS) (rs : List RowP) : Prop where
 strict : rs.Pairwise (fun x y => cmpRow x y < 0)
 sub : ∀ r ∈ rs, r ∈ rowsTo S (placesOf S) S.shapes.length
 has : ∀ r ∈ rowsTo S (placesOf S) S.shapes.length, ∃ r' ∈ rs, keyR r' = keyR r
def ApartR (x y : RX) : Prop := ∀ k, x.2.ownBlock = some k → y.2.ownBlock ≠ some k
theorem ApartR.symm {x y : RX} (h : ApartR x y) : ApartR y x := fun k h1 h2 => h k h2 h1
theorem compTo_sub {ys : List RX} : ∀ j, j ≤ ys.length → (compTo ys j).Sublist (ys.take j)
 | 0, _ => by simp [compTo]
 | j + 1, hj => by
  have ih := compTo_sub (ys := ys) j (by omega)
  obtain ⟨y, hy⟩ : ∃ y, ys[j]? = some y := ⟨_, List.getElem?_eq_getElem (by omega)⟩
  have ht : ys.take (j + 1) = ys.take j ++ [y] := by rw [List.take_add_one, hy]; rfl
  rw [ht]
  by_cases hk : keepsR ys j = true
  ·rw [compTo_keep hy hk]
   exact ih.append (List.Sublist.refl _)
  ·rw [compTo_drop (by simpa using hk)]
   exact ih.trans (List.sublist_append_left _ _)
structure WorldAt (w w' : World) (v : Value) (xs : List RX) : Prop where
 sl : ∃ g cap, v = .slice (some ⟨g, 0, none⟩) xs.length cap ∧ xs.length ≤ cap ∧ cap ≤ maxLen ∧ w.heap.size ≤ g ∧ RowsAt w' g xs
 args : ∀ x ∈ xs, IntsAt w' x.2 x.1.args
 own : ∀ x ∈ xs, w'.ownsRow w.heap.size 3 1 x.2 x.1.args.length (intsOf x.1.args)
 apart : xs.Pairwise ApartR
theorem webWorldIs_any (w : World) (wb : Nat) (H : Hd) (Z : Nat → Prop) (S : WS) (h : WebAt w wb H Z S) (hB : Base S) (hZ : ∀ k, Z k → k < w.heap.size) (hn : S.shapes.length ≤ 1000) (hsm : ∀ g j, (plainF S g j).length ≤ 1000) :
  Calls Tryz.prog 46 #[.pointer (some ⟨wb, 0, none⟩)] w fun e w' => ∃ v xs, e = .returned v ∧ Upd [] w w' ∧ WorldAt w w' v xs ∧ WorldIs S (xs.map (·.1)) := by
 have key := webWorld_any w wb H Z S h hB hZ hn hsm
  (fun wr v w' => ∃ g cap ys, v = .slice (some ⟨g, 0, none⟩) S.shapes.length cap ∧ S.shapes.length ≤ cap ∧ cap ≤ maxLen ∧ w.heap.size ≤ g ∧ Upd [] w wr ∧ ys.length = S.shapes.length ∧ (ys.map (·.1)).Perm (rowsTo S (placesOf S) S.shapes.length) ∧ ys.Pairwise (fun x y => ¬ cmpRow y.1 x.1 < 0) ∧ RowsAt w' g ys ∧ Upd [g] wr w' ∧ (∀ x ∈ ys, IntsAt w' x.2 x.1.args ∧ x.2.ownBlock ≠ some g) ∧ (∀ x ∈ ys, w'.ownsRow w.heap.size 3 1 x.2 x.1.args.length (intsOf x.1.args)) ∧ ys.Pairwise ApartR)
  (fun wr g cap hb => ?_)
  (fun _ v w' => ∃ xs, Upd [] w w' ∧ WorldAt w w' v xs ∧ WorldIs S (xs.map (·.1))) (fun wr w' v hr _ => ?_)
 ·refine key.mono ?_
  rintro e w' ⟨v, wr, rfl, xs, h1, h2, h3⟩
  exact ⟨v, xs, rfl, h1, h2, h3⟩
 ·obtain ⟨w3, xs, hu, hR, hx⟩ := hb
  have hl : xs.length = S.shapes.length := by have := congrArg List.length hx; simpa [rowsTo] using this
  have hge : w3.heap.size ≤ g := own_geT hR.row rfl
  rw [← hl] at hR
  have hcap : S.shapes.length ≤ cap ∧ cap ≤ maxLen := by
   rcases ownsRow_slice hR.row with ⟨h1, _⟩ | ⟨g', cap', h1, h2, h3⟩
   ·simp at h1
   ·cases h1
    exact ⟨by omega, h3⟩
  have hi : ∀ x ∈ xs, IntsAt wr x.2 x.1.args ∧ x.2.ownBlock ≠ some g := fun x hx => by
   obtain ⟨i, hi⟩ := List.getElem?_of_mem hx
   exact ⟨intsAt_of (hR.args i x hi), fun e => hR.out i x hi g e rfl⟩
  have ho : ∀ x ∈ xs, wr.ownsRow w.heap.size 3 1 x.2 x.1.args.length (intsOf x.1.args) := fun x hx => by
   obtain ⟨i, hi⟩ := List.getElem?_of_mem hx
   exact own_base (hR.args i x hi) hu.size
  have hap : xs.Pairwise ApartR := List.pairwise_iff_getElem.2 fun i j h1 h2 hij k hk => hR.sep i j _ _ (List.getElem?_eq_getElem h1) (List.getElem?_eq_getElem h2) (by omega) k hk
  rw [← hl]
  refine (sortRows_any w3 wr g cap xs hR (by omega)).mono ?_
  rintro e w' ⟨rfl, ys, hp, hs, ha, hu'⟩
  refine ⟨rfl, g, cap, ys, rfl, by omega, hcap.2, Nat.le_trans hu.size hge, hu.trans hR.upd, hp.length_eq, ?_, hs, ha, hu', fun x hx => ?_, fun x hx => ?_, (hp.pairwise_iff (fun h => h.symm)).2 hap⟩
  ·rw [hl, ← hx]; exact hp.map _
  ·obtain ⟨h1, h2⟩ := hi x (hp.mem_iff.1 hx)
   exact ⟨h1.later hu' (fun k hk hm => h2 (hk.trans (by simp at hm; rw [hm]))), h2⟩
  ·have hx' := hp.mem_iff.1 hx
   exact hu'.ownsRow (ho x hx') (fun k hk hm => (hi x hx').2 (hk.trans (by simp at hm; rw [hm])))
 ·obtain ⟨g, cap, ys, rfl, hc1, hc2, hg, hu, hl, hp, hs, ha, hu', hi, ho, hap⟩ := hr
  refine (compact_any w' g cap S.shapes.length ys ha hl hn hc1 hc2 hi).mono ?_
  rintro e w2 ⟨rfl, hr2, hu2⟩
  have hle := compTo_length_le ys S.shapes.length
  have hgU : Upd [] w w2 := hu.trans' (hu'.trans hu2) (fun x hx hlt => by simp at hx; omega)
  refine ⟨_, rfl, compTo ys S.shapes.length, hgU, ⟨⟨g, cap, rfl, by omega, hc2, hg, hr2⟩, fun x hx => ?_, fun x hx => ?_, hap.sublist ((compTo_sub _ (by omega)).trans (List.take_sublist _ _))⟩, ?_, fun r hr => ?_, fun r hr => ?_⟩
  ·obtain ⟨i, _, hxi⟩ := compTo_mem hx
   obtain ⟨h1, h2⟩ := hi x (List.mem_of_getElem? hxi)
   exact h1.later hu2 (fun k hk hm => h2 (hk.trans (by simp at hm; rw [hm])))
  ·obtain ⟨i, _, hxi⟩ := compTo_mem hx
   have hm := List.mem_of_getElem? hxi
   exact hu2.ownsRow (ho x hm) (fun k hk he => (hi x hm).2 (hk.trans (by simp at he; rw [he])))
  ·rw [List.pairwise_map]
   exact compTo_strict hs _ (by omega)
  ·obtain ⟨x, hx, rfl⟩ := List.mem_map.1 hr
   obtain ⟨i, _, hxi⟩ := compTo_mem hx
   exact hp.mem_iff.1 (List.mem_map_of_mem (List.mem_of_getElem? hxi))
  ·obtain ⟨y, hy, rfl⟩ := List.mem_map.1 (hp.mem_iff.2 hr)
   obtain ⟨i, hyi⟩ := List.getElem?_of_mem hy
   obtain ⟨x, hx, hxe⟩ := compTo_has i y hyi
   have hil := (List.getElem?_eq_some_iff.1 hyi).1
   exact ⟨x.1, List.mem_map_of_mem (compTo_mono (by omega) hx), hxe⟩
set_option maxHeartbeats 1000000 in
set_option maxRecDepth 100000 in
theorem bookWorld_clash (w : World) (bb : Nat) (Z : Nat → Prop) (S : WS) (h : BookAt w bb Z S) (hc : clashM S = true) :
  Calls Tryz.prog 15 #[.pointer (some ⟨bb, 0, none⟩)] w fun e w' => e = .returned (.tuple #[.slice none 0 0, .int .i64 6]) ∧ Upd [] w w' := by
 obtain ⟨wb, H, hc1, hw⟩ := h.ex
 have HCl := hide (closed_made bb w h.self)
 have HC := hide (webClash_any w wb H _ S hw h.fine.web.base.saidLt (by have := h.saids; omega))
 rw [hc] at HC
 clear h hw hc
 go_enter Tryz.func15, Tryz.ntmps15
 go_wp2_with (first
  | (go_at_call 44; refine HCl.out.mono ?_; rintro e w2 ⟨rfl, hw2⟩; rw [hw2]; clear hw2 w2)
  | (go_at_call 45; refine HC.out.mono ?_; rintro e w3 ⟨rfl, hu3⟩; have Hu3 := hide hu3; clear hu3))
 go_ret2
 exact ⟨rfl, Hu3.out⟩
set_option maxHeartbeats 1000000 in
set_option maxRecDepth 100000 in
theorem bookWorld_any (w : World) (bb : Nat) (Z : Nat → Prop) (S : WS) (h : BookAt w bb Z S) (ht : TextOK S) (hc : clashM S = false) :
  Calls Tryz.prog 15 #[.pointer (some ⟨bb, 0, none⟩)] w fun e w' => ∃ v xs, e = .returned (.tuple #[v, .int .i64 0]) ∧ Upd [] w w' ∧ WorldAt w w' v xs ∧ WorldIs S (xs.map (·.1)) := by
 obtain ⟨wb, H, hc1, hw⟩ := h.ex
 have HCl := hide (closed_made bb w h.self)
 have HC := hide (webClash_any w wb H _ S hw h.fine.web.base.saidLt (by have := h.saids; omega))
 rw [hc] at HC
 have HW := hide (fun (w1 : World) (hu : Upd [] w w1) => webWorldIs_any w1 wb H _ S (hw.later hu (fun _ _ => by simp)) h.fine.web.base (fun k hk => Nat.lt_of_lt_of_le (h.low k hk.1) hu.size) (by have := h.terms; omega) ht.short)
 have hblt := h.lt
 clear h hw hc
 go_enter Tryz.func15, Tryz.ntmps15
 go_wp2_with (first
  | (go_at_call 44; refine HCl.out.mono ?_; rintro e w2 ⟨rfl, hw2⟩; rw [hw2]; clear hw2 w2)
  | (go_at_call 45; refine HC.out.mono ?_; rintro e w3 ⟨rfl, hu3⟩; have k1 := (hu3.cell (p := ⟨bb, 1, none⟩) hblt (by simp)).trans hc1; have HW3 := hide (HW.out w3 hu3); have Hu3 := hide hu3; clear hu3)
  | (go_at_call 46; refine HW3.out.mono ?_; rintro e w4 ⟨v4, xs4, rfl, hu4, ha4, hi4⟩; have Hu4 := hide hu4; have Ha4 := hide ha4; have Hi4 := hide hi4; clear hu4 ha4 hi4))
 go_ret2
 refine ⟨v4, xs4, rfl, Hu3.out.trans Hu4.out, ⟨?_, Ha4.out.args, fun x hx => own_base (Ha4.out.own x hx) Hu3.out.size, Ha4.out.apart⟩, Hi4.out⟩
 obtain ⟨g, cap, e1, e2, e3, e4, e5⟩ := Ha4.out.sl
 exact ⟨g, cap, e1, e2, e3, Nat.le_trans Hu3.out.size e4, e5⟩
end Go.Proofs.YtmfkpllnmmfpiaaGreatDoor

namespace Go.Proofs.YtmfkpllnmmfpiaaGreatDoor
open Go.RowKit
noncomputable def isIn (t : ByteArray) (l : List ByteArray) : Bool := @decide (t ∈ l) (Classical.propDecidable _)
theorem isIn_iff {t : ByteArray} {l : List ByteArray} : isIn t l = true ↔ t ∈ l := @decide_eq_true_iff (t ∈ l) (Classical.propDecidable _)
noncomputable def ofP (ls : List (List ByteArray)) (t : ByteArray) : Nat := ls.findIdx (isIn t)
theorem ofP_is {ls : List (List ByteArray)} {t : ByteArray} (h : ∃ l ∈ ls, t ∈ l) : ∃ l, ls[ofP ls t]? = some l ∧ t ∈ l ∧ ∀ i' l', i' < ofP ls t → ls[i']? = some l' → t ∉ l' := by
 obtain ⟨l, hl, ht⟩ := h
 have hlt : ofP ls t < ls.length := List.findIdx_lt_length_of_exists ⟨l, hl, isIn_iff.2 ht⟩
 refine ⟨ls[ofP ls t], List.getElem?_eq_getElem hlt, ?_, fun i' l' hi hl' hm => ?_⟩
 ·exact isIn_iff.1 (List.findIdx_getElem (xs := ls) (p := isIn t) (w := hlt))
 ·have := List.not_of_lt_findIdx (xs := ls) (p := isIn t) hi
  obtain ⟨hb, e⟩ := List.getElem?_eq_some_iff.1 hl'
  rw [e, isIn_iff.2 hm] at this
  simp at this
theorem ofP_unique {ls : List (List ByteArray)} {t : ByteArray} {i : Nat} {l : List ByteArray} (hi : ls[i]? = some l) (ht : t ∈ l) (hu : ∀ j l', ls[j]? = some l' → t ∈ l' → j = i) : ofP ls t = i := by
 obtain ⟨m, h1, h2, _⟩ := ofP_is ⟨l, List.mem_of_getElem? hi, ht⟩
 exact hu _ m h1 h2
noncomputable def rowT (ls : List (List ByteArray)) : Trm → RowP
 | .node nm ps => ⟨nm, ps.map fun p => ofP ls p.text, ofP ls (Trm.node nm ps).text⟩
theorem nodup_idx {l : List Nat} (h : l.Nodup) {j c : Nat} (hj : l[j]? = some c) : l.idxOf c = j := by
 have hm := List.mem_of_getElem? hj
 have hlt := List.idxOf_lt_length_iff.2 hm
 have h1 : l[l.idxOf c]? = some c := by rw [List.getElem?_eq_getElem hlt, List.getElem_idxOf hlt]
 exact nodup_at h h1 hj
theorem placesTo_at {S : WS} {ts : List TN} (hnd : (ts.map (·.2)).Nodup) (hlt : ∀ t ∈ ts, t.2 < ts.length) : ∀ (i p : Nat) (t : TN), i ≤ ts.length → p < i → ts[p]? = some t → (placesTo S ts i).getD t.2 0 = placeIn (clsTo S ts i) (classAt S t.2)
 | 0, p, t, _, hp, _ => by omega
 | i + 1, p, t, hi, hp, ht => by
  obtain ⟨u, hu⟩ : ∃ u, ts[i]? = some u := ⟨_, List.getElem?_eq_getElem (by omega)⟩
  rw [placesTo_succ hu, clsTo_succ hu]
  have hul := hlt u (List.mem_of_getElem? hu)
  by_cases e : p = i
  ·subst e
   rw [ht] at hu
   cases hu
   rw [List.getD_eq_getElem?_getD, List.getElem?_set_self (by rw [placesTo_length]; exact hul)]
   rfl
  ·have hne : u.2 ≠ t.2 := fun e2 => e (nodup_at hnd (x := t.2) (by rw [List.getElem?_map, ht]; rfl) (by rw [List.getElem?_map, hu]; simp [e2]))
   rw [List.getD_eq_getElem?_getD, List.getElem?_set_ne hne, ← List.getD_eq_getElem?_getD, placesTo_at hnd hlt i p t (by omega) (by omega) ht]
   have hc : classAt S t.2 ∈ clsTo S ts i := by
    unfold clsTo
    exact List.mem_map.2 ⟨t, List.mem_of_getElem? (i := p) (by rw [List.getElem?_take_of_lt (by omega)]; exact ht), rfl⟩
   exact (idx_prefix _ _ hc).symm
theorem sortedT_mem (S : WS) (t : TN) : t ∈ sortedT S ↔ t.2 < S.shapes.length ∧ t.1 = plainT S t.2 := by
 rw [(sortedT_permL S).mem_iff]
 unfold textsTo
 simp only [List.mem_map, List.mem_range]
 constructor
 ·rintro ⟨q, hq, rfl⟩
  exact ⟨hq, rfl⟩
 ·rintro ⟨h1, h2⟩
  exact ⟨t.2, h1, by rw [← h2]⟩
def allCls (S : WS) : List Nat := clsTo S (sortedT S) (sortedT S).length
theorem allCls_has {S : WS} {i : Nat} (hi : i < S.shapes.length) : classAt S i ∈ allCls S := by
 unfold allCls clsTo
 rw [List.take_of_length_le (Nat.le_refl _)]
 exact List.mem_map.2 ⟨(plainT S i, i), (sortedT_mem S _).2 ⟨hi, rfl⟩, rfl⟩
theorem placesOf_at {S : WS} {i : Nat} (hi : i < S.shapes.length) : (placesOf S).getD i 0 = placeIn (allCls S) (classAt S i) := by
 obtain ⟨p, hp⟩ := List.getElem?_of_mem ((sortedT_mem S (plainT S i, i)).2 ⟨hi, rfl⟩)
 have := placesTo_at (sortedT_nums S).1 (sortedT_nums S).2 (sortedT S).length p _ (Nat.le_refl _) (List.getElem?_eq_some_iff.1 hp).1 hp (S := S)
 exact this
theorem ofP_place {S : WS} (hd : ∀ i j, i < S.shapes.length → j < S.shapes.length → plainT S i = plainT S j → i = j) {i : Nat} (hi : i < S.shapes.length) : ofP (classesOf S) (plainT S i) = placeIn (allCls S) (classAt S i) := by
 have hmem : ∀ c y, y ∈ ofClass S (sortedT S) (sortedT S).length c ↔ ∃ i, i < S.shapes.length ∧ plainT S i = y ∧ classAt S i = c := fun c y => by
  unfold ofClass
  rw [List.take_of_length_le (Nat.le_refl _)]
  constructor
  ·intro h
   obtain ⟨t, h1, h2⟩ := List.mem_map.1 h
   obtain ⟨h3, h4⟩ := List.mem_filter.1 h1
   obtain ⟨a, b⟩ := (sortedT_mem S t).1 h3
   exact ⟨t.2, a, by rw [← b]; exact h2, by simpa using h4⟩
  ·rintro ⟨q, h1, h2, h3⟩
   exact List.mem_map.2 ⟨(plainT S q, q), List.mem_filter.2 ⟨(sortedT_mem S _).2 ⟨h1, rfl⟩, by simpa using h3⟩, h2⟩
 have hc := allCls_has hi
 have hlt := idx_lt _ hc
 have hg : (firstsOf (allCls S))[(firstsOf (allCls S)).idxOf (classAt S i)]? = some (classAt S i) := by rw [List.getElem?_eq_getElem hlt, List.getElem_idxOf hlt]
 refine ofP_unique (l := ofClass S (sortedT S) (sortedT S).length (classAt S i)) ?_ ((hmem _ _).2 ⟨i, hi, rfl, rfl⟩) fun j l' hj hm => ?_
 ·unfold classesOf listsTo
  rw [List.getElem?_map]
  show Option.map _ ((firstsOf (allCls S))[(firstsOf (allCls S)).idxOf (classAt S i)]?) = _
  rw [hg]
  rfl
 ·unfold classesOf listsTo at hj
  rw [List.getElem?_map] at hj
  obtain ⟨c, h1, rfl⟩ := Option.map_eq_some_iff.1 hj
  obtain ⟨q, q1, q2, q3⟩ := (hmem c _).1 hm
  have := hd q i q1 hi q2
  subst this
  subst q3
  exact (nodup_idx (firsts_nodup (allCls S)) h1).symm
theorem place_inj {S : WS} {i j : Nat} (hi : i < S.shapes.length) (hj : j < S.shapes.length) (h : placeIn (allCls S) (classAt S i) = placeIn (allCls S) (classAt S j)) : classAt S i = classAt S j := by
 have h1 := idx_lt _ (allCls_has hi)
 have h2 := idx_lt _ (allCls_has hj)
 have e1 := List.getElem_idxOf h1
 have e2 := List.getElem_idxOf h2
 unfold placeIn at h
 rw [← e1, ← e2]
 congr 1
theorem partsL_shapeOf {nm : ByteArray} {ks : List Nat} (h : ks.length ≤ 3) : partsL (shapeOf nm ks) = ks := by
 match ks, h with
 | [], _ => rfl
 | [a], _ => rfl
 | [a, b], _ => rfl
 | [a, b, c], _ => rfl
theorem Both.distinct {S : WS} {L : List ST} (h : Both S L) : ∀ i j, i < S.shapes.length → j < S.shapes.length → plainT S i = plainT S j → i = j := fun i j hi hj e => by
 obtain ⟨hT, hk⟩ := termsR_ok h.ok
 have hB := h.holds.fine.web.base
 obtain ⟨t, kt, dt⟩ := h.holds.term i hi
 obtain ⟨u, ku, du⟩ := h.holds.term j hj
 rw [den_text hB dt, den_text hB du] at e
 have := text_inj (hT.ok t ((hk t).2 kt)) (hT.ok u ((hk u).2 ku)) e
 subst this
 exact dt.inj hB du
theorem Both.place {S : WS} {L : List ST} (h : Both S L) {t : Trm} {i : Nat} (d : DenE S t i) : ofP (classesOf S) t.text = placeIn (allCls S) (classAt S i) := by
 rw [← den_text h.holds.fine.web.base d]
 exact ofP_place h.distinct d.lt
theorem Both.row {S : WS} {L : List ST} (h : Both S L) {t : Trm} {i : Nat} (d : DenE S t i) : rowOf S (placesOf S) i = rowT (classesOf S) t := by
 have hp := h.place d
 have hpl := placesOf_at (S := S) d.lt
 cases d with
 | @mk nm ps ks _ h1 h2 h3 h4 =>
  have hs : shapeAt S i = shapeOf nm ks := by unfold shapeAt; rw [List.getD_eq_getElem?_getD, h1]; rfl
  unfold rowOf rowT
  rw [hs, partsL_shapeOf h3, hpl, ← hp]
  have e : ks.map (fun k => (placesOf S).getD k 0) = ps.map (fun p => ofP (classesOf S) p.text) := by
   refine list_ext (by simp [h2]) fun n a b ha hb => ?_
   rw [List.getElem?_map] at ha hb
   obtain ⟨k, hk, rfl⟩ := Option.map_eq_some_iff.1 ha
   obtain ⟨p, hp', rfl⟩ := Option.map_eq_some_iff.1 hb
   have dp := h4 n p k hp' hk
   rw [placesOf_at dp.lt, h.place dp]
  rw [e]
  rfl
theorem Both.row_fn {S : WS} {L : List ST} (h : Both S L) {t u : Trm} (kt : known L t) (ku : known L u) (e : keyR (rowT (classesOf S) t) = keyR (rowT (classesOf S) u)) : rowT (classesOf S) t = rowT (classesOf S) u := by
 obtain ⟨i, di⟩ := h.holds.num t kt
 obtain ⟨j, dj⟩ := h.holds.num u ku
 have hval : ofP (classesOf S) t.text = ofP (classesOf S) u.text := by
  rw [h.place di, h.place dj]
  congr 1
  refine (h.holds.eq_iff di dj).2 fun R hR => ?_
  obtain ⟨nm, ps⟩ := t
  obtain ⟨nm', qs⟩ := u
  obtain ⟨e1, e2⟩ := keyR_eq.1 e
  simp only [rowT] at e1 e2
  subst e1
  have hl : ps.length = qs.length := by have := congrArg List.length e2; simpa using this
  refine hR.cong nm ps qs kt ku hl fun n p q hp hq => ?_
  have hpq : ofP (classesOf S) p.text = ofP (classesOf S) q.text := by
   have := congrArg (fun l => l[n]?) e2
   simp only [List.getElem?_map, hp, hq, Option.map_some, Option.some.injEq] at this
   exact this
  have kp : Part p (.node nm ps) := .within (List.mem_of_getElem? hp) (.self p)
  have kq : Part q (.node nm qs) := .within (List.mem_of_getElem? hq) (.self q)
  obtain ⟨a, da⟩ := DenE.part kp di
  obtain ⟨b, db⟩ := DenE.part kq dj
  rw [h.place da, h.place db] at hpq
  exact (h.holds.eq_iff da db).1 (place_inj da.lt db.lt hpq) R hR
 obtain ⟨e1, e2⟩ := keyR_eq.1 e
 obtain ⟨nm, ps⟩ := t
 obtain ⟨nm', qs⟩ := u
 simp only [rowT] at e1 e2 ⊢
 rw [hval, e2, e1]
theorem cmpRow_tr {x y z : RowP} (h1 : cmpRow x y < 0) (h2 : cmpRow y z < 0) : cmpRow x z < 0 := by
 rw [cmpRow_key] at *
 exact lin_key.tr _ _ _ h1 h2
theorem cmpRow_irr (x : RowP) : ¬ cmpRow x x < 0 := by rw [cmpRow_key]; exact lin_key.irr _
end Go.Proofs.YtmfkpllnmmfpiaaGreatDoor

namespace Go.Proofs.YtmfkpllnmmfpiaaGreatDoor
open Go.RowKit
def putRow (out : List RowP) (r : RowP) : List RowP :=
 match out.dropWhile (fun x => aheadR x r) with
 | [] => out.takeWhile (fun x => aheadR x r) ++ [r]
 | y :: q => if alikeR y r then out else out.takeWhile (fun x => aheadR x r) ++ r :: y :: q
noncomputable def rowsD (ls : List (List ByteArray)) (ts : List Trm) (j : Nat) : List RowP := (ts.take j).foldl (fun out t => putRow out (rowT ls t)) []
theorem rowsD_succ {ls : List (List ByteArray)} {ts : List Trm} {j : Nat} {t : Trm} (h : ts[j]? = some t) : rowsD ls ts (j + 1) = putRow (rowsD ls ts j) (rowT ls t) := by
 obtain ⟨hlt, e⟩ := List.getElem?_eq_some_iff.1 h
 unfold rowsD
 rw [List.take_succ_eq_append_getElem hlt, List.foldl_append, e]
 rfl
theorem putRow_at {out : List RowP} {r : RowP} {j : Nat} (h1 : ∀ q x, q < j → out[q]? = some x → aheadR x r = true) (h2 : j = out.length ∨ ∃ x, out[j]? = some x ∧ aheadR x r = false) (h3 : ∀ x, out[j]? = some x → alikeR x r = false) : putRow out r = out.take j ++ r :: out.drop j := by
 obtain ⟨e1, e2⟩ := takeWhile_len (p := fun x => aheadR x r) h1 h2
 unfold putRow
 rw [e1, e2]
 cases hd : out.drop j with
 | nil => rfl
 | cons y q =>
  have hy : out[j]? = some y := by
   have := congrArg List.head? hd
   rw [List.head?_drop] at this
   exact this
  simp only [h3 y hy]
  rfl
theorem putRow_twice {out : List RowP} {r : RowP} {j : Nat} {x : RowP} (h1 : ∀ q x, q < j → out[q]? = some x → aheadR x r = true) (hx : out[j]? = some x) (ha : aheadR x r = false) (h3 : alikeR x r = true) : putRow out r = out := by
 obtain ⟨e1, e2⟩ := takeWhile_len (p := fun x => aheadR x r) h1 (.inr ⟨x, hx, ha⟩)
 unfold putRow
 rw [e1, e2]
 obtain ⟨hl, e⟩ := List.getElem?_eq_some_iff.1 hx
 rw [List.drop_eq_getElem_cons hl]
 simp only [e, h3]
 rfl
theorem alike_not {x y : RowP} (h : aheadR x y = true) : alikeR x y = false := by
 unfold aheadR at h
 unfold alikeR
 have := of_decide_eq_true h
 exact decide_eq_false (by omega)
theorem putRow_length (out : List RowP) (r : RowP) : (putRow out r).length ≤ out.length + 1 := by
 have h : (out.takeWhile (fun x => aheadR x r)).length + (out.dropWhile (fun x => aheadR x r)).length = out.length := by rw [← List.length_append, List.takeWhile_append_dropWhile]
 unfold putRow
 split
 ·rename_i e
  rw [e] at h
  simp at h ⊢
  omega
 ·rename_i y q e
  rw [e] at h
  split
  ·omega
  ·simp at h ⊢
   omega
theorem rowsD_length (ls : List (List ByteArray)) (ts : List Trm) : ∀ j, j ≤ ts.length → (rowsD ls ts j).length ≤ j
 | 0, _ => by simp [rowsD]
 | j + 1, h => by
  have ih := rowsD_length ls ts j (by omega)
  obtain ⟨t, ht⟩ : ∃ t, ts[j]? = some t := ⟨_, List.getElem?_eq_getElem (by omega)⟩
  rw [rowsD_succ ht]
  have := putRow_length (rowsD ls ts j) (rowT ls t)
  omega
structure RowB (w4 wr : World) (RB : Nat) (nm : ByteArray) (val : Nat) (vA : Value) (bs : List Nat) : Prop where
 lt : RB < wr.heap.size
 free : ∀ o, wr.frozen? ⟨RB, o, none⟩ = false
 c0 : wr.cell? ⟨RB, 0, none⟩ = some (.string nm)
 c1 : wr.cell? ⟨RB, 1, none⟩ = some vA
 c2 : wr.cell? ⟨RB, 2, none⟩ = some (.int .i64 val)
 row : wr.ownsRow (RB + 1) 3 1 vA bs.length (intsOf bs)
 ge : w4.heap.size ≤ RB
 upd : Upd [] w4 wr
theorem RowB.grown {w4 wr w1 w3 : World} {RB val : Nat} {nm : ByteArray} {vA : Value} {bs : List Nat} (h : RowB w4 wr RB nm val vA bs) (hu : Upd [] wr w1) (hg : w1.grownBy w3 vA.ownBlock) : w3.cell? ⟨RB, 1, none⟩ = some vA ∧ ∀ o, w3.frozen? ⟨RB, o, none⟩ = false := by
 have hnt : RB ∉ vA.ownBlock.toList := fun hm => by have := own_geT h.row (by simpa using hm); omega
 have U : Upd vA.ownBlock.toList wr w3 := (hu.mono (fun x hx _ => by cases hx)).trans (Upd.of_grown hg)
 exact ⟨(U.cell (p := ⟨RB, 1, none⟩) h.lt hnt).trans h.c1, fun o => (U.frozen (p := ⟨RB, o, none⟩) h.lt hnt).trans (h.free o)⟩
theorem RowB.next {w4 wr w1 w3 : World} {RB val g cap a : Nat} {nm : ByteArray} {vA : Value} {bs : List Nat} (h : RowB w4 wr RB nm val vA bs) (hu : Upd [] wr w1) (hg : w1.grownBy w3 vA.ownBlock) (hat : vA.ownBlock = some g ∨ g = w1.heap.size)
  (hown : w3.ownsRow (RB + 1) 3 1 (.slice (some ⟨g, 0, none⟩) (bs.length + 1) cap) (bs.length + 1) (intsOf bs ++ [.int .i64 a])) : RowB w4 (w3.setCell ⟨RB, 1, none⟩ (.slice (some ⟨g, 0, none⟩) (bs.length + 1) cap)) RB nm val (.slice (some ⟨g, 0, none⟩) (bs.length + 1) cap) (bs ++ [a]) := by
 have h0 := h.lt
 have hs := hu.size
 have hge := h.ge
 have hs4 := h.upd.size
 have hvge : ∀ k, vA.ownBlock = some k → RB < k ∧ k < wr.heap.size := fun k hk => ⟨own_geT h.row hk, ownsRow_lt h.row hk⟩
 have hnt : RB ∉ vA.ownBlock.toList := fun hm => by have := hvge RB (by simpa using hm); omega
 have U : Upd vA.ownBlock.toList wr w3 := (hu.mono (fun x hx _ => by cases hx)).trans (Upd.of_grown hg)
 have g0 := (U.cell (p := ⟨RB, 0, none⟩) h.lt hnt).trans h.c0
 have g1 := (U.cell (p := ⟨RB, 1, none⟩) h.lt hnt).trans h.c1
 have g2 := (U.cell (p := ⟨RB, 2, none⟩) h.lt hnt).trans h.c2
 have gf : ∀ o, w3.frozen? ⟨RB, o, none⟩ = false := fun o => (U.frozen (p := ⟨RB, o, none⟩) h.lt hnt).trans (h.free o)
 have hlt3 : RB < w3.heap.size := Nat.lt_of_lt_of_le h.lt U.size
 have hgt : RB < g := by rcases hat with hat | hat; exact (hvge g hat).1; omega
 have hu3 : Upd [RB] w3 (w3.setCell ⟨RB, 1, none⟩ (.slice (some ⟨g, 0, none⟩) (bs.length + 1) cap)) := (Upd.refl [RB] w3).setCell (by simp) _
 have UU : Upd (RB :: vA.ownBlock.toList) wr (w3.setCell ⟨RB, 1, none⟩ (.slice (some ⟨g, 0, none⟩) (bs.length + 1) cap)) := (U.mono (fun x hx _ => by simp at hx ⊢; exact .inr hx)).setCell (by simp) _
 refine ⟨by simpa using hlt3, fun o => by simpa using gf o, by go_simp, by go_simp, by go_simp, ?_, hge, h.upd.trans' UU (fun k hk hl => ?_)⟩
 ·have := hu3.ownsRow hown (fun k hk hm => by simp [Value.ownBlock] at hk hm; omega)
  simpa [intsOf] using this
 ·simp at hk
  rcases hk with hk | hk
  ·omega
  ·have := hvge k hk; omega
theorem RowB.later {w4 wr w' : World} {RB val : Nat} {nm : ByteArray} {vA : Value} {bs : List Nat} (h : RowB w4 wr RB nm val vA bs) (hu : Upd [] wr w') : RowB w4 w' RB nm val vA bs :=
 ⟨Nat.lt_of_lt_of_le h.lt hu.size, fun o => (hu.frozen (p := ⟨RB, o, none⟩) h.lt (by simp)).trans (h.free o), (hu.cell (p := ⟨RB, 0, none⟩) h.lt (by simp)).trans h.c0, (hu.cell (p := ⟨RB, 1, none⟩) h.lt (by simp)).trans h.c1, (hu.cell (p := ⟨RB, 2, none⟩) h.lt (by simp)).trans h.c2, hu.ownsRow h.row (fun _ _ => by simp), h.ge, h.upd.trans hu⟩
structure RRead (w : World) (B : Nat) (v : Value) (xs : List RX) : Prop where
 row : w.ownsRow B 88 3 v xs.length (flatR xs)
 args : ∀ x ∈ xs, IntsAt w x.2 x.1.args
theorem RRead.later {w w' : World} {B : Nat} {v : Value} {xs : List RX} (h : RRead w B v xs) (hu : Upd [] w w') : RRead w' B v xs :=
 ⟨hu.ownsRow h.row (fun _ _ => by simp), fun x hx => (h.args x hx).later hu (fun _ _ => by simp)⟩
theorem RRead.form {w : World} {B : Nat} {v : Value} {xs : List RX} (h : RRead w B v xs) : ∃ a cap, v = .slice a xs.length cap ∧ xs.length ≤ cap ∧ cap ≤ maxLen ∧ (a = none → cap = 0) ∧ (0 < xs.length → ∃ g, a = some ⟨g, 0, none⟩ ∧ g < w.heap.size ∧ ∀ q u, (flatR xs)[q]? = some u → w.cell? ⟨g, q, none⟩ = some u) := by
 rcases ownsRow_slice h.row with ⟨h1, h2⟩ | ⟨g, cap, h1, h2, h3⟩
 ·rw [h2]
  exact ⟨none, 0, h1, Nat.le_refl _, by simp [maxLen], fun _ => rfl, fun h => absurd h (Nat.lt_irrefl _)⟩
 ·have hr := h.row
  subst h1
  refine ⟨_, cap, rfl, h2, h3, fun e => (by cases e), fun _ => ⟨g, rfl, ownsRow_lt hr rfl, fun q u hu => ?_⟩⟩
  have hi := (List.getElem?_eq_some_iff.1 hu).1
  rw [flatR_length] at hi
  have := hr.cellAt q hi
  rw [this, hu]
theorem flat_cells {w : World} {g : Nat} {xs : List RX} (h : ∀ q u, (flatR xs)[q]? = some u → w.cell? ⟨g, q, none⟩ = some u) {i : Nat} {x : RX} (hx : xs[i]? = some x) : w.cell? ⟨g, i * 3, none⟩ = some (.string x.1.name) ∧ w.cell? ⟨g, i * 3 + 1, none⟩ = some x.2 ∧ w.cell? ⟨g, i * 3 + 2, none⟩ = some (.int .i64 x.1.value) :=
 ⟨h _ _ ((flatR_get xs i 0 x hx (by omega)).trans rfl), h _ _ ((flatR_get xs i 1 x hx (by omega)).trans rfl), h _ _ ((flatR_get xs i 2 x hx (by omega)).trans rfl)⟩
theorem flatR_take (xs : List RX) : ∀ j, flatR (xs.take j) = (flatR xs).take (j * 3) := by
 intro j
 by_cases hj : j ≤ xs.length
 ·have h := flatR_append (xs.take j) (xs.drop j)
  rw [List.take_append_drop] at h
  rw [h, List.take_left' (by rw [flatR_length, List.length_take]; omega)]
 ·rw [List.take_of_length_le (by omega), List.take_of_length_le (by rw [flatR_length]; omega)]
theorem flatR_drop (xs : List RX) : ∀ j, flatR (xs.drop j) = (flatR xs).drop (j * 3) := by
 intro j
 by_cases hj : j ≤ xs.length
 ·have h := flatR_append (xs.take j) (xs.drop j)
  rw [List.take_append_drop] at h
  rw [h, List.drop_left' (by rw [flatR_length, List.length_take]; omega)]
 ·rw [List.drop_eq_nil_of_le (by omega), List.drop_eq_nil_of_le (by rw [flatR_length]; omega)]
  rfl
end Go.Proofs.YtmfkpllnmmfpiaaGreatDoor

namespace Go.Proofs.YtmfkpllnmmfpiaaGreatDoor
open Go.RowKit
theorem sizeL_len : ∀ ps : List Trm, ps.length ≤ Trm.sizeL ps
 | [] => by simp
 | .node nm qs :: ps => by
  have := sizeL_len ps
  simp only [List.length_cons, Trm.sizeL, Trm.size]
  omega
theorem part_size {t u : Trm} (h : Part t u) : t.size ≤ u.size := by
 induction h with
 | self _ => exact Nat.le_refl _
 | within hm _ ih =>
  have := sizeL_mem hm
  simp only [Trm.size]
  omega
theorem parts_few {L : List ST} (hok : ∀ s ∈ L, STOK s) (hsm : SmallL L) {nm : ByteArray} {ps : List Trm} (h : Trm.node nm ps ∈ termsR L) : ps.length ≤ 1000 := by
 obtain ⟨s, hs, hp⟩ := ((termsR_ok hok).2 _).1 h
 have h1 := hsm s hs
 unfold ST.size at h1
 have h2 := sizeL_len ps
 rcases hp with hp | hp
 ·have := part_size hp
  simp only [Trm.size] at this
  omega
 ·have := part_size hp
  simp only [Trm.size] at this
  omega
theorem classesR_by {L : List ST} (hok : ∀ s ∈ L, STOK s) : ClassedBy (fun y => ∃ i, i < (termsR L).length ∧ textAt (termsR L) i = y) (fun x y => ∃ i j, i < (termsR L).length ∧ j < (termsR L).length ∧ textAt (termsR L) i = x ∧ textAt (termsR L) j = y ∧ clsAt (drawnR L) i = clsAt (drawnR L) j) (classesR L) := by
 obtain ⟨hT, hk⟩ := termsR_ok hok
 have htx : ∀ (i : Nat) (t : Trm), (termsR L)[i]? = some t → textAt (termsR L) i = t.text := fun i t e => by unfold textAt; rw [e]
 have hget : ∀ i, i < (termsR L).length → ∃ t, (termsR L)[i]? = some t := fun i hi => ⟨_, List.getElem?_eq_getElem hi⟩
 exact classes_by (T := textAt (termsR L)) (C := clsAt (drawnR L)) (n := (termsR L).length) (fun i j hi hj e => by
  obtain ⟨t, ht⟩ := hget i hi
  obtain ⟨u, hu⟩ := hget j hj
  rw [htx i t ht, htx j u hu] at e
  have := text_inj (hT.ok t (List.mem_of_getElem? ht)) (hT.ok u (List.mem_of_getElem? hu)) e
  subst this
  exact nodup_at hT.nodup ht hu) (fun f => (idxT f (termsR L)).getD 0) (fun j hj => by
  obtain ⟨t, ht⟩ := hget j hj
  show (idxT (textAt (termsR L) j) (termsR L)).getD 0 = j
  rw [htx j t ht, (hT.idx (hT.ok t (List.mem_of_getElem? ht))).2 ht]
  rfl)
theorem classesR_has {L : List ST} (hok : ∀ s ∈ L, STOK s) {t : Trm} (h : t ∈ termsR L) : ∃ l ∈ classesR L, t.text ∈ l := by
 obtain ⟨i, hi⟩ := List.getElem?_of_mem h
 exact (classesR_by hok).all t.text ⟨i, (List.getElem?_eq_some_iff.1 hi).1, by unfold textAt; rw [hi]⟩
theorem classesR_few {L : List ST} (hn : (termsR L).length ≤ 100000) : (classesR L).length ≤ 100000 ∧ ∀ l ∈ classesR L, l.length ≤ 100000 := by
 unfold classesR
 refine ⟨?_, fun l hl => ?_⟩
 ·rw [List.length_map]
  have := firstsTo_len (textAt (termsR L)) (clsAt (drawnR L)) (termsR L).length (termsR L).length
  omega
 ·obtain ⟨f, _, rfl⟩ := List.mem_map.1 hl
  have := classTo_len (textAt (termsR L)) (clsAt (drawnR L)) (clsAt (drawnR L) ((idxT f (termsR L)).getD 0)) (termsR L).length
  omega
theorem ofText_any {L : List ST} (hok : ∀ s ∈ L, STOK s) (hn : (termsR L).length ≤ 100000) (w : World) (B : Nat) (v : Value) (rs : List Value) (h : LRead w B v rs (classesR L)) {t : Trm} (ht : t ∈ termsR L) :
  Calls Tryz.prog 105 #[v, .string t.text] w fun e w' => e = .returned (.int .i64 (ofP (classesR L) t.text)) ∧ w' = w := by
 obtain ⟨l, h1, h2, h3⟩ := ofP_is (classesR_has hok ht)
 obtain ⟨f1, f2⟩ := classesR_few (L := L) hn
 exact refOf_any w B v rs (classesR L) t.text _ l h h1 h2 h3 f1 f2
theorem RWB.reads {w0 w : World} {wb : Nat} {l : List Trm} {cl : List Nat} (h : RWB w0 w wb l cl) (hcl : cl.length = l.length) : ∃ av capv, w.cell? ⟨wb, 0, none⟩ = some (.slice av l.length capv) ∧ l.length ≤ capv ∧ capv ≤ maxLen ∧ wb < w.heap.size ∧
  (0 < l.length → ∃ gv, av = some ⟨gv, 0, none⟩ ∧ gv < w.heap.size ∧ ∀ (i : Nat) (nm : ByteArray) (ps : List Trm), l[i]? = some (.node nm ps) → ∃ tb ap capp, tb < w.heap.size ∧ w.cell? ⟨gv, i, none⟩ = some (.pointer (some ⟨tb, 0, none⟩)) ∧ w.cell? ⟨tb, 0, none⟩ = some (.string nm) ∧ w.cell? ⟨tb, 1, none⟩ = some (.slice ap ps.length capp) ∧ w.cell? ⟨tb, 2, none⟩ = some (.string (Trm.node nm ps).text) ∧ ps.length ≤ capp ∧ capp ≤ maxLen ∧
   (0 < ps.length → ∃ gp, ap = some ⟨gp, 0, none⟩ ∧ gp < w.heap.size ∧ ∀ (q : Nat) (p : Trm), ps[q]? = some p → ∃ pb, pb < w.heap.size ∧ w.cell? ⟨gp, q, none⟩ = some (.pointer (some ⟨pb, 0, none⟩)) ∧ w.cell? ⟨pb, 2, none⟩ = some (.string p.text))) := by
 by_cases hp : 0 < l.length
 ·obtain ⟨gv, capv, gu, capu, cw, hw, a1, a2, b1, b2⟩ := h.at hp hcl
  refine ⟨_, capv, hw.c0, a1, a2, hw.lt, fun _ => ⟨gv, rfl, ownsRow_lt hw.rowL rfl, fun i nm ps ht => ?_⟩⟩
  have hi := (List.getElem?_eq_some_iff.1 ht).1
  obtain ⟨tb, htb⟩ : ∃ tb, cw[i]? = some tb := ⟨_, List.getElem?_eq_getElem (by rw [hw.len]; exact hi)⟩
  have hk := hw.kids i tb _ htb ht
  have hc : w.cell? ⟨gv, i, none⟩ = some (.pointer (some ⟨tb, 0, none⟩)) := by
   rw [hw.rowL.cellAt i (by omega)]
   simp [ptrs, htb]
  cases hk with
  | @mk _ _ _ v cs k0 k1 k2 k3 k4 k5 k6 k7 k8 =>
   rcases ownsRow_slice k5 with ⟨x, y⟩ | ⟨gp, capp, x, y, z⟩
   ·refine ⟨tb, none, 0, k0, hc, k2, ?_, k4, by omega, by simp [maxLen], fun h => by omega⟩
    rw [k3, x, y]
   ·subst x
    refine ⟨tb, _, capp, k0, hc, k2, k3, k4, y, z, fun _ => ⟨gp, rfl, ownsRow_lt k5 rfl, fun q p hq => ?_⟩⟩
    have hql := (List.getElem?_eq_some_iff.1 hq).1
    obtain ⟨pb, hpb⟩ : ∃ pb, cs[q]? = some pb := ⟨_, List.getElem?_eq_getElem (by rw [k7]; exact hql)⟩
    have hkk := k8 q pb p hpb hq
    refine ⟨pb, hkk.lt, ?_, hkk.text⟩
    rw [k5.cellAt q (by omega)]
    simp [ptrs, hpb]
 ·have h0 : l.length = 0 := by omega
  obtain ⟨_, v, u, cs, hw⟩ := h
  obtain ⟨av, capv, hv⟩ := slice_len hw.rowL
  have e1 := hw.c0
  rw [hv] at e1
  refine ⟨av, capv, e1, by omega, ?_, hw.lt, fun hh => absurd hh hp⟩
  rcases ownsRow_slice hw.rowL with ⟨x, _⟩ | ⟨_, _, x, _, y⟩
  ·rw [hv] at x; simp only [Value.slice.injEq] at x; rw [x.2.2]; simp [maxLen]
  ·rw [hv] at x; simp only [Value.slice.injEq] at x; rw [x.2.2]; exact y
end Go.Proofs.YtmfkpllnmmfpiaaGreatDoor
