/-
  The document's Book in memory; Say and Follows, walked.
-/
import Derived.Test.YtmfkpllnmmfpiaaGreatDoorRefAskH
import Derived.Test.YtmfkpllnmmfpiaaGreatDoorRefClassLawH
namespace Go.Proofs.YtmfkpllnmmfpiaaGreatDoor
open Go.RowKit

/-- A Book of the document in block rb: what is said, the marks; its blocks are in Z. -/
structure RBAt (w : World) (rb : Nat) (Z : Nat → Prop) (L : List ST) (M : List Nat) : Prop where
  lt : rb < w.heap.size
  free : ∀ o, w.frozen? ⟨rb, o, none⟩ = false
  own : Z rb
  low : ∀ k, Z k → k < w.heap.size
  said : ∃ v cs, w.cell? ⟨rb, 0, none⟩ = some v ∧ RSRow w (fun k => Z k ∧ k ≠ rb) v L cs
  marks : ∃ u, w.cell? ⟨rb, 1, none⟩ = some u ∧ w.ownsRow 0 3 1 u M.length (intsOf M) ∧ ∀ k, u.ownBlock = some k → Z k ∧ k ≠ rb
theorem RBAt.later {w w' : World} {K : List Nat} {rb : Nat} {Z : Nat → Prop} {L : List ST} {M : List Nat} (h : RBAt w rb Z L M) (hu : Upd K w w') (hK : ∀ k, Z k → k ∉ K) : RBAt w' rb Z L M := by
  obtain ⟨v, cs, h1, h2⟩ := h.said
  obtain ⟨u, h3, h4, h5⟩ := h.marks
  exact ⟨Nat.lt_of_lt_of_le h.lt hu.size, fun o => (hu.frozen (p := ⟨rb, o, none⟩) h.lt (hK _ h.own)).trans (h.free o), h.own, fun k hk => Nat.lt_of_lt_of_le (h.low k hk) hu.size, ⟨v, cs, (hu.cell (p := ⟨rb, 0, none⟩) h.lt (hK _ h.own)).trans h1, h2.later hu (fun k hk => hK k hk.1)⟩, ⟨u, (hu.cell (p := ⟨rb, 1, none⟩) h.lt (hK _ h.own)).trans h3, hu.ownsRow h4 (fun k hk => hK k (h5 k hk).1), h5⟩⟩
theorem RBAt.mono {w : World} {rb : Nat} {Z Z' : Nat → Prop} {L : List ST} {M : List Nat} (h : RBAt w rb Z L M) (hm : ∀ k, Z k → Z' k) (hl : ∀ k, Z' k → k < w.heap.size) : RBAt w rb Z' L M := by
  obtain ⟨v, cs, h1, h2⟩ := h.said
  obtain ⟨u, h3, h4, h5⟩ := h.marks
  exact ⟨h.lt, h.free, hm _ h.own, hl, ⟨v, cs, h1, h2.mono fun k hk _ => ⟨hm k hk.1, hk.2⟩⟩, ⟨u, h3, h4, fun k hk => ⟨hm k (h5 k hk).1, (h5 k hk).2⟩⟩⟩
/-- Nothing of it was touched; what is new may be its own. -/
theorem RBAt.wider {w w' : World} {rb : Nat} {Z : Nat → Prop} {L : List ST} {M : List Nat} (h : RBAt w rb Z L M) (hu : Upd [] w w') : RBAt w' rb (fun k => (Z k ∨ w.heap.size ≤ k) ∧ k < w'.heap.size) L M :=
  (h.later hu (fun _ _ => by simp)).mono (fun k hk => ⟨.inl hk, Nat.lt_of_lt_of_le (h.low k hk) hu.size⟩) (fun k hk => hk.2)
/-- Another row of sentences is stored. -/
theorem RBAt.put {w w' : World} {rb : Nat} {Z : Nat → Prop} {L L' : List ST} {M : List Nat} {v : Value} {cs : List Nat} (h : RBAt w rb Z L M) (hu : Upd [] w w') (hr : RSRow w' (fun k => (Z k ∨ w.heap.size ≤ k) ∧ k ≠ rb) v L' cs) : RBAt (w'.setCell ⟨rb, 0, none⟩ v) rb (fun k => (Z k ∨ w.heap.size ≤ k) ∧ k < (w'.setCell ⟨rb, 0, none⟩ v).heap.size) L' M ∧ Upd [rb] w (w'.setCell ⟨rb, 0, none⟩ v) := by
  have hlt := h.lt
  have hlt' := Nat.lt_of_lt_of_le h.lt hu.size
  have U : Upd [rb] w (w'.setCell ⟨rb, 0, none⟩ v) := (hu.mono (fun x hx _ => by cases hx)).setCell (by simp) _
  have U2 : Upd [rb] w' (w'.setCell ⟨rb, 0, none⟩ v) := (Upd.refl [rb] w').setCell (by simp) _
  obtain ⟨v0, cs0, h1, h2⟩ := h.said
  obtain ⟨u, h3, h4, h5⟩ := h.marks
  have g0 := (hu.cell (p := ⟨rb, 0, none⟩) h.lt (by simp)).trans h1
  have g1 := (hu.cell (p := ⟨rb, 1, none⟩) h.lt (by simp)).trans h3
  have gf : ∀ o, w'.frozen? ⟨rb, o, none⟩ = false := fun o => (hu.frozen (p := ⟨rb, o, none⟩) h.lt (by simp)).trans (h.free o)
  refine ⟨⟨by simpa using hlt', fun o => by simpa using gf o, ⟨.inl h.own, by simpa using hlt'⟩, fun k hk => hk.2, ⟨v, cs, by go_simp, ?_⟩, ⟨u, by go_simp, U.ownsRow h4 (fun k hk hm => (h5 k hk).2 (by simpa using hm)), fun k hk => ⟨⟨.inl (h5 k hk).1, ?_⟩, (h5 k hk).2⟩⟩⟩, U⟩
  · exact (hr.later U2 (fun k hk hm => hk.2 (by simpa using hm))).mono fun k hk hl => ⟨⟨hk.1, hl⟩, hk.2⟩
  · exact Nat.lt_of_lt_of_le (ownsRow_lt h4 hk) U.size

theorem refRead_small {s : ByteArray} {x : ST} (h : (refRead s).1 = some x) : STOK x ∧ x.size ≤ 100 := by
  obtain ⟨r1, r2⟩ := refRead_eq s
  cases hr : (readOf s).1 with
  | none => rw [r2 hr] at h; cases h
  | some y =>
    rw [r1 y hr] at h
    obtain rfl := Option.some.inj h
    obtain ⟨_, hz, _⟩ := readOf_small hr
    exact ⟨(readOf_ok hr).1, by rw [sizeS_erase]; exact hz⟩
theorem refRead_err {s : ByteArray} (h : (refRead s).1 = none) : ((refRead s).2.1 != 0) = true := by
  obtain ⟨r1, r2⟩ := refRead_eq s
  cases hr : (readOf s).1 with
  | none => rw [r2 hr]; exact errOf_ne hr
  | some y => rw [r1 y hr] at h; cases h
theorem refRead_fine {s : ByteArray} {x : ST} (h : (refRead s).1 = some x) : refRead s = (some x, 0, 0) := by
  obtain ⟨r1, r2⟩ := refRead_eq s
  cases hr : (readOf s).1 with
  | none => rw [r2 hr] at h; cases h
  | some y =>
    rw [r1 y hr] at h ⊢
    obtain rfl := Option.some.inj h
    rfl

set_option maxHeartbeats 8000000 in
set_option maxRecDepth 100000 in
theorem refFollowsB_any (s : ByteArray) (w : World) (rb : Nat) (Z : Nat → Prop) (L : List ST) (M : List Nat) (h : RBAt w rb Z L M) (hok : ∀ x ∈ L, STOK x) (hsm : SmallL L) (hL : L.length ≤ 40) :
    Calls Tryz.prog 91 #[.pointer (some ⟨rb, 0, none⟩), .string s] w fun e w' => e = .returned (.tuple #[.bool (followsR L s).1, .int .i64 (followsR L s).2.1, .int .i64 (followsR L s).2.2]) ∧ Upd [] w w' := by
  have HRd := hide (refRead_any s w)
  cases hr : (refRead s).1 with
  | none =>
    obtain ⟨k, p, hkp⟩ : ∃ k p, refRead s = (none, k, p) := ⟨(refRead s).2.1, (refRead s).2.2, by rw [← hr]⟩
    have HF : Hid (followsR L s = (false, k, p)) := by show _ = _; unfold followsR; rw [hkp]
    have hne : (k != 0) = true := by have := refRead_err hr; rw [hkp] at this; exact this
    unfold RefReadDone at HRd
    rw [hkp] at HRd
    clear h hr hkp
    go_enter Tryz.func91, Tryz.ntmps91
    go_wp2_with (go_at_call 75; refine HRd.out.mono ?_; rintro e w2 ⟨hu2, rfl⟩; have Hu2 := hide hu2; clear hu2)
    go_ret3
    exact ⟨by rw [HF.out]; rfl, Hu2.out⟩
  | some x =>
    have hkp := refRead_fine hr
    obtain ⟨hox, hsx⟩ := refRead_small hr
    have HF : Hid (followsR L s = (clashR (L ++ [contraT x]), 0, 0)) := by show _ = _; unfold followsR; rw [hkp]
    unfold RefReadDone at HRd
    rw [hkp] at HRd
    obtain ⟨v, cs, c0, hrow⟩ := h.said
    have HC := hide (fun (w2 : World) (yb : Nat) (hu : Upd [] w w2) (hy : IsRS w2 (fun k => w.heap.size ≤ k ∧ k < w2.heap.size) x yb) => refFollows_any w2 L v cs x yb ((hrow.later hu (fun _ _ => by simp)).mono fun k _ hl => hl) (hy.mono fun k _ hl => hl) hok hox (fun y hy => by have := hsm y hy; omega) (by omega) (by omega))
    have hlt := h.lt
    clear h hr hkp hrow
    go_enter Tryz.func91, Tryz.ntmps91
    go_wp2_with (first
      | (go_at_call 75; refine HRd.out.mono ?_; rintro e w2 ⟨hu2, yb, rfl, hy⟩; have c2 := (hu2.cell (p := ⟨rb, 0, none⟩) hlt (by simp)).trans c0; have HC2 := hide (HC.out w2 yb hu2 hy); have Hu2 := hide hu2; clear hu2 hy)
      | (go_at_call 104; refine HC2.out.mono ?_; rintro e w3 ⟨rfl, hu3⟩; have Hu3 := hide hu3; clear hu3))
    go_ret3
    exact ⟨by rw [HF.out]; rfl, Hu2.out.trans Hu3.out⟩

set_option maxHeartbeats 8000000 in
set_option maxRecDepth 100000 in
theorem refSay_any (s : ByteArray) (w : World) (rb : Nat) (Z : Nat → Prop) (L : List ST) (M : List Nat) (h : RBAt w rb Z L M) (hok : ∀ x ∈ L, STOK x) (hsm : SmallL L) (hL : L.length ≤ 40) :
    Calls Tryz.prog 40 #[.pointer (some ⟨rb, 0, none⟩), .string s] w fun e w' => e = .returned (.tuple #[.int .i64 (sayR L s).1.1, .int .i64 (sayR L s).1.2.1, .int .i64 (sayR L s).1.2.2]) ∧ RBAt w' rb (fun k => (Z k ∨ w.heap.size ≤ k) ∧ k < w'.heap.size) (sayR L s).2 M ∧ Upd [rb] w w' ∧ Z rb := by
  have HRd := hide (refRead_any s w)
  obtain ⟨i0, hi, hz0, hz1, hz2⟩ := info_parts info_refSentP
  have Hown := hide h.own
  cases hr : (refRead s).1 with
  | none =>
    obtain ⟨k, p, hkp⟩ : ∃ k p, refRead s = (none, k, p) := ⟨(refRead s).2.1, (refRead s).2.2, by rw [← hr]⟩
    have HF : Hid (sayR L s = ((0, k, p), L)) := by show _ = _; unfold sayR; rw [hkp]
    have hne : (k != 0) = true := by have := refRead_err hr; rw [hkp] at this; exact this
    unfold RefReadDone at HRd
    rw [hkp] at HRd
    have HW := hide (fun (w' : World) (U : Upd [] w w') => h.wider U)
    clear h hr hkp
    go_enter Tryz.func40, Tryz.ntmps40
    go_wp2_with (go_at_call 75; refine HRd.out.mono ?_; rintro e w2 ⟨hu2, rfl⟩; have Hu2 := hide hu2; clear hu2)
    go_ret3
    exact ⟨by rw [HF.out]; rfl, by rw [HF.out]; exact HW.out _ Hu2.out, Hu2.out.mono (fun x hx _ => by cases hx), Hown.out⟩
  | some x =>
    have hkp := refRead_fine hr
    obtain ⟨hox, hsx⟩ := refRead_small hr
    have HF : Hid (sayR L s = if 40 ≤ L.length ∨ 100 < (termsR (L ++ [x])).length then (((0 : Int), (4 : Int), (0 : Int)), L) else ((((L.length : Nat) : Int), (0 : Int), (0 : Int)), L ++ [x])) := by show _ = _; unfold sayR; rw [hkp]
    unfold RefReadDone at HRd
    rw [hkp] at HRd
    obtain ⟨v, cs, c0, hrow⟩ := h.said
    have Hrow := hide hrow
    have Hh := hide h
    obtain ⟨a, cap, hv, hc1, hc2, hform⟩ := hrow.row.form
    subst hv
    obtain ⟨n, hn⟩ : ∃ n, cs.length = n := ⟨_, rfl⟩
    have hnL : L.length = n := by rw [← hn, hrow.len]
    rw [hn] at hc1 hform c0
    rw [hnL] at HF hL
    have HD := hide (fun (w : World) (v : Value) (cs : List Nat) (hr : RSRow w (fun k => k < w.heap.size) v (L ++ [x]) cs) => refDrawn_any w (L ++ [x]) v cs hr (fun y hy => by
        simp only [List.mem_append, List.mem_singleton] at hy
        rcases hy with hy | rfl
        · exact hok y hy
        · exact hox) (fun y hy => by
        simp only [List.mem_append, List.mem_singleton] at hy
        rcases hy with hy | rfl
        · have := hsm y hy; omega
        · omega) (by simp; omega))
    have Hn := hide hn
    have hlt := h.lt
    have Hform := hide hform
    have cf := h.free
    have Hc0 := hide c0
    have hone : Hid (∀ (k : Nat), ∀ u ∈ [Value.pointer (some ⟨k, 0, none⟩)], u.oneCell' = true) := (fun k u hu' => by simp at hu'; subst hu'; rfl)
    have hlm : n + 1 ≤ maxLen := by unfold maxLen; omega
    have hlb : (n + 1) * 8 ≤ 140737488355328 := by omega
    unfold maxLen at hc2
    have HnL := hide hnL
    clear h hr hkp hrow hform hn hnL
    go_enter Tryz.func40, Tryz.ntmps40
    go_upto_region 5 with (go_at_call 75; refine HRd.out.mono ?_; rintro e w2 ⟨hu2, yb, rfl, hy⟩; have HU2 := hide hu2; have Hy := hide hy; have hs2 := hu2.size; have c2 := (hu2.cell (p := ⟨rb, 0, none⟩) hlt (by simp)).trans c0; clear hu2 hy)
    clear c0 HRd
    go_cut [10] (fun mv wx => Hid (wx.ownsRow w2.heap.size 117 1 mv n (ptrs cs) ∧ Upd [] w2 wx))
    case first =>
      by_cases hn0 : n = 0
      · subst hn0
        have hcs : cs = [] := List.length_eq_zero_iff.1 Hn.out
        have Hcs := hide hcs
        clear hcs
        go_wp2_with (at_builtin; refine wpList_append_empty rfl _ _ rfl a cap rfl rfl ?_)
        go_meet
        case rel => rw [Hcs.out]; exact ⟨⟨rfl, .inl ⟨rfl, rfl⟩⟩, Upd.refl _ _⟩
      · have hpos : 0 < n := by omega
        obtain ⟨g0, rfl, hg1, _, hg3⟩ := Hform.out hpos
        have hnews0 : Hid (∀ j u, (ptrs cs)[j]? = some u → w2.cell? ((⟨g0, 0, none⟩ : Addr).add j) = some u) := fun j u hu => by
          unfold ptrs at hu
          rw [List.getElem?_map] at hu
          obtain ⟨c, hc, rfl⟩ := Option.map_eq_some_iff.1 hu
          have := (HU2.out.cell (p := ⟨g0, j, none⟩) hg1 (by simp)).trans (hg3 j c hc)
          cases j <;> simpa [Addr.add] using this
        have hone0 : Hid (∀ u ∈ ptrs cs, u.oneCell' = true) := fun u hu => by
          unfold ptrs at hu
          obtain ⟨c, _, rfl⟩ := List.mem_map.1 hu
          rfl
        have hlen0 : Hid ((ptrs cs).length = n * 1) := by show _ = _; unfold ptrs; rw [List.length_map, Hn.out]; omega
        have Hrow0 : Hid (w2.ownsRow w2.heap.size 117 1 (.slice none 0 0) 0 []) := ⟨rfl, .inl ⟨rfl, rfl⟩⟩
        have hlm0 : 0 + n ≤ maxLen := by unfold maxLen; omega
        have hlb0 : (0 + n) * 8 ≤ 140737488355328 := by omega
        clear hg3 hg1
        go_wp2_with (at_builtin; go_must (refine wpList_append_lies _ rfl _ _ 92 rfl w2.heap.size 117 i0 (.pointer none) 1 8 Tryz.underlying92 hi hz0 hz1 hz2 rfl (by decide) _ _ _ rfl Hrow0.out ⟨g0, 0, none⟩ n cap (ptrs cs) rfl hlen0.out hnews0.out hone0.out hpos hlm0 hlb0 (Nat.le_refl _) _ rfl ?_); intro g1 cap1 w1 hown1 hgrow1 hat1 hlt1)
        go_meet
        case rel => exact ⟨by simpa using hown1, Upd.of_grown hgrow1⟩
    case rest =>
      obtain ⟨hown, hU⟩ := hcut.out
      have hs3 := hU.size
      have HU := hide hU
      have hrw := ((Upd.refl [] wc).alloc (.cells #[.pointer (some ⟨yb, 0, none⟩)] 117)).ownsRow hown (fun _ _ => by simp)
      have Hrw := hide hrw
      have Hnews : Hid (∀ j u, [Value.pointer (some ⟨yb, 0, none⟩)][j]? = some u → (wc.alloc (.cells #[.pointer (some ⟨yb, 0, none⟩)] 117)).cell? ((⟨wc.heap.size, 0, none⟩ : Addr).add j) = some u) := World.news_of_block (heap_alloc_new _ _)
      have HUa : Hid (Upd [] w (wc.alloc (.cells #[.pointer (some ⟨yb, 0, none⟩)] 117))) := ((HU2.out.trans hU).alloc _)
      have Hfin : Hid (∀ g cp w3, (wc.alloc (.cells #[.pointer (some ⟨yb, 0, none⟩)] 117)).grownBy w3 u10.ownBlock → (u10.ownBlock = some g ∨ g = (wc.alloc (.cells #[.pointer (some ⟨yb, 0, none⟩)] 117)).heap.size) → w3.ownsRow w2.heap.size 117 1 (.slice (some ⟨g, 0, none⟩) (n + 1) cp) (n + 1) (ptrs cs ++ [.pointer (some ⟨yb, 0, none⟩)]) → RSRow w3 (fun k => (Z k ∧ k ≠ rb) ∨ w.heap.size ≤ k) (.slice (some ⟨g, 0, none⟩) (n + 1) cp) (L ++ [x]) (cs ++ [yb]) ∧ Upd [] w w3) := fun g cp w3 hg hat hown3 => by
        rw [← Hn.out] at hown3 ⊢
        exact RSRow.snoc (Zx := fun k => w.heap.size ≤ k ∧ k < w2.heap.size) Hrow.out HUa.out (Hy.out.later (hU.alloc _) (fun _ _ => by simp)) (fun k hk => ⟨.inr hk.1, fun e => by have := own_geT hown e; omega⟩) (fun k hk => by have := own_geT hown hk; omega) hg hat hown3
      clear hcut c2 hrw hU
      go_upto_region 7 with (at_builtin; go_must (refine wpList_append_lies _ rfl _ _ 92 rfl w2.heap.size 117 i0 (.pointer none) 1 8 Tryz.underlying92 hi hz0 hz1 hz2 rfl (by decide) _ _ _ rfl Hrw.out ⟨wc.heap.size, 0, none⟩ 1 1 [.pointer (some ⟨yb, 0, none⟩)] rfl rfl Hnews.out (hone.out yb) (by decide) hlm hlb (by simp; omega) _ rfl ?_); intro g3 cap3 w3 hown3 hgrow3 hat3 hlt3)
      obtain ⟨hr3, hu3⟩ := Hfin.out g3 cap3 w3 hgrow3 hat3 hown3
      have HD3 := hide (HD.out w3 _ _ (hr3.mono fun k _ hl => hl))
      have Hr3 := hide hr3
      have Hu3 := hide hu3
      have hs3' := hu3.size
      obtain ⟨nt, hnt⟩ : ∃ nt, (termsR (L ++ [x])).length = nt := ⟨_, rfl⟩
      have Hnt := hide hnt
      rw [hnt] at HF
      have HU4 : Hid (∀ w4, Upd [] w3 w4 → Upd [] w w4 ∧ w4.cell? ⟨rb, 0, none⟩ = some (.slice a n cap) ∧ ∀ o, w4.frozen? ⟨rb, o, none⟩ = false) := fun w4 hu4 => by
        have U := hu3.trans hu4
        obtain ⟨v0, cs0, e1, _⟩ := Hh.out.said
        refine ⟨U, ?_, fun o => (U.frozen (p := ⟨rb, o, none⟩) hlt (by simp)).trans (cf o)⟩
        exact (U.cell (p := ⟨rb, 0, none⟩) hlt (by simp)).trans Hc0.out
      clear hr3 hu3 hown3 hgrow3 hat3 hlt3 Hfin Hrw Hnews HUa hown HU HU2 Hy cf hnt hone hlm hlb HD
      by_cases h40 : 40 ≤ n
      · have h40' : (40 : Int) ≤ (n : Int) := by omega
        have HF2 : Hid (sayR L s = ((0, 4, 0), L)) := by show _ = _; rw [HF.out, if_pos (.inl h40)]
        go_wp2_with (go_at_call 76; refine HD3.out.mono ?_; rintro e w4 ⟨wb, rfl, h4⟩; obtain ⟨U4, c4, f4⟩ := HU4.out w4 h4.1; have HU5 := hide U4; clear h4 U4)
        go_ret3
        exact ⟨by rw [HF2.out]; rfl, by rw [HF2.out]; exact Hh.out.wider HU5.out, HU5.out.mono (fun x hx _ => by cases hx), Hown.out⟩
      · have h40' : ¬ (40 : Int) ≤ (n : Int) := by omega
        by_cases h100 : 100 < nt
        · have h100' : (100 : Int) < (nt : Int) := by omega
          have HF2 : Hid (sayR L s = ((0, 4, 0), L)) := by show _ = _; rw [HF.out, if_pos (.inr h100)]
          go_wp2_with (go_at_call 76; refine HD3.out.mono ?_; rintro e w4 ⟨wb, rfl, h4⟩; obtain ⟨U4, c4, f4⟩ := HU4.out w4 h4.1; have HU5 := hide U4; obtain ⟨_, v5, vu5, cs5, hw5⟩ := h4; obtain ⟨g5, cap5, hv5⟩ := slice_len hw5.rowL; have k5 := hw5.c0; rw [hv5, Hnt.out] at k5; clear U4 hw5 hv5)
          go_ret3
          exact ⟨by rw [HF2.out]; rfl, by rw [HF2.out]; exact Hh.out.wider HU5.out, HU5.out.mono (fun x hx _ => by cases hx), Hown.out⟩
        · have h100' : ¬ (100 : Int) < (nt : Int) := by omega
          have HF2 : Hid (sayR L s = (((n : Int), 0, 0), L ++ [x])) := by show _ = _; rw [HF.out, if_neg (by omega)]
          go_wp2_with (go_at_call 76; refine HD3.out.mono ?_; rintro e w4 ⟨wb, rfl, h4⟩; obtain ⟨U4, c4, f4⟩ := HU4.out w4 h4.1; have HU5 := hide U4; have H45 := hide h4.1; obtain ⟨_, v5, vu5, cs5, hw5⟩ := h4; obtain ⟨g5, cap5, hv5⟩ := slice_len hw5.rowL; have k5 := hw5.c0; rw [hv5, Hnt.out] at k5; clear U4 hw5 hv5)
          go_ret3
          obtain ⟨p1, p2⟩ := RBAt.put (v := .slice (some ⟨g3, 0, none⟩) (n + 1) cap3) (cs := cs ++ [yb]) (L' := L ++ [x]) Hh.out HU5.out ((Hr3.out.later H45.out (fun _ _ => by simp)).mono fun k hk _ => by
            rcases hk with hk | hk
            · exact ⟨.inl hk.1, hk.2⟩
            · exact ⟨.inr hk, by omega⟩)
          exact ⟨by rw [HF2.out]; simp, by rw [HF2.out]; exact p1, p2, Hown.out⟩
end Go.Proofs.YtmfkpllnmmfpiaaGreatDoor

/-
  A Book of the program beside the document's: begun, say, follows, walked.
-/
namespace Go.Proofs.YtmfkpllnmmfpiaaGreatDoor
open Go.RowKit

theorem numL_any (n : Int) (w : World) :
    Calls Tryz.prog 30 #[.int .i64 n] w fun e w' => e = .returned (.int .i64 n) ∧ w' = w := by
  go_enter Tryz.func30, Tryz.ntmps30
  go_wp2
  go_ret
  exact ⟨rfl, rfl⟩
/-- Both Books in memory: their blocks are in Z. -/
structure BothAt (w : World) (xb : Nat) (Z : Nat → Prop) (S : WS) (L : List ST) (M : List Nat) : Prop where
  lt : xb < w.heap.size
  own : Z xb
  low : ∀ k, Z k → 0 < k ∧ k < w.heap.size
  ex : ∃ bb rb Zb Zr, w.cell? ⟨xb, 0, none⟩ = some (.pointer (some ⟨bb, 0, none⟩)) ∧ w.cell? ⟨xb, 1, none⟩ = some (.pointer (some ⟨rb, 0, none⟩)) ∧ BookAt w bb Zb S ∧ RBAt w rb Zr L M ∧ (∀ k, Zb k → Z k ∧ ¬ Zr k ∧ k ≠ xb) ∧ (∀ k, Zr k → Z k ∧ k ≠ xb)
  err : ErrTab w
  both : Both S L
theorem BothAt.later {w w' : World} {K : List Nat} {xb : Nat} {Z : Nat → Prop} {S : WS} {L : List ST} {M : List Nat} (h : BothAt w xb Z S L M) (hu : Upd K w w') (hK : ∀ k, Z k → k ∉ K) (h0 : 0 ∉ K) : BothAt w' xb Z S L M := by
  obtain ⟨bb, rb, Zb, Zr, c0, c1, hb, hr, z1, z2⟩ := h.ex
  exact ⟨Nat.lt_of_lt_of_le h.lt hu.size, h.own, fun k hk => ⟨(h.low k hk).1, Nat.lt_of_lt_of_le (h.low k hk).2 hu.size⟩, ⟨bb, rb, Zb, Zr, (hu.cell (p := ⟨xb, 0, none⟩) h.lt (hK _ h.own)).trans c0, (hu.cell (p := ⟨xb, 1, none⟩) h.lt (hK _ h.own)).trans c1, hb.later hu (fun k hk => hK k (z1 k hk).1), hr.later hu (fun k hk => hK k (z2 k hk).1), z1, z2⟩, h.err.later hu h0, h.both⟩
/-- What a call leaves. -/
def Left (w w' : World) (xb : Nat) (Z : Nat → Prop) (S : WS) (L : List ST) (M : List Nat) : Prop := BothAt w' xb (fun k => (Z k ∨ w.heap.size ≤ k) ∧ k < w'.heap.size) S L M ∧ ∃ K, (∀ k ∈ K, Z k) ∧ Upd K w w'
theorem BothAt.left {w w' : World} {xb : Nat} {Z : Nat → Prop} {S : WS} {L : List ST} {M : List Nat} (h : BothAt w xb Z S L M) (hu : Upd [] w w') : Left w w' xb Z S L M := by
  obtain ⟨bb, rb, Zb, Zr, c0, c1, hb, hr, z1, z2⟩ := h.ex
  have hh := h.later hu (fun _ _ => by simp) (by simp)
  have hp : 0 < w.heap.size := h.err.1
  have hs := hu.size
  obtain ⟨bb, rb, Zb, Zr, c0, c1, hb, hr, z1, z2⟩ := hh.ex
  refine ⟨⟨hh.lt, ⟨.inl h.own, hh.lt⟩, fun k hk => ⟨?_, hk.2⟩, ⟨bb, rb, Zb, Zr, c0, c1, hb, hr, fun k hk => ⟨⟨.inl (z1 k hk).1, hb.low k hk⟩, (z1 k hk).2⟩, fun k hk => ⟨⟨.inl (z2 k hk).1, hr.low k hk⟩, (z2 k hk).2⟩⟩, hh.err, hh.both⟩, [], fun k hk => (by cases hk), hu⟩
  rcases hk.1 with h1 | h1
  · exact (h.low k h1).1
  · omega
/-- The program's Book answered, then the document's. -/
theorem BothAt.step {w w1 w2 : World} {xb bb rb : Nat} {Z Zb Zr : Nat → Prop} {S S' : WS} {L L' : List ST} {M M' : List Nat} {K1 K2 : List Nat} (h : BothAt w xb Z S L M) (c0 : w.cell? ⟨xb, 0, none⟩ = some (.pointer (some ⟨bb, 0, none⟩))) (c1 : w.cell? ⟨xb, 1, none⟩ = some (.pointer (some ⟨rb, 0, none⟩)))
    (hr : RBAt w rb Zr L M) (z1 : ∀ k, Zb k → Z k ∧ ¬ Zr k ∧ k ≠ xb) (z2 : ∀ k, Zr k → Z k ∧ k ≠ xb)
    (hb1 : BookAt w1 bb (fun k => (Zb k ∨ w.heap.size ≤ k) ∧ k < w1.heap.size) S') (hK1 : ∀ k ∈ K1, Zb k) (U1 : Upd K1 w w1)
    (hr2 : RBAt w2 rb (fun k => (Zr k ∨ w1.heap.size ≤ k) ∧ k < w2.heap.size) L' M') (hK2 : ∀ k ∈ K2, Zr k) (U2 : Upd K2 w1 w2) (hB : Both S' L') : Left w w2 xb Z S' L' M' := by
  have s1 := U1.size
  have s2 := U2.size
  have hp : 0 < w.heap.size := h.err.1
  have hlt := h.lt
  have hrlow := hr.low
  have U : Upd (K1 ++ K2) w w2 := (U1.mono (fun x hx _ => by simp [hx])).trans' U2 (fun x hx _ => by simp [hx])
  have hKx : xb ∉ K1 ++ K2 := fun hm => by
    simp only [List.mem_append] at hm
    rcases hm with hm | hm
    · exact (z1 _ (hK1 _ hm)).2.2 rfl
    · exact (z2 _ (hK2 _ hm)).2 rfl
  have hZ : ∀ k ∈ K1 ++ K2, Z k := fun k hm => by
    simp only [List.mem_append] at hm
    rcases hm with hm | hm
    · exact (z1 _ (hK1 _ hm)).1
    · exact (z2 _ (hK2 _ hm)).1
  refine ⟨⟨Nat.lt_of_lt_of_le h.lt U.size, ⟨.inl h.own, Nat.lt_of_lt_of_le h.lt U.size⟩, fun k hk => ⟨?_, hk.2⟩, ⟨bb, rb, fun k => (Zb k ∨ w.heap.size ≤ k) ∧ k < w1.heap.size, fun k => (Zr k ∨ w1.heap.size ≤ k) ∧ k < w2.heap.size, (U.cell (p := ⟨xb, 0, none⟩) h.lt hKx).trans c0, (U.cell (p := ⟨xb, 1, none⟩) h.lt hKx).trans c1, hb1.later U2 (fun k hk hm => ?_), hr2, fun k hk => ⟨⟨?_, by omega⟩, fun hk2 => ?_, ?_⟩, fun k hk => ⟨⟨?_, hk.2⟩, ?_⟩⟩, h.err.later U (fun hm => by have := (h.low 0 (hZ 0 hm)).1; omega), hB⟩, K1 ++ K2, hZ, U⟩
  · rcases hk.1 with h1 | h1
    · exact (h.low k h1).1
    · omega
  · have h3 := hK2 k hm
    have h4 := hrlow k h3
    rcases hk.1 with h5 | h5
    · exact (z1 k h5).2.1 h3
    · omega
  · exact hk.1.imp (fun h5 => (z1 k h5).1) id
  · rcases hk2.1 with h3 | h3
    · have h4 := hrlow k h3
      rcases hk.1 with h5 | h5
      · exact (z1 k h5).2.1 h3
      · omega
    · omega
  · rcases hk.1 with h5 | h5
    · exact (z1 k h5).2.2
    · omega
  · exact hk.1.imp (fun h5 => (z2 k h5).1) (fun h5 => by omega)
  · rcases hk.1 with h5 | h5
    · exact (z2 k h5).2
    · omega

theorem begun_any (w : World) (hE : ErrTab w) : Calls Tryz.prog 22 #[] w fun e w' => ∃ xb, e = .returned (.tuple #[.pointer (some ⟨xb, 0, none⟩), .bool true]) ∧ BothAt w' xb (fun k => w.heap.size ≤ k ∧ k < w'.heap.size) noWS [] [] ∧ Upd [] w w' := by
  have HN := hide (new_any w)
  have hp := hE.1
  have HE := hide hE
  clear hE
  go_enter Tryz.func22, Tryz.ntmps22
  go_wp2_with (go_at_call 49; refine HN.out.mono ?_; rintro e w2 ⟨bb, rfl, hb, hu⟩; have HB := hide hb; have HU := hide hu; clear hb hu)
  go_ret2
  have hb := HB.out
  have hu := HU.out
  have hs := hu.size
  have hbl := hb.lt
  refine ⟨w2.heap.size + 1, rfl, ⟨by simp, ⟨by omega, by simp⟩, fun k hk => ⟨by omega, hk.2⟩, ⟨bb, w2.heap.size, fun k => w.heap.size ≤ k ∧ k < w2.heap.size, fun k => k = w2.heap.size, by go_simp, by go_simp, hb.later (L := []) (((Upd.refl [] w2).alloc _).alloc _) (fun _ _ => by simp), ?_, fun k hk => ⟨⟨hk.1, by simp; omega⟩, by omega, by omega⟩, fun k hk => ⟨⟨by omega, by simp; omega⟩, by omega⟩⟩, HE.out.later ((hu.alloc _).alloc _) (by simp), Both.none⟩, (hu.alloc _).alloc _⟩
  refine ⟨by simp; omega, fun o => by go_simp, rfl, fun k hk => by simp; omega, ⟨.slice none 0 0, [], by go_simp, .inl ⟨rfl, rfl⟩, rfl, fun i c x hc => by simp at hc⟩, ⟨.slice none 0 0, by go_simp, ⟨rfl, .inl ⟨rfl, rfl⟩⟩, fun k hk => by cases hk⟩⟩

set_option maxHeartbeats 2000000 in
set_option maxRecDepth 100000 in
theorem sayL_any (s : ByteArray) (hmax : s.size ≤ maxLen) (w : World) (xb : Nat) (Z : Nat → Prop) (S : WS) (L : List ST) (M : List Nat) (h : BothAt w xb Z S L M) :
    Calls Tryz.prog 12 #[.pointer (some ⟨xb, 0, none⟩), .string s] w fun e w' => e = .returned (.bool true) ∧ Left w w' xb Z (sayOf S s).2 (sayR L s).2 M := by
  obtain ⟨bb, rb, Zb, Zr, c0, c1, hb, hr, z1, z2⟩ := h.ex
  obtain ⟨e1, e2, e3, hB⟩ := h.both.say s
  have HS := hide (say_any s w bb Zb S hmax hb h.err)
  have HR := hide (fun (w1 : World) (K : List Nat) (hK : ∀ k ∈ K, Zb k) (U : Upd K w w1) => refSay_any s w1 rb Zr L M (hr.later U (fun k hk hm => (z1 k (hK k hm)).2.1 hk)) h.both.ok h.both.small (by rw [← h.both.length]; exact h.both.saids))
  have Hfin := hide (fun (w1 w2 : World) (K1 K2 : List Nat) hb1 hK1 U1 hr2 hK2 U2 => h.step (w1 := w1) (w2 := w2) (K1 := K1) (K2 := K2) (S' := (sayOf S s).2) (L' := (sayR L s).2) (M' := M) c0 c1 hr z1 z2 hb1 hK1 U1 hr2 hK2 U2 hB)
  have Hc1 : Hid (∀ (w1 : World) (K : List Nat), (∀ k ∈ K, Zb k) → Upd K w w1 → w1.cell? ⟨xb, 1, none⟩ = some (.pointer (some ⟨rb, 0, none⟩))) := fun w1 K hK U => (U.cell (p := ⟨xb, 1, none⟩) h.lt (fun hm => (z1 _ (hK _ hm)).2.2 rfl)).trans c1
  clear h hb hr z1 z2 hB
  rw [e1, e2, e3] at HS
  obtain ⟨⟨r1, r2, r3⟩, hr⟩ : ∃ r, (sayR L s).1 = r := ⟨_, rfl⟩
  rw [hr] at HS HR
  simp only at HS HR
  clear e1 e2 e3 hr c1
  go_enter Tryz.func12, Tryz.ntmps12
  go_wp2_with (first
    | (go_at_call 25; refine HS.out.mono ?_; rintro e w1 ⟨rfl, hb1, K1, hK1, U1⟩; have k1 := Hc1.out w1 K1 hK1 U1; have HR1 := hide (HR.out w1 K1 hK1 U1); have Hb1 := hide hb1; have HK1 := hide hK1; have HU1 := hide U1; clear hb1 hK1 U1)
    | (go_at_call 40; refine HR1.out.mono ?_; rintro e w2 ⟨rfl, hr2, hu2, hrz⟩; have Hr2 := hide hr2; have HU2 := hide hu2; have Hrz := hide hrz; clear hr2 hu2 hrz)
    | (go_at_call 30; refine (numL_any _ _).mono ?_; rintro e w3 ⟨rfl, hw3⟩; rw [hw3]; clear hw3 w3))
  go_ret
  exact ⟨by simp, Hfin.out w1 w2 K1 [rb] Hb1.out HK1.out HU1.out Hr2.out (fun k hk => by simp at hk; subst hk; exact Hrz.out) HU2.out⟩
set_option maxHeartbeats 2000000 in
set_option maxRecDepth 100000 in
theorem followsL_any (s : ByteArray) (hmax : s.size ≤ maxLen) (w : World) (xb : Nat) (Z : Nat → Prop) (S : WS) (L : List ST) (M : List Nat) (h : BothAt w xb Z S L M) :
    Calls Tryz.prog 50 #[.pointer (some ⟨xb, 0, none⟩), .string s] w fun e w' => e = .returned (.bool true) ∧ Left w w' xb Z S L M := by
  obtain ⟨bb, rb, Zb, Zr, c0, c1, hb, hr, z1, z2⟩ := h.ex
  obtain ⟨e1, e2, e3⟩ := h.both.follows s
  have HS := hide (follows_any s w bb Zb S hmax hb h.err)
  have HR := hide (fun (w1 : World) (K : List Nat) (hK : ∀ k ∈ K, Zb k) (U : Upd K w w1) => refFollowsB_any s w1 rb Zr L M (hr.later U (fun k hk hm => (z1 k (hK k hm)).2.1 hk)) h.both.ok h.both.small (by rw [← h.both.length]; exact h.both.saids))
  have Hfin := hide (fun (w1 w2 : World) (K1 : List Nat) hb1 (hK1 : ∀ k ∈ K1, Zb k) (U1 : Upd K1 w w1) (U2 : Upd [] w1 w2) => h.step (w1 := w1) (w2 := w2) (K1 := K1) (K2 := []) (S' := S) (L' := L) (M' := M) c0 c1 hr z1 z2 hb1 hK1 U1 ((hr.later U1 (fun k hk hm => (z1 k (hK1 k hm)).2.1 hk)).wider U2) (fun k hk => (by cases hk)) U2 h.both)
  have Hc1 : Hid (∀ (w1 : World) (K : List Nat), (∀ k ∈ K, Zb k) → Upd K w w1 → w1.cell? ⟨xb, 1, none⟩ = some (.pointer (some ⟨rb, 0, none⟩))) := fun w1 K hK U => (U.cell (p := ⟨xb, 1, none⟩) h.lt (fun hm => (z1 _ (hK _ hm)).2.2 rfl)).trans c1
  clear h hb hr z1 z2
  rw [e1, e2, e3] at HS
  obtain ⟨⟨r1, r2, r3⟩, hr⟩ : ∃ r, followsR L s = r := ⟨_, rfl⟩
  rw [hr] at HS HR
  simp only at HS HR
  clear e1 e2 e3 hr c1
  go_enter Tryz.func50, Tryz.ntmps50
  go_wp2_with (first
    | (go_at_call 26; refine HS.out.mono ?_; rintro e w1 ⟨rfl, hb1, K1, hK1, U1⟩; have k1 := Hc1.out w1 K1 hK1 U1; have HR1 := hide (HR.out w1 K1 hK1 U1); have Hb1 := hide hb1; have HK1 := hide hK1; have HU1 := hide U1; clear hb1 hK1 U1)
    | (go_at_call 91; refine HR1.out.mono ?_; rintro e w2 ⟨rfl, hu2⟩; have HU2 := hide hu2; clear hu2)
    | (go_at_call 30; refine (numL_any _ _).mono ?_; rintro e w3 ⟨rfl, hw3⟩; rw [hw3]; clear hw3 w3))
  go_ret
  exact ⟨by simp, Hfin.out w1 w2 K1 Hb1.out HK1.out HU1.out HU2.out⟩
end Go.Proofs.YtmfkpllnmmfpiaaGreatDoor
