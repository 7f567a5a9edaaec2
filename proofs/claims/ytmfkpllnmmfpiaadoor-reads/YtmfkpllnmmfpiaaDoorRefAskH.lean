/-
  The document's answer: Clash, walked.
-/
import Derived.Test.YtmfkpllnmmfpiaaDoorRefDrawnH
namespace Go.Proofs.YtmfkpllnmmfpiaaDoor
open Go.RowKit

set_option maxHeartbeats 8000000 in
set_option maxRecDepth 100000 in
theorem refClash_any (w0 : World) (L : List ST) (v : Value) (cs : List Nat) (h : RSRow w0 (fun k => k < w0.heap.size) v L cs) (hok : ∀ s ∈ L, STOK s) (hsz : ∀ s ∈ L, s.size ≤ 200) (hL : L.length ≤ 100) :
    Calls Tryd.prog 77 #[v] w0 fun e w' => e = .returned (.bool (clashR L)) ∧ Upd [] w0 w' := by
  have HD := hide (refDrawn_any w0 L v cs h hok hsz hL)
  have hlen := termsR_len L hsz
  obtain ⟨a, cap, hv, hc1, hc2, hform⟩ := h.row.form
  subst hv
  obtain ⟨n, hn⟩ : ∃ n, L.length = n := ⟨_, rfl⟩
  have hcs : cs.length = n := by rw [h.len, hn]
  rw [hcs] at hc1 hform HD ⊢
  rw [hn] at hlen hL
  unfold maxLen at hc2
  have Hform := hide hform
  have Hkids := hide h.kids
  have Hn := hide hn
  have Hcs := hide hcs
  have Hsd := hide (fun (x : ST) (hx : x ∈ L) => sides_known hok hx)
  have HDl : Hid ((drawnR L).length = (termsR L).length) := by
    obtain ⟨hT, hk⟩ := termsR_ok hok
    show _ = _
    have := (loopR_end (L := L) hT (fun t ht => (hk t).1 ht) ((termsR L).length + 1) (eqsTo L L.length) (eqsTo_ok hok) (by have := kinds_le (termsR L).length (eqsTo L L.length); omega)).1.len
    unfold eqsTo at this
    rw [List.take_of_length_le (Nat.le_refl _)] at this
    exact this
  obtain ⟨ts, hts⟩ : ∃ ts, termsR L = ts := ⟨_, rfl⟩
  obtain ⟨D, hD⟩ : ∃ D, drawnR L = D := ⟨_, rfl⟩
  have HC : Hid (∀ b : Bool, (b = true ↔ ∃ x ∈ L, x.eq = false ∧ clsOf ts D x.l = clsOf ts D x.r) → clashR L = b) := fun b hb => by
    rw [Bool.eq_iff_iff, hb]
    unfold clashR
    rw [List.any_eq_true, hts, hD]
    constructor
    · rintro ⟨x, hx, h1⟩
      simp only [Bool.and_eq_true, Bool.not_eq_true', beq_iff_eq] at h1
      exact ⟨x, hx, h1.1, h1.2⟩
    · rintro ⟨x, hx, h1, h2⟩
      refine ⟨x, hx, ?_⟩
      simp only [Bool.and_eq_true, Bool.not_eq_true', beq_iff_eq]
      exact ⟨h1, h2⟩
  rw [hts] at hlen HD Hsd HDl
  rw [hD] at HD HDl
  clear h hform hn hcs hok hsz hts hD
  go_enter Tryd.func77, Tryd.ntmps77
  go_wp2_with (go_at_call 52; refine HD.out.mono ?_; rintro e w2 ⟨wb, rfl, h2⟩; have H2 := hide h2; clear h2)
  go_loopw [4] (fun i wr => ∃ j m : Nat, j ≤ n ∧ i = .int .i64 j ∧ wr = w2.drewN m ∧ Hid (∀ (q : Nat) (x : ST), q < j → L[q]? = some x → ¬ (x.eq = false ∧ clsOf ts D x.l = clsOf ts D x.r))) (fun i _ => n - (intOf i).toNat)
  case atStart => exact ⟨0, 0, Nat.zero_le _, rfl, rfl, fun q x hq => by omega⟩
  case round =>
    obtain ⟨j, m, hj, rfl, rfl, HJ⟩ := hrel
    by_cases hjn : j < n
    · have hjI : (j : Int) < (n : Int) := by omega
      obtain ⟨x, hx⟩ : ∃ x, L[j]? = some x := ⟨_, List.getElem?_eq_getElem (by rw [Hn.out]; exact hjn)⟩
      obtain ⟨c, hc⟩ : ∃ c, cs[j]? = some c := ⟨_, List.getElem?_eq_getElem (by rw [Hcs.out]; exact hjn)⟩
      obtain ⟨g, rfl, hg1, _, hg3⟩ := Hform.out (by omega)
      have hs := Hkids.out j c x hc hx
      obtain ⟨lb, rb, s1, s2, s3, s4⟩ := hs.sides
      have hm := List.mem_of_getElem? hx
      have q0 := (H2.out.1.cell (p := ⟨g, j, none⟩) hg1 (by simp)).trans (hg3 j c hc)
      have q1 := (H2.out.1.cell (p := ⟨c, 0, none⟩) hs.lt (by simp)).trans hs.eq
      have HNx : Hid (¬ (x.eq = false ∧ clsOf ts D x.l = clsOf ts D x.r) → ∀ (q : Nat) (y : ST), q < j + 1 → L[q]? = some y → ¬ (y.eq = false ∧ clsOf ts D y.l = clsOf ts D y.r)) := fun hno q y hq hy => by
        by_cases e : q < j
        · exact HJ.out q y e hy
        · obtain rfl : q = j := by omega
          rw [hx] at hy
          obtain rfl := Option.some.inj hy
          exact hno
      cases hxe : x.eq with
      | true =>
        rw [hxe] at q1
        have HN2 := hide (HNx.out (fun e => by rw [hxe] at e; cases e.1))
        clear hs s1 s2 s3 s4 hm hx hc hg1 hg3 HNx hxe
        go_wp2_with fail
        go_quiet (fail)
        go_wp2
        refine ⟨⟨j + 1, _, by omega, by simp, rfl, HN2.out⟩, ?_⟩
        simp [intOf]
        omega
      | false =>
        rw [hxe] at q1
        obtain ⟨ia, ib, hia, hib, la, lb'⟩ := Hsd.out x hm
        obtain ⟨gv, capv, gu, capu, cw, hw, a1, a2, b1, b2⟩ := H2.out.at (by omega) HDl.out
        have c1 := hw.c1
        have z1 := hw.class_at (i := ia) (by rw [HDl.out]; exact la) HDl.out.symm
        have z2 := hw.class_at (i := ib) (by rw [HDl.out]; exact lb') HDl.out.symm
        have t1 := (H2.out.1.cell (p := ⟨c, 1, none⟩) hs.lt (by simp)).trans s1
        have t2 := (H2.out.1.cell (p := ⟨c, 2, none⟩) hs.lt (by simp)).trans s2
        have t3 := (H2.out.1.cell (p := ⟨lb, 2, none⟩) s3.lt (by simp)).trans s3.text
        have t4 := (H2.out.1.cell (p := ⟨rb, 2, none⟩) s4.lt (by simp)).trans s4.text
        obtain ⟨nt, hnt⟩ : ∃ nt, ts.length = nt := ⟨_, rfl⟩
        rw [hnt] at la lb' c1 b1 hlen
        have HI := hide (fun (y : ByteArray) (i q : Nat) (hy : idxT y ts = some i) => show Calls Tryd.prog 75 #[.pointer (some ⟨wb, 0, none⟩), .string y] (w2.drewN q) fun e w' => e = .returned (.int .i64 (i : Int)) ∧ w' = w2.drewN q from by
          have := (H2.out.drewN q).index (by omega) y
          rw [idxI_some hy] at this
          exact this)
        have hiaI : (ia : Int) < (nt : Int) := by omega
        have hibI : (ib : Int) < (nt : Int) := by omega
        have HX : Hid (clsOf ts D x.l = clsAt D ia) := by show _ = _; unfold clsOf; rw [hia]; rfl
        have HY : Hid (clsOf ts D x.r = clsAt D ib) := by show _ = _; unfold clsOf; rw [hib]; rfl
        obtain ⟨xa, hxa⟩ : ∃ xa, clsAt D ia = xa := ⟨_, rfl⟩
        obtain ⟨xb, hxb⟩ : ∃ xb, clsAt D ib = xb := ⟨_, rfl⟩
        rw [hxa] at z1 HX
        rw [hxb] at z2 HY
        have Hia := hide hia
        have Hib := hide hib
        have Hm := hide hm
        have Hxe := hide hxe
        unfold maxLen at a2 b2
        clear hs s1 s2 s3 s4 hx hc hg1 hg3 hw hia hib hxa hxb hnt hm hxe
        by_cases he : xa = xb
        · have he2 : (xa : Int) = (xb : Int) := by omega
          have he3 : ((xa : Int) == (xb : Int)) = true := by simp [he]
          have HF : Hid (clashR L = true) := HC.out true (by
            simp only [true_iff]
            exact ⟨x, Hm.out, Hxe.out, by rw [HX.out, HY.out, he]⟩)
          go_wp2_with fail
          go_quiet ((go_at_call 75; first | exact quiet_of_same2 (HI.out _ ia _ Hia.out) | exact quiet_of_same2 (HI.out _ ib _ Hib.out)))
          go_wp2
          go_ret
          exact ⟨by rw [HF.out]; rfl, (H2.out.1.drewN _).drewN _⟩
        · have he2 : ¬ (xa : Int) = (xb : Int) := by omega
          have he3 : ((xa : Int) == (xb : Int)) = false := by simp; omega
          have HN2 := hide (HNx.out (fun e => he (by have := e.2; rw [HX.out, HY.out] at this; exact this)))
          go_wp2_with fail
          go_quiet ((go_at_call 75; first | exact quiet_of_same2 (HI.out _ ia _ Hia.out) | exact quiet_of_same2 (HI.out _ ib _ Hib.out)))
          go_wp2
          refine ⟨⟨j + 1, _, by omega, by simp, rfl, HN2.out⟩, ?_⟩
          simp [intOf]
          omega
    · have hjI : ¬ (j : Int) < (n : Int) := by omega
      have HF : Hid (clashR L = false) := HC.out false (by
        simp only [Bool.false_eq_true, false_iff]
        rintro ⟨x, hx, h1⟩
        obtain ⟨q, hq⟩ := List.getElem?_of_mem hx
        exact HJ.out q x (by have := (List.getElem?_eq_some_iff.1 hq).1; rw [Hn.out] at this; omega) hq h1)
      go_wp2
      go_ret
      exact ⟨by rw [HF.out]; rfl, H2.out.1.drewN _⟩
end Go.Proofs.YtmfkpllnmmfpiaaDoor

/-
  The document's answer: Follows (of a list), walked.
-/
namespace Go.Proofs.YtmfkpllnmmfpiaaDoor
open Go.RowKit

theorem info_refSentP : (Tryd.prog.info? 66).map (fun i => (i.zero, i.size, i.bytes)) = some (some (.pointer none), 1, 8) := by kernel_rfl
theorem info_refSent : (Tryd.prog.info? 107).map (fun i => (i.zero, i.size, i.bytes)) = some (some (.agg #[.bool false, .pointer none, .pointer none]), 3, 24) := by kernel_rfl
theorem append_empty (a : Option Addr) (cap : Nat) (ty : TypeId) (W : World) : (Builtin.append_ #[56, 56] ty #[.slice none 0 0, .slice a 0 cap]).run Tryd.prog W = .ok (.slice none 0 0) W := by
  obtain ⟨i0, hi, hz0, hz1, hz2⟩ := info_parts info_refSentP
  cases a with
  | none => simp [Builtin.append_, run_underlying Tryd.underlying56, sizeOf, typeInfo, hi, Builtin.lenOf, Builtin.firstCells]
  | some a => simp [Builtin.append_, run_underlying Tryd.underlying56, sizeOf, typeInfo, hi, Builtin.lenOf, Builtin.firstCells, loadCells, loadCellsFrom]
theorem wpList_append_empty {w : World} {ops : Array Oper} {rest : List Oper} {o : Oper} {a : Act} {Q : Exit → Act → World → Prop} (hgd : o.guard = none) (s x : Operand)
    (ho : o.op = .call { callee := .builtin .append, args := #[s, x], argTypes := #[56, 56] }) (ad : Option Addr) (cap : Nat)
    (hs : a.eval s = .slice none 0 0) (hx : a.eval x = .slice ad 0 cap)
    (h : wpList Tryd.prog ops Q rest (a.put o.dst (.slice none 0 0)) w) : wpList Tryd.prog ops Q (o :: rest) a w := by
  refine wpList_plain hgd fun K hK => ?_
  have hrun := append_empty ad cap o.type w
  unfold Oper.wp
  simp [execOp, ho, resolve, invoke, builtin, hs, hx, hrun, Result.andThen]
  exact hK _ _ h
theorem news_after (w : World) (o : Obj) (x : Value) (T : TypeId) : ∀ j u, [x][j]? = some u → (((w.alloc o).alloc (.cells #[x] T)).drew).cell? ((⟨w.heap.size + 1, 0, none⟩ : Addr).add j) = some u := by
  have h : ∀ j u, [x][j]? = some u → ((w.alloc o).alloc (.cells #[x] T)).cell? ((⟨(w.alloc o).heap.size, 0, none⟩ : Addr).add j) = some u := World.news_of_block (heap_alloc_new (w.alloc o) (.cells #[x] T))
  have e : (w.alloc o).heap.size = w.heap.size + 1 := by simp
  rw [e] at h
  exact h
/-- Sentences in a row of their own, grown by one. -/
theorem RSRow.snoc {w0 w2 w3 : World} {v mv : Value} {L : List ST} {cs : List Nat} {x : ST} {xb g cap B : Nat} {Z0 Zx : Nat → Prop} (h : RSRow w0 Z0 v L cs) (hu : Upd [] w0 w2) (hx : IsRS w2 Zx x xb) (hZx : ∀ k, Zx k → (Z0 k ∨ w0.heap.size ≤ k) ∧ mv.ownBlock ≠ some k) (hm : ∀ k, mv.ownBlock = some k → w0.heap.size ≤ k) (hg : w2.grownBy w3 mv.ownBlock) (hat : mv.ownBlock = some g ∨ g = w2.heap.size)
    (hown : w3.ownsRow B 66 1 (.slice (some ⟨g, 0, none⟩) (cs.length + 1) cap) (cs.length + 1) (ptrs cs ++ [.pointer (some ⟨xb, 0, none⟩)])) :
    RSRow w3 (fun k => Z0 k ∨ w0.heap.size ≤ k) (.slice (some ⟨g, 0, none⟩) (cs.length + 1) cap) (L ++ [x]) (cs ++ [xb]) ∧ Upd [] w0 w3 := by
  have U3 : Upd mv.ownBlock.toList w2 w3 := Upd.of_grown hg
  have h02 := hu.size
  have U03 : Upd [] w0 w3 := hu.trans' U3 (fun k hk hl => by
    have := hm k (by simpa using hk)
    omega)
  refine ⟨⟨PRow.of_own (cs := cs ++ [xb]) (e := 66) (B := B) (by simpa [ptrs] using hown) (fun k hk => ?_), by simp [h.len], fun i c y hc hy => ?_⟩, U03⟩
  · simp only [own_slice, Option.some.injEq] at hk
    subst hk
    rcases hat with hat | hat
    · exact .inr (hm g hat)
    · exact .inr (by omega)
  by_cases hi : i < L.length
  · rw [List.getElem?_append_left (by rw [h.len]; exact hi)] at hc
    rw [List.getElem?_append_left hi] at hy
    exact ((h.kids i c y hc hy).later U03 (fun _ _ => by simp)).mono fun k hk _ => .inl hk
  · have hi2 : i = L.length := by
      have := (List.getElem?_eq_some_iff.1 hy).1
      simp at this
      omega
    subst hi2
    rw [← h.len, List.getElem?_concat_length] at hc
    rw [List.getElem?_concat_length] at hy
    obtain rfl := Option.some.inj hc
    obtain rfl := Option.some.inj hy
    exact (hx.later U3 (fun k hk hmm => (hZx k hk).2 (by simpa using hmm))).mono fun k hk _ => (hZx k hk).1

set_option maxHeartbeats 8000000 in
set_option maxRecDepth 100000 in
theorem refFollows_any (w0 : World) (L : List ST) (v : Value) (cs : List Nat) (x : ST) (xb : Nat) (h : RSRow w0 (fun k => k < w0.heap.size) v L cs) (hx : IsRS w0 (fun k => k < w0.heap.size) x xb) (hok : ∀ s ∈ L, STOK s) (hox : STOK x) (hsz : ∀ s ∈ L, s.size ≤ 200) (hsx : x.size ≤ 200) (hL : L.length ≤ 99) :
    Calls Tryd.prog 53 #[v, .pointer (some ⟨xb, 0, none⟩)] w0 fun e w' => e = .returned (.bool (clashR (L ++ [contraT x]))) ∧ Upd [] w0 w' := by
  obtain ⟨i0, hi, hz0, hz1, hz2⟩ := info_parts info_refSentP
  have HCl := hide (fun (w : World) (v : Value) (cs : List Nat) (hr : RSRow w (fun k => k < w.heap.size) v (L ++ [contraT x]) cs) => refClash_any w (L ++ [contraT x]) v cs hr (fun s hs => by
      simp only [List.mem_append, List.mem_singleton] at hs
      rcases hs with hs | rfl
      · exact hok s hs
      · exact hox) (fun s hs => by
      simp only [List.mem_append, List.mem_singleton] at hs
      rcases hs with hs | rfl
      · exact hsz s hs
      · exact hsx) (by simp; omega))
  have Hh := hide h
  obtain ⟨a, cap, hv, hc1, hc2, hform⟩ := h.row.form
  subst hv
  obtain ⟨n, hn⟩ : ∃ n, cs.length = n := ⟨_, rfl⟩
  have hnL : n ≤ 99 := by rw [← hn, h.len]; exact hL
  rw [hn] at hc1 hform ⊢
  obtain ⟨lb, rb, s1, s2, s3, s4⟩ := hx.sides
  have x0 := hx.eq
  have hxlt := hx.lt
  have Hn := hide hn
  have Hs3 := hide s3
  have Hs4 := hide s4
  have Hfin : Hid (∀ (w1 : World) (mv : Value), Upd [] w0 w1 → w1.ownsRow w0.heap.size 66 1 mv n (ptrs cs) → ∀ (w3 : World) (g cp : Nat), (((w1.alloc (.cells #[.bool (!x.eq), .pointer (some ⟨lb, 0, none⟩), .pointer (some ⟨rb, 0, none⟩)] 107)).alloc (.cells #[.pointer (some ⟨w1.heap.size, 0, none⟩)] 66)).drew).grownBy w3 mv.ownBlock → (mv.ownBlock = some g ∨ g = (((w1.alloc (.cells #[.bool (!x.eq), .pointer (some ⟨lb, 0, none⟩), .pointer (some ⟨rb, 0, none⟩)] 107)).alloc (.cells #[.pointer (some ⟨w1.heap.size, 0, none⟩)] 66)).drew).heap.size) → w3.ownsRow w0.heap.size 66 1 (.slice (some ⟨g, 0, none⟩) (n + 1) cp) (n + 1) (ptrs cs ++ [.pointer (some ⟨w1.heap.size, 0, none⟩)]) →
      RSRow w3 (fun k => k < w3.heap.size) (.slice (some ⟨g, 0, none⟩) (n + 1) cp) (L ++ [contraT x]) (cs ++ [w1.heap.size]) ∧ Upd [] w0 w3) := fun w1 mv hU hrow w3 g cp hg hat hown => by
    rw [← Hn.out] at hown ⊢
    have hu : Upd [] w1 (((w1.alloc (.cells #[.bool (!x.eq), .pointer (some ⟨lb, 0, none⟩), .pointer (some ⟨rb, 0, none⟩)] 107)).alloc (.cells #[.pointer (some ⟨w1.heap.size, 0, none⟩)] 66)).drew) := (((Upd.refl [] w1).alloc _).alloc _).drew
    have h01 := hU.size
    obtain ⟨f1, f2⟩ := RSRow.snoc (Zx := fun k => k < w0.heap.size ∨ w1.heap.size ≤ k) (x := contraT x) (xb := w1.heap.size) Hh.out (hU.trans hu) (by
      refine ⟨by simp; omega, .inr (Nat.le_refl _), by have e : (contraT x).eq = !x.eq := rfl; rw [e]; go_simp, lb, rb, by go_simp, by go_simp, ?_, ?_⟩
      · exact (Hs3.out.later (hU.trans hu) (fun _ _ => by simp)).mono fun k hk hl => .inl hk
      · exact (Hs4.out.later (hU.trans hu) (fun _ _ => by simp)).mono fun k hk hl => .inl hk) (fun k hk => ⟨by omega, fun e => by have := own_geT hrow e; have := ownsRow_lt hrow e; omega⟩) (fun k hk => own_geT hrow hk) hg hat hown
    exact ⟨f1.mono fun k _ hl => hl, f2⟩
  unfold maxLen at hc2
  have hone : Hid (∀ (k : Nat), ∀ u ∈ [Value.pointer (some ⟨k, 0, none⟩)], u.oneCell' = true) := (fun k u hu' => by simp at hu'; subst hu'; rfl)
  have hlm : n + 1 ≤ maxLen := by unfold maxLen; omega
  have hlb : (n + 1) * 8 ≤ 140737488355328 := by omega
  by_cases hn0 : n = 0
  · subst hn0
    have hcs : cs = [] := List.length_eq_zero_iff.1 Hn.out
    have Hrow : Hid ((((w0.alloc (.cells #[.bool (!x.eq), .pointer (some ⟨lb, 0, none⟩), .pointer (some ⟨rb, 0, none⟩)] 107)).alloc (.cells #[.pointer (some ⟨w0.heap.size, 0, none⟩)] 66)).drew).ownsRow w0.heap.size 66 1 (.slice none 0 0) 0 []) := ⟨rfl, .inl ⟨rfl, rfl⟩⟩
    have HF := hide (Hfin.out w0 (.slice none 0 0) (Upd.refl [] w0) (by rw [hcs]; exact ⟨rfl, .inl ⟨rfl, rfl⟩⟩))
    rw [hcs] at HF
    clear h hx hform hn hcs s3 s4 Hfin Hh
    go_enter Tryd.func53, Tryd.ntmps53
    go_upto_region 3 with (at_builtin; refine wpList_append_empty rfl _ _ rfl a cap rfl rfl ?_)
    have hnews : ∀ j u, [Value.pointer (some ⟨w0.heap.size, 0, none⟩)][j]? = some u → (((w0.alloc (.cells #[.bool (!x.eq), .pointer (some ⟨lb, 0, none⟩), .pointer (some ⟨rb, 0, none⟩)] 107)).alloc (.cells #[.pointer (some ⟨w0.heap.size, 0, none⟩)] 66)).drew).cell? ((⟨w0.heap.size + 1, 0, none⟩ : Addr).add j) = some u := news_after w0 _ _ _
    have Hnews := hide hnews
    clear hnews
    go_wp2_with fail
    go_region_law (refine step_append_lies _ (by rfl) _ _ 56 (by rfl) w0.heap.size 66 i0 (.pointer none) 1 8 Tryd.underlying56 hi hz0 hz1 hz2 (by rfl) (by decide) (.slice none 0 0) 0 [] (by rfl) Hrow.out ⟨w0.heap.size + 1, 0, none⟩ 1 1 [Value.pointer (some ⟨w0.heap.size, 0, none⟩)] (by rfl) (by rfl) Hnews.out (hone.out w0.heap.size) (by decide) hlm hlb (by simp; omega) _ (by rfl) ?_; intro g cp w3 hown' hgrow hat hlt3)
    all_goals (
      have hF := HF.out w3 g cp hgrow hat hown'
      have HC := hide (HCl.out w3 _ _ hF.1)
      have HU := hide hF.2
      clear hF
      go_wp2_with (go_at_call 77; refine HC.out.mono ?_; rintro e w4 ⟨rfl, hu4⟩; have Hu4 := hide hu4; clear hu4)
      go_ret
      exact ⟨rfl, HU.out.trans Hu4.out⟩)
  · have hpos : 0 < n := by omega
    obtain ⟨g0, rfl, hg1, _, hg3⟩ := hform hpos
    have hnews0 : Hid (∀ j u, (ptrs cs)[j]? = some u → w0.cell? ((⟨g0, 0, none⟩ : Addr).add j) = some u) := fun j u hu => by
      unfold ptrs at hu
      rw [List.getElem?_map] at hu
      obtain ⟨c, hc, rfl⟩ := Option.map_eq_some_iff.1 hu
      have := hg3 j c hc
      cases j <;> simpa [Addr.add] using this
    have hone0 : Hid (∀ u ∈ ptrs cs, u.oneCell' = true) := fun u hu => by
      unfold ptrs at hu
      obtain ⟨c, _, rfl⟩ := List.mem_map.1 hu
      rfl
    have hlen0 : Hid ((ptrs cs).length = n * 1) := by show _ = _; unfold ptrs; rw [List.length_map, Hn.out]; omega
    have Hrow0 : Hid (w0.ownsRow w0.heap.size 66 1 (.slice none 0 0) 0 []) := ⟨rfl, .inl ⟨rfl, rfl⟩⟩
    have hlm0 : 0 + n ≤ maxLen := by unfold maxLen; omega
    have hlb0 : (0 + n) * 8 ≤ 140737488355328 := by omega
    clear h hx hform hn s3 s4 Hh hg3
    go_enter Tryd.func53, Tryd.ntmps53
    go_upto_region 3 with (at_builtin; go_must (refine wpList_append_lies _ rfl _ _ 56 rfl w0.heap.size 66 i0 (.pointer none) 1 8 Tryd.underlying56 hi hz0 hz1 hz2 rfl (by decide) _ _ _ rfl Hrow0.out ⟨g0, 0, none⟩ n cap (ptrs cs) rfl hlen0.out hnews0.out hone0.out hpos hlm0 hlb0 (Nat.le_refl _) _ rfl ?_); intro g1 cap1 w1 hown1 hgrow1 hat1 hlt1)
    have hU1 : Upd [] w0 w1 := Upd.of_grown hgrow1
    rw [Nat.zero_add, List.nil_append] at hown1
    obtain ⟨mv, hmv⟩ : ∃ mv, mv = Value.slice (some ⟨g1, 0, none⟩) n cap1 := ⟨_, rfl⟩
    rw [← hmv] at hown1
    rw [← hmv]
    have y0 := (hU1.cell (p := ⟨xb, 0, none⟩) hxlt (by simp)).trans x0
    have y1 := (hU1.cell (p := ⟨xb, 1, none⟩) hxlt (by simp)).trans s1
    have y2 := (hU1.cell (p := ⟨xb, 2, none⟩) hxlt (by simp)).trans s2
    have HF := hide (Hfin.out w1 mv hU1 hown1)
    have hs1 := hU1.size
    have hxlt1 : xb < w1.heap.size := by omega
    have Hrow : Hid ((((w1.alloc (.cells #[.bool (!x.eq), .pointer (some ⟨lb, 0, none⟩), .pointer (some ⟨rb, 0, none⟩)] 107)).alloc (.cells #[.pointer (some ⟨w1.heap.size, 0, none⟩)] 66)).drew).ownsRow w0.heap.size 66 1 mv n (ptrs cs)) := ((((Upd.refl [] w1).alloc _).alloc _).drew).ownsRow hown1 (fun _ _ => by simp)
    have Hnews := hide (news_after w1 (.cells #[.bool (!x.eq), .pointer (some ⟨lb, 0, none⟩), .pointer (some ⟨rb, 0, none⟩)] 107) (.pointer (some ⟨w1.heap.size, 0, none⟩)) 66)
    clear hmv hown1 hgrow1 hat1 hlt1 hU1 Hfin x0 s1 s2 hnews0 hone0 hlen0 Hrow0 hlm0 hlb0
    go_wp2_with fail
    go_region_law (refine step_append_lies _ (by rfl) _ _ 56 (by rfl) w0.heap.size 66 i0 (.pointer none) 1 8 Tryd.underlying56 hi hz0 hz1 hz2 (by rfl) (by decide) mv n (ptrs cs) (by rfl) Hrow.out ⟨w1.heap.size + 1, 0, none⟩ 1 1 [Value.pointer (some ⟨w1.heap.size, 0, none⟩)] (by rfl) (by rfl) Hnews.out (hone.out w1.heap.size) (by decide) hlm hlb (by simp; omega) _ (by rfl) ?_; intro g cp w3 hown' hgrow hat hlt3)
    all_goals (
      have hF := HF.out w3 g cp hgrow hat hown'
      have HC := hide (HCl.out w3 _ _ hF.1)
      have HU := hide hF.2
      clear hF
      go_wp2_with (go_at_call 77; refine HC.out.mono ?_; rintro e w4 ⟨rfl, hu4⟩; have Hu4 := hide hu4; clear hu4)
      go_ret
      exact ⟨rfl, HU.out.trans Hu4.out⟩)
end Go.Proofs.YtmfkpllnmmfpiaaDoor
