/-
  The document's World of terms, in memory; index, walked.
-/
import Derived.Test.YtmfkpllnmmfpiaaGreatDoorScanReadH
import Derived.Test.YtmfkpllnmmfpiaaGreatDoorRefDrawH
namespace Go.Proofs.YtmfkpllnmmfpiaaGreatDoor
open Go.RowKit

theorem toList_inj {a b : ByteArray} (h : a.toList = b.toList) : a = b := by
  apply ByteArray.ext
  apply Array.ext'
  simpa [ByteArray.toList_eq] using h
/-- The place of a text, -1: none. -/
def idxI (x : ByteArray) (l : List Trm) : Int := match idxT x l with | some i => (i : Int) | none => -1
theorem idxT_first {x : ByteArray} : ∀ {l : List Trm} {j : Nat} {t : Trm}, l[j]? = some t → t.text = x → (∀ (i : Nat) (u : Trm), i < j → l[i]? = some u → u.text ≠ x) → idxT x l = some j
  | [], j, t, h, _, _ => by simp at h
  | a :: l, 0, t, h, ht, _ => by
    simp at h
    subst h
    unfold idxT
    rw [if_pos ht]
  | a :: l, j + 1, t, h, ht, hn => by
    have h0 := hn 0 a (by omega) (by simp)
    unfold idxT
    rw [if_neg h0, idxT_first (l := l) (j := j) (by simpa using h) ht (fun i u hi hu => hn (i + 1) u (by omega) (by simpa using hu))]
    rfl
theorem idxT_nowhere {x : ByteArray} : ∀ {l : List Trm}, (∀ (i : Nat) (u : Trm), l[i]? = some u → u.text ≠ x) → idxT x l = none
  | [], _ => rfl
  | a :: l, hn => by
    unfold idxT
    rw [if_neg (hn 0 a (by simp)), idxT_nowhere (l := l) (fun i u hu => hn (i + 1) u (by simpa using hu))]
    rfl
/-- The terms of a World in block b. -/
structure RLAt (w : World) (wb : Nat) (Z : Nat → Prop) (l : List Trm) (v : Value) (cs : List Nat) : Prop where
  lt : wb < w.heap.size
  c0 : w.cell? ⟨wb, 0, none⟩ = some v
  row : w.ownsRow 0 170 1 v l.length (ptrs cs)
  len : cs.length = l.length
  kids : ∀ (i c : Nat) (t : Trm), cs[i]? = some c → l[i]? = some t → IsRT w Z t c

set_option maxHeartbeats 2000000 in
set_option maxRecDepth 100000 in
theorem refIndex_any (w : World) (wb : Nat) (Z : Nat → Prop) (l : List Trm) (v : Value) (cs : List Nat) (x : ByteArray) (h : RLAt w wb Z l v cs) (hl : l.length ≤ 100000) :
    Calls Tryz.prog 103 #[.pointer (some ⟨wb, 0, none⟩), .string x] w fun e w' => e = .returned (.int .i64 (idxI x l)) ∧ w' = w := by
  have c0 := h.c0
  rcases ownsRow_slice h.row with ⟨hv, hn⟩ | ⟨g, cap, hv, hc1, hc2⟩
  · have HI : Hid (idxI x l = -1) := by
      show _ = _
      obtain rfl : l = [] := List.length_eq_zero_iff.1 hn
      rfl
    rw [hv] at c0
    clear h hv
    go_enter Tryz.func103, Tryz.ntmps103
    go_wp2
    go_loopw [5] (fun i wr => i = .int .i64 0 ∧ wr = w) (fun _ _ => 0)
    case atStart => exact ⟨rfl, rfl⟩
    case round =>
      obtain ⟨rfl, rfl⟩ := hrel
      go_wp2
      go_ret
      exact ⟨by rw [HI.out]; rfl, rfl⟩
  · have Hrow := hide h.row
    have Hv := hide hv
    have Hlen := hide h.len
    have Hk := hide h.kids
    obtain ⟨n, hn⟩ : ∃ n, l.length = n := ⟨_, rfl⟩
    have Hn := hide hn
    rw [hv, hn] at c0
    rw [hn] at hl hc1
    unfold maxLen at hc2
    clear h hv hn
    go_enter Tryz.func103, Tryz.ntmps103
    go_wp2
    go_loopw [5] (fun i wr => ∃ j : Nat, j ≤ n ∧ i = .int .i64 j ∧ wr = w ∧ Hid (∀ (i : Nat) (u : Trm), i < j → l[i]? = some u → u.text ≠ x)) (fun i _ => n - (intOf i).toNat)
    case atStart => exact ⟨0, Nat.zero_le _, rfl, rfl, fun i u hi => by omega⟩
    case round =>
      obtain ⟨j, hj, rfl, rfl, HJ⟩ := hrel
      by_cases hjn : j < n
      · have hjI : (j : Int) < (n : Int) := by omega
        have hjc : (j : Int) < (cap : Int) := by omega
        obtain ⟨t, ht⟩ : ∃ t, l[j]? = some t := ⟨_, List.getElem?_eq_getElem (by rw [Hn.out]; exact hjn)⟩
        obtain ⟨c, hc⟩ : ∃ c, cs[j]? = some c := ⟨_, List.getElem?_eq_getElem (by rw [Hlen.out, Hn.out]; exact hjn)⟩
        have hrow := Hrow.out
        rw [Hv.out] at hrow
        have q0 := (hrow.cellAt j (by rw [Hn.out]; omega))
        have q1 : wr.cell? ⟨g, j, none⟩ = some (.pointer (some ⟨c, 0, none⟩)) := by
          rw [q0]
          simp [ptrs, hc]
        have q2 := (Hk.out j c t hc ht).text
        have Ht := hide ht
        clear hrow q0 hc ht
        by_cases he : t.text = x
        · have HI : Hid (idxI x l = j) := by show _ = _; unfold idxI; rw [idxT_first Ht.out he HJ.out]
          go_wp2
          go_ret
          exact ⟨by rw [HI.out]; rfl, rfl⟩
        · have he' : (t.text.toList == x.toList) = false := by
            cases hb : (t.text.toList == x.toList)
            · rfl
            · exact absurd (toList_inj (eq_of_beq hb)) he
          have HN : Hid (∀ (i : Nat) (u : Trm), i < j + 1 → l[i]? = some u → u.text ≠ x) := fun i u hi hu => by
            by_cases hij : i < j
            · exact HJ.out i u hij hu
            · obtain rfl : i = j := by omega
              rw [Ht.out] at hu
              obtain rfl := Option.some.inj hu
              exact he
          go_wp2
          refine ⟨⟨j + 1, by omega, by simp, trivial, HN⟩, ?_⟩
          simp [intOf]
          omega
      · have hjI : ¬ (j : Int) < (n : Int) := by omega
        have HI : Hid (idxI x l = -1) := by
          show _ = _
          unfold idxI
          rw [idxT_nowhere (fun i u hu => HJ.out i u (by have := (List.getElem?_eq_some_iff.1 hu).1; rw [Hn.out] at this; omega) hu)]
        go_wp2
        go_ret
        exact ⟨by rw [HI.out]; rfl, rfl⟩
end Go.Proofs.YtmfkpllnmmfpiaaGreatDoor

/-
  The document's World in memory: its terms and their classes.
-/
namespace Go.Proofs.YtmfkpllnmmfpiaaGreatDoor
open Go.RowKit

/-- A World in block wb: terms l (rows v), classes cl (rows u). Its own blocks: wb and the two rows; the terms' blocks are in Z, apart from them. -/
structure RWAt (w : World) (wb : Nat) (Z : Nat → Prop) (l : List Trm) (cl : List Nat) (v u : Value) (cs : List Nat) : Prop where
  lt : wb < w.heap.size
  free : ∀ o, w.frozen? ⟨wb, o, none⟩ = false
  c0 : w.cell? ⟨wb, 0, none⟩ = some v
  c1 : w.cell? ⟨wb, 1, none⟩ = some u
  rowL : w.ownsRow 0 170 1 v l.length (ptrs cs)
  rowC : w.ownsRow 0 3 1 u cl.length (intsOf cl)
  len : cs.length = l.length
  kids : ∀ (i c : Nat) (t : Trm), cs[i]? = some c → l[i]? = some t → IsRT w Z t c
  notZ : ¬ Z wb
  notZv : ∀ k, v.ownBlock = some k → ¬ Z k ∧ k ≠ wb ∧ u.ownBlock ≠ some k
  notZu : ∀ k, u.ownBlock = some k → ¬ Z k ∧ k ≠ wb
theorem RWAt.terms {w : World} {wb : Nat} {Z : Nat → Prop} {l : List Trm} {cl : List Nat} {v u : Value} {cs : List Nat} (h : RWAt w wb Z l cl v u cs) : RLAt w wb Z l v cs := ⟨h.lt, h.c0, h.rowL, h.len, h.kids⟩
theorem RWAt.later {w w' : World} {L : List Nat} {wb : Nat} {Z : Nat → Prop} {l : List Trm} {cl : List Nat} {v u : Value} {cs : List Nat} (h : RWAt w wb Z l cl v u cs) (hu : Upd L w w') (hZ : ∀ k, Z k → k ∉ L) (hw : wb ∉ L) (hv : ∀ k, v.ownBlock = some k → k ∉ L) (hc : ∀ k, u.ownBlock = some k → k ∉ L) : RWAt w' wb Z l cl v u cs :=
  ⟨Nat.lt_of_lt_of_le h.lt hu.size, fun o => (hu.frozen (p := ⟨wb, o, none⟩) h.lt hw).trans (h.free o), (hu.cell h.lt hw).trans h.c0, (hu.cell h.lt hw).trans h.c1, hu.ownsRow h.rowL hv, hu.ownsRow h.rowC hc, h.len, fun i c t hcc ht => (h.kids i c t hcc ht).later hu hZ, h.notZ, h.notZv, h.notZu⟩
end Go.Proofs.YtmfkpllnmmfpiaaGreatDoor

/-
  The document's World: join, walked.
-/
namespace Go.Proofs.YtmfkpllnmmfpiaaGreatDoor
open Go.RowKit

/-- The first j mapped, the rest as it was. -/
def jn (f : Nat → Nat) (cl : List Nat) (j : Nat) : List Nat := (cl.map f).take j ++ cl.drop j
theorem jn_zero (f : Nat → Nat) (cl : List Nat) : jn f cl 0 = cl := by simp [jn]
theorem jn_end (f : Nat → Nat) (cl : List Nat) (j : Nat) (h : cl.length ≤ j) : jn f cl j = cl.map f := by
  unfold jn
  rw [List.take_of_length_le (by simpa using h), List.drop_eq_nil_of_le h, List.append_nil]
theorem jn_length (f : Nat → Nat) (cl : List Nat) (j : Nat) : (jn f cl j).length = cl.length := by
  simp [jn]
  omega
theorem jn_at (f : Nat → Nat) (cl : List Nat) (j : Nat) {c : Nat} (h : cl[j]? = some c) : (jn f cl j)[j]? = some c := by
  have hj := (List.getElem?_eq_some_iff.1 h).1
  unfold jn
  rw [List.getElem?_append_right (by simp; omega)]
  simp [Nat.min_eq_left (Nat.le_of_lt hj), h]
theorem jn_set (f : Nat → Nat) (cl : List Nat) (j : Nat) {c : Nat} (h : cl[j]? = some c) : (jn f cl j).set j (f c) = jn f cl (j + 1) := by
  have hj := (List.getElem?_eq_some_iff.1 h).1
  have he := (List.getElem?_eq_some_iff.1 h).2
  unfold jn
  rw [List.drop_eq_getElem_cons hj, List.take_succ_eq_append_getElem (by simpa using hj), List.set_append_right _ _ (by simp; omega)]
  simp [Nat.min_eq_left (Nat.le_of_lt hj), he]
theorem jn_keep (f : Nat → Nat) (cl : List Nat) (j : Nat) {c : Nat} (h : cl[j]? = some c) (hf : f c = c) : jn f cl (j + 1) = jn f cl j := by
  rw [← jn_set f cl j h, hf]
  have := jn_at f cl j h
  obtain ⟨h1, h2⟩ := List.getElem?_eq_some_iff.1 this
  rw [← h2]
  exact List.set_getElem_self h1
theorem RWAt.setC {w : World} {wb g n cap i x : Nat} {Z : Nat → Prop} {l : List Trm} {cl : List Nat} {v : Value} {cs : List Nat} (h : RWAt w wb Z l cl v (.slice (some ⟨g, 0, none⟩) n cap) cs) : RWAt (w.setCell ⟨g, i, none⟩ (.int .i64 x)) wb Z l (cl.set i x) v (.slice (some ⟨g, 0, none⟩) n cap) cs := by
  have hg := h.notZu g rfl
  have hu : Upd [g] w (w.setCell ⟨g, i, none⟩ (.int .i64 x)) := (Upd.refl [g] w).setCell (by simp) _
  have hw : wb ∉ [g] := by simp; exact fun e => hg.2 e.symm
  refine ⟨Nat.lt_of_lt_of_le h.lt hu.size, fun o => (hu.frozen (p := ⟨wb, o, none⟩) h.lt hw).trans (h.free o), (hu.cell h.lt hw).trans h.c0, (hu.cell h.lt hw).trans h.c1, hu.ownsRow h.rowL (fun k hk hm => ?_), ?_, h.len, fun i c t hcc ht => (h.kids i c t hcc ht).later hu (fun k hk hm => ?_), h.notZ, h.notZv, h.notZu⟩
  · simp at hm
    subst hm
    exact (h.notZv k hk).2.2 rfl
  · have := ownsRow_set1 (i := i) (v := x) h.rowC
    simpa using this
  · simp at hm
    subst hm
    exact hg.1 hk

set_option maxHeartbeats 4000000 in
set_option maxRecDepth 100000 in
theorem refJoin_any (w : World) (wb a b : Nat) (Z : Nat → Prop) (l : List Trm) (cl : List Nat) (v u : Value) (cs : List Nat) (h : RWAt w wb Z l cl v u cs) (ha : a < cl.length) (hb : b < cl.length) (hl : cl.length ≤ 100000) :
    Calls Tryz.prog 112 #[.pointer (some ⟨wb, 0, none⟩), .int .i64 a, .int .i64 b] w fun e w' => e = .returned (.bool (clsAt cl a != clsAt cl b)) ∧ RWAt w' wb Z l (joinC cl a b) v u cs ∧ Upd u.ownBlock.toList w w' := by
  rcases ownsRow_slice h.rowC with ⟨_, h0⟩ | ⟨g, cap, hv, hc1, hc2⟩
  · omega
  subst hv
  obtain ⟨n, hn⟩ : ∃ n, cl.length = n := ⟨_, rfl⟩
  have Hn := hide hn
  obtain ⟨x, hx⟩ : ∃ x, clsAt cl a = x := ⟨_, rfl⟩
  obtain ⟨y, hy⟩ : ∃ y, clsAt cl b = y := ⟨_, rfl⟩
  have hxa : cl[a]? = some x := by rw [← hx]; unfold clsAt; rw [List.getD_eq_getElem?_getD, List.getElem?_eq_getElem ha]; rfl
  have hyb : cl[b]? = some y := by rw [← hy]; unfold clsAt; rw [List.getD_eq_getElem?_getD, List.getElem?_eq_getElem hb]; rfl
  have HJ : Hid (joinC cl a b = cl.map fun z => if z = x then y else z) := by show _ = _; unfold joinC; rw [hx, hy]
  have Hx := hide hx
  have Hy := hide hy
  have c1 := h.c1
  have q1 : w.cell? ⟨g, a, none⟩ = some (.int .i64 x) := by rw [h.rowC.cellAt a (by omega)]; simp [intsOf, hxa]
  have q2 : w.cell? ⟨g, b, none⟩ = some (.int .i64 y) := by rw [h.rowC.cellAt b (by omega)]; simp [intsOf, hyb]
  rw [hn] at c1 ha hb hc1 hl h ⊢
  unfold maxLen at hc2
  have H0 := hide h
  have haI : (a : Int) < (n : Int) := by omega
  have hbI : (b : Int) < (n : Int) := by omega
  clear h hx hy hxa hyb hn
  go_enter Tryz.func112, Tryz.ntmps112
  go_wp2
  go_loopw [9] (fun i wr => ∃ j : Nat, j ≤ n ∧ i = .int .i64 j ∧ Hid (RWAt wr wb Z l (jn (fun z => if z = x then y else z) cl j) v (.slice (some ⟨g, 0, none⟩) n cap) cs ∧ Upd [g] w wr)) (fun i _ => n - (intOf i).toNat)
  case atStart => exact ⟨0, Nat.zero_le _, rfl, by rw [jn_zero]; exact H0.out, Upd.refl _ _⟩
  case round =>
    obtain ⟨j, hj, rfl, HR⟩ := hrel
    clear c1 q1 q2
    have k1 := HR.out.1.c1
    by_cases hjn : j < n
    · have hjI : (j : Int) < (n : Int) := by omega
      obtain ⟨c, hc⟩ : ∃ c, cl[j]? = some c := ⟨_, List.getElem?_eq_getElem (by rw [Hn.out]; exact hjn)⟩
      have k2 : wr.cell? ⟨g, j, none⟩ = some (.int .i64 c) := by
        have hrc := HR.out.1.rowC
        rw [jn_length, Hn.out] at hrc
        rw [hrc.cellAt j (by omega)]
        simp [intsOf, jn_at _ cl j hc]
      have kf := row_free HR.out.1.rowC
      have Hc := hide hc
      clear hc
      by_cases he : c = x
      · have HS : Hid ((jn (fun z => if z = x then y else z) cl j).set j y = jn (fun z => if z = x then y else z) cl (j + 1)) := by
          have hh : (jn (fun z => if z = x then y else z) cl j).set j (if c = x then y else c) = jn (fun z => if z = x then y else z) cl (j + 1) := jn_set (fun z => if z = x then y else z) cl j Hc.out
          rw [if_pos he] at hh
          exact hh
        have he' : ((c : Int) == (x : Int)) = true := by simp [he]
        have he2 : (c : Int) = (x : Int) := by omega
        go_wp2
        refine ⟨⟨j + 1, by omega, by simp, by rw [← HS.out]; exact HR.out.1.setC, HR.out.2.setCell (by simp) _⟩, ?_⟩
        simp [intOf]
        omega
      · have HS : Hid (jn (fun z => if z = x then y else z) cl (j + 1) = jn (fun z => if z = x then y else z) cl j) := jn_keep _ cl j Hc.out (by simp [he])
        have he' : ((c : Int) == (x : Int)) = false := by simp; omega
        have he2 : ¬ (c : Int) = (x : Int) := by omega
        go_wp2
        refine ⟨⟨j + 1, by omega, by simp, by rw [HS.out]; exact HR.out.1, HR.out.2⟩, ?_⟩
        simp [intOf]
        omega
    · have hjI : ¬ (j : Int) < (n : Int) := by omega
      have HE : Hid (jn (fun z => if z = x then y else z) cl j = joinC cl a b) := by show _ = _; rw [jn_end _ cl j (by rw [Hn.out]; omega), HJ.out]
      have HB : Hid ((clsAt cl a != clsAt cl b) = ((x : Int) != (y : Int))) := by show _ = _; rw [Hx.out, Hy.out, Bool.eq_iff_iff]; simp only [bne_iff_ne, ne_eq]; omega
      go_wp2
      go_ret
      exact ⟨by rw [HB.out]; rfl, by rw [← HE.out]; exact HR.out.1, HR.out.2⟩
end Go.Proofs.YtmfkpllnmmfpiaaGreatDoor
