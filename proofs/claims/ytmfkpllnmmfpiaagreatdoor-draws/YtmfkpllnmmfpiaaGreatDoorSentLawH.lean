/-
  'term' of a Web, walked: a known term, as it may be said elsewhere.
-/
import Derived.Test.YtmfkpllnmmfpiaaGreatDoorPlainTextH
import Derived.Test.YtmfkpllnmmfpiaaGreatDoorTermHeapH
import Derived.Test.YtmfkpllnmmfpiaaGreatDoorReadSizeH
import Derived.Test.YtmfkpllnmmfpiaaGreatDoorWhyLawH
namespace Go.Proofs.YtmfkpllnmmfpiaaGreatDoor
open Go.RowKit

def partsL (s : Sh) : List Nat := (List.range s.2.1).map (partAt s)
/-- The term that a number stands for. -/
def termTm (S : WS) : (f : Nat) → Nat → Tm (f + 2)
  | 0, i => Tm.mk (shapeAt S i).1 0 ((partsL (shapeAt S i)).map fun _ => (Tm.mk ⟨#[]⟩ 0 [] : Tm 1))
  | f + 1, i => Tm.mk (shapeAt S i).1 0 ((partsL (shapeAt S i)).map (termTm S f))

theorem info_readTerm : (Tryz.prog.info? 98).map (fun i => (i.zero, i.size, i.bytes)) = some (some (.agg #[.string ⟨#[]⟩, .int .i64 0, .slice none 0 0]), 3, 48) := by kernel_rfl
def PartTerm (wb : Nat) (n : Nat) (g : Nat → Tm n) (w0 : World) (k : Nat) : Prop :=
  ∀ w : World, Upd [] w0 w → Calls Tryz.prog 130 #[.pointer (some ⟨wb, 0, none⟩), .int .i64 k] w fun e w' => ∃ (a : ByteArray) (p : Int) (gq : Option Addr) (l cc : Nat), e = .returned (.agg #[.string a, .int .i64 p, .slice gq l cc]) ∧ Upd [] w w' ∧ IsTm w' (fun j => w.heap.size ≤ j) n (.string a, .int .i64 p, .slice gq l cc) (g k)

theorem own_geT {w : World} {base e size n k : Nat} {v : Value} {xs : List Value} (h : w.ownsRow base e size v n xs) (hk : v.ownBlock = some k) : base ≤ k := by
  rcases h.2 with ⟨hv, _⟩ | ⟨g, cap, cur, hv, hg, _⟩
  · rw [hv] at hk; simp [Value.ownBlock] at hk
  · rw [hv] at hk
    simp only [own_slice, Option.some.injEq] at hk
    subst hk
    exact hg
theorem own_base0 {w : World} {base e size n : Nat} {v : Value} {xs : List Value} (h : w.ownsRow base e size v n xs) : w.ownsRow 0 e size v n xs := ownsRow_base h fun _ _ => Nat.zero_le _
/-- Where the loop of 'term' stands. -/
structure Terming (w wr : World) (s : Sh) (n : Nat) (g : Nat → Tm n) (v : Value) (j : Nat) : Prop where
  box : BoxSh wr (w.heap.size + 1) s
  r0 : ∀ o, o < 3 → ∃ u, wr.cell? ⟨w.heap.size, o, none⟩ = some u
  rf : ∀ o, wr.frozen? ⟨w.heap.size, o, none⟩ = false
  t0 : wr.cell? ⟨w.heap.size + 2, 0, none⟩ = some (.string s.1)
  t1 : wr.cell? ⟨w.heap.size + 2, 1, none⟩ = some (.int .i64 0)
  t2 : wr.cell? ⟨w.heap.size + 2, 2, none⟩ = some v
  tf : ∀ o, wr.frozen? ⟨w.heap.size + 2, o, none⟩ = false
  row : ∃ cs : List V3, wr.ownsRow (w.heap.size + 3) 98 3 v j (flat3 cs) ∧ AllIs (IsTm wr (fun k => w.heap.size + 3 ≤ k ∧ v.ownBlock ≠ some k) n) cs (((partsL s).take j).map g)
  upd : Upd [] w wr
  size : w.heap.size + 3 ≤ wr.heap.size

theorem Terming.next {w wr w2 w3 : World} {s : Sh} {n j g' cap : Nat} {g : Nat → Tm n} {v : Value} {cs : List V3} {c : V3} {X : Obj} {k : Nat} (h : Terming w wr s n g v j) (hk : (partsL s)[j]? = some k) (hrow : wr.ownsRow (w.heap.size + 3) 98 3 v j (flat3 cs)) (hall : AllIs (IsTm wr (fun k => w.heap.size + 3 ≤ k ∧ v.ownBlock ≠ some k) n) cs (((partsL s).take j).map g))
    (hu2 : Upd [] wr w2) (hc : IsTm w2 (fun k => wr.heap.size ≤ k) n c (g k))
    (hown : w3.ownsRow (w.heap.size + 3) 98 3 (.slice (some ⟨g', 0, none⟩) (j + 1) cap) (j + 1) (flat3 cs ++ [c.1, c.2.1, c.2.2])) (hgrow : (w2.alloc X).grownBy w3 v.ownBlock) (hat : v.ownBlock = some g' ∨ g' = (w2.alloc X).heap.size) :
    Terming w (w3.setCell ⟨w.heap.size + 2, 2, none⟩ (.slice (some ⟨g', 0, none⟩) (j + 1) cap)) s n g (.slice (some ⟨g', 0, none⟩) (j + 1) cap) (j + 1) := by
  have hsz := h.size
  have hge : ∀ q, v.ownBlock = some q → w.heap.size + 3 ≤ q ∧ q < wr.heap.size := fun q hq => ⟨by
    rcases hrow.2 with ⟨hv, _⟩ | ⟨g, cap, cur, hv, hg, _⟩
    · rw [hv] at hq; simp [Value.ownBlock] at hq
    · rw [hv] at hq; cases hq; exact hg, ownsRow_lt hrow hq⟩
  have U1 : Upd v.ownBlock.toList w2 w3 := ((Upd.refl v.ownBlock.toList w2).alloc X).trans (Upd.of_grown hgrow)
  have U : Upd v.ownBlock.toList wr w3 := (hu2.mono (fun x hx _ => by cases hx)).trans U1
  have no : ∀ q, q < w.heap.size + 3 → q ∉ v.ownBlock.toList := fun q hq hm => by
    have := hge q (by simpa using hm)
    omega
  have hg3 : w.heap.size + 3 ≤ g' := by
    rcases hown.2 with ⟨hv, _⟩ | ⟨g, cap, cur, hv, hg, _⟩
    · cases hv
    · cases hv; exact hg
  have US : Upd [w.heap.size + 2] w3 (w3.setCell ⟨w.heap.size + 2, 2, none⟩ (.slice (some ⟨g', 0, none⟩) (j + 1) cap)) := (Upd.refl _ w3).setCell (by simp) _
  have h3l : w.heap.size + 2 < w3.heap.size := by have := U.size; omega
  have a0 := (U.cell (p := ⟨w.heap.size + 2, 0, none⟩) (by show w.heap.size + 2 < _; omega) (no (w.heap.size + 2) (by omega))).trans h.t0
  have a1 := (U.cell (p := ⟨w.heap.size + 2, 1, none⟩) (by show w.heap.size + 2 < _; omega) (no (w.heap.size + 2) (by omega))).trans h.t1
  have a2 := (U.cell (p := ⟨w.heap.size + 2, 2, none⟩) (by show w.heap.size + 2 < _; omega) (no (w.heap.size + 2) (by omega))).trans h.t2
  refine ⟨(h.box.later U (no _ (by omega))).later US (by simp), fun o ho => ?_, fun o => ?_, by go_simp, by go_simp, by go_simp, fun o => ?_, ⟨cs ++ [c], ?_, ?_⟩, ?_, ?_⟩
  · obtain ⟨u, hu⟩ := h.r0 o ho
    exact ⟨u, ((US.cell (p := ⟨w.heap.size, o, none⟩) (by show w.heap.size < _; omega) (by simp)).trans ((U.cell (p := ⟨w.heap.size, o, none⟩) (by show w.heap.size < _; omega) (no w.heap.size (by omega))).trans hu))⟩
  · exact (US.frozen (p := ⟨w.heap.size, o, none⟩) (by show w.heap.size < _; omega) (by simp)).trans ((U.frozen (p := ⟨w.heap.size, o, none⟩) (by show w.heap.size < _; omega) (no w.heap.size (by omega))).trans (h.rf o))
  · rw [World.frozen?_setCell]
    exact (U.frozen (p := ⟨w.heap.size + 2, o, none⟩) (by show w.heap.size + 2 < _; omega) (no (w.heap.size + 2) (by omega))).trans (h.tf o)
  · rw [flat3_append]
    exact US.ownsRow hown (fun q hq hm => by simp only [own_slice, Option.some.injEq] at hq; simp only [List.mem_singleton] at hm; omega)
  · have hlt := (List.getElem?_eq_some_iff.1 hk).1
    rw [List.getElem?_eq_getElem hlt] at hk
    rw [List.take_succ_eq_append_getElem hlt, Option.some.inj hk, List.map_append]
    have hz2 := hu2.size
    have hfr : ∀ q, (w.heap.size + 3 ≤ q ∧ v.ownBlock ≠ some q) ∧ q < wr.heap.size → w.heap.size + 3 ≤ q ∧ (Value.slice (some ⟨g', 0, none⟩) (j + 1) cap).ownBlock ≠ some q := fun q hq => ⟨hq.1.1, fun e => by
      simp only [own_slice, Option.some.injEq] at e
      subst e
      rcases hat with hat | hat
      · exact hq.1.2 hat
      · simp at hat; omega⟩
    refine AllIs.snoc ?_ ?_
    · have h1 : IsTm w2 (fun k => wr.heap.size ≤ k ∧ k < w2.heap.size) n c (g k) := hc.mono fun q hq hl => ⟨hq, hl⟩
      have h2 := h1.later U1 (fun q hq hm => by have := hge q (by simpa using hm); omega)
      refine (h2.later US (fun q hq hm => by simp only [List.mem_singleton] at hm; omega)).mono (fun q hq _ => ⟨by omega, fun e => ?_⟩)
      simp only [own_slice, Option.some.injEq] at e
      subst e
      rcases hat with hat | hat
      · have := hge _ hat; omega
      · simp at hat; omega
    · refine hall.mono fun a b hab => ?_
      have h1 : IsTm wr (fun k => (w.heap.size + 3 ≤ k ∧ v.ownBlock ≠ some k) ∧ k < wr.heap.size) n a b := hab.mono fun q hq hl => ⟨hq, hl⟩
      have h2 := h1.later U (fun q hq hm => hq.1.2 (by simpa using hm))
      exact (h2.later US (fun q hq hm => by simp only [List.mem_singleton] at hm; omega)).mono (fun q hq _ => hfr q hq)
  · refine (h.upd.trans' U (fun x hx hl => ?_)).setCell (.inr (by show w.heap.size ≤ w.heap.size + 2; omega)) _
    have := hge x (by simpa using hx)
    omega
  · have := U.size
    simp [World.setCell]
    omega
theorem partsL_get {s : Sh} {q : Nat} (h : q < s.2.1) : (partsL s)[q]? = some (partAt s q) := by
  unfold partsL
  rw [List.getElem?_map, List.getElem?_range h]
  rfl
theorem partsL_length (s : Sh) : (partsL s).length = s.2.1 := by simp [partsL]

set_option maxHeartbeats 4000000 in
set_option maxRecDepth 100000 in
theorem term_step (w : World) (wb : Nat) (H : Hd) (Z : Nat → Prop) (S : WS) (i n : Nat) (g : Nat → Tm n) (h : WebAt w wb H Z S) (hB : Base S) (hi : i < S.shapes.length) (hT : ∀ k, k < i → PartTerm wb n g w k) :
    Calls Tryz.prog 130 #[.pointer (some ⟨wb, 0, none⟩), .int .i64 i] w fun e w' => ∃ (a : ByteArray) (p : Int) (gq : Option Addr) (l cc : Nat), e = .returned (.agg #[.string a, .int .i64 p, .slice gq l cc]) ∧ Upd [] w w' ∧ IsTm w' (fun j => w.heap.size ≤ j) (n + 1) (.string a, .int .i64 p, .slice gq l cc) (Tm.mk (shapeAt S i).1 0 ((partsL (shapeAt S i)).map g)) := by
  obtain ⟨i0, hi0, hz0, hz1, hz2⟩ := info_parts info_readTerm
  have hsh := shapeAt_some hi
  have hg := hB.good i _ hsh
  obtain ⟨gs, cap, hd, hcap, hmax⟩ : ∃ g cap, H.shapes = .slice (some ⟨g, 0, none⟩) S.shapes.length cap ∧ S.shapes.length ≤ cap ∧ cap ≤ maxLen := by
    rcases ownsRow_slice h.rs with ⟨_, h0⟩ | hh
    · omega
    · exact hh
  have c1 := h.c1
  rw [hd] at c1
  have hrs := h.rs
  rw [hd] at hrs
  obtain ⟨k0, k1, k2, k3, k4⟩ := row5_cells hrs hsh
  have hgl : gs < w.heap.size := ownsRow_lt hrs rfl
  have UR := (Upd.refl [] w).alloc (.cells #[.string ⟨#[]⟩, .int .i64 0, .slice none 0 0] 98)
  have c1' := (UR.cell (p := ⟨wb, 2, none⟩) h.lt (by simp)).trans c1
  have k0' := (UR.cell (p := ⟨gs, i * 5, none⟩) hgl (by simp)).trans k0
  have k1' := (UR.cell (p := ⟨gs, i * 5 + 1, none⟩) hgl (by simp)).trans k1
  have k2' := (UR.cell (p := ⟨gs, i * 5 + 2, none⟩) hgl (by simp)).trans k2
  have k3' := (UR.cell (p := ⟨gs, i * 5 + 3, none⟩) hgl (by simp)).trans k3
  have k4' := (UR.cell (p := ⟨gs, i * 5 + 4, none⟩) hgl (by simp)).trans k4
  have hi' : (i : Int) < (S.shapes.length : Int) := by omega
  have hcnt := hg.count
  have hc3 : ((shapeAt S i).2.1 : Int) ≤ 3 := by omega
  have HT := hide hT
  have Hg := hide hg
  clear hsh hrs hd h hB hg hT k0 k1 k2 k3 k4 c1 UR
  generalize shapeAt S i = s at *
  have hstart : Terming w (((w.alloc (.cells #[.string ⟨#[]⟩, .int .i64 0, .slice none 0 0] 98)).alloc (.cells #[.string s.1, .int .i64 s.2.1, .int .i64 s.2.2.1, .int .i64 s.2.2.2.1, .int .i64 s.2.2.2.2] 141)).alloc (.cells #[.string s.1, .int .i64 0, .slice none 0 0] 98)) s n g (.slice none 0 0) 0 := by
    have U3 := (((Upd.refl [] w).alloc (.cells #[.string ⟨#[]⟩, .int .i64 0, .slice none 0 0] 98)).alloc (.cells #[.string s.1, .int .i64 s.2.1, .int .i64 s.2.2.1, .int .i64 s.2.2.2.1, .int .i64 s.2.2.2.2] 141)).alloc (.cells #[.string s.1, .int .i64 0, .slice none 0 0] 98)
    refine ⟨⟨by simp, by go_simp, by go_simp, by go_simp, by go_simp, by go_simp⟩, fun o ho => ?_, fun o => by go_simp, by go_simp, by go_simp, by go_simp, fun o => by go_simp, ⟨[], World.ownsRow_nil _ _ _ _, trivial⟩, U3, by simp⟩
    match o, ho with
    | 0, _ => exact ⟨.string ⟨#[]⟩, by go_simp⟩
    | 1, _ => exact ⟨.int .i64 0, by go_simp⟩
    | 2, _ => exact ⟨.slice none 0 0, by go_simp⟩
    | o + 3, ho => omega
  go_enter Tryz.func130, Tryz.ntmps130
  go_wp2
  generalize ((w.alloc (.cells #[.string ⟨#[]⟩, .int .i64 0, .slice none 0 0] 98)).alloc (.cells #[.string s.1, .int .i64 s.2.1, .int .i64 s.2.2.1, .int .i64 s.2.2.2.1, .int .i64 s.2.2.2.2] 141)).alloc (.cells #[.string s.1, .int .i64 0, .slice none 0 0] 98) = W1 at hstart ⊢
  go_loopw [24] (fun ix wr => ∃ q : Nat, q ≤ s.2.1 ∧ ix = .int .i64 q ∧ Hid (∃ v, Terming w wr s n g v q)) (fun ix _ => s.2.1 - (intOf ix).toNat)
  case atStart => exact ⟨0, Nat.zero_le _, rfl, _, hstart⟩
  case round =>
    obtain ⟨q, hq, rfl, HQ⟩ := hrel
    clear hstart c1' k0' k1' k2' k3' k4'
    obtain ⟨v, ht⟩ := HQ.out
    clear HQ
    obtain ⟨cs, hrow, hall⟩ := ht.row
    obtain ⟨gv, capv, hv⟩ := slice_len hrow
    by_cases hqc : q < s.2.1
    · have hqc' : (q : Int) < (s.2.1 : Int) := by omega
      have hcq := ht.box.part q (by omega)
      have hpq := Hg.out.part q hqc
      have HC := hide (HT.out _ hpq)
      have Hk := hide (partsL_get hqc)
      generalize partAt s q = pq at *
      have t2 := ht.t2
      have tf := ht.tf
      have hsz := ht.size
      subst hv
      have HK : Hid (∀ w2, Upd [] wr.drew w2 → ∀ X : Obj, w2.cell? ⟨w.heap.size + 2, 2, none⟩ = some (.slice gv q capv) ∧ (w2.alloc X).cell? ⟨w.heap.size + 2, 2, none⟩ = some (.slice gv q capv) ∧ (w2.alloc X).ownsRow (w.heap.size + 3) 98 3 (.slice gv q capv) q (flat3 cs) ∧ w.heap.size + 3 ≤ (w2.alloc X).heap.size ∧ (∀ w3, (w2.alloc X).grownBy w3 (Value.slice gv q capv).ownBlock → w3.cell? ⟨w.heap.size + 2, 2, none⟩ = some (.slice gv q capv) ∧ ∀ o, w3.frozen? ⟨w.heap.size + 2, o, none⟩ = false)) := fun w2 hu2 X => by
        have U : Upd [] wr w2 := (Upd.refl [] wr).drew.trans hu2
        have hl : w.heap.size + 2 < wr.heap.size := by omega
        have e1 := (U.cell (p := ⟨w.heap.size + 2, 2, none⟩) hl (by simp)).trans t2
        have e2 := ((U.alloc X).cell (p := ⟨w.heap.size + 2, 2, none⟩) hl (by simp)).trans t2
        refine ⟨e1, e2, (U.alloc X).ownsRow hrow (fun _ _ => by simp), Nat.le_trans hsz (U.alloc X).size, fun w3 hgr => ?_⟩
        have UG : Upd (Value.slice gv q capv).ownBlock.toList wr w3 := ((U.alloc X).mono (fun x hx _ => by cases hx)).trans (Upd.of_grown hgr)
        have hn : w.heap.size + 2 ∉ (Value.slice gv q capv).ownBlock.toList := fun hm => by
          have hm' : (Value.slice gv q capv).ownBlock = some (w.heap.size + 2) := by simpa using hm
          rcases hrow.2 with ⟨hv, _⟩ | ⟨g, cap, cur, hv, hg, _⟩
          · rw [hv] at hm'; simp [Value.ownBlock] at hm'
          · rw [hv] at hm'; simp only [own_slice, Option.some.injEq] at hm'; omega
        exact ⟨(UG.cell (p := ⟨w.heap.size + 2, 2, none⟩) hl hn).trans t2, fun o => (UG.frozen (p := ⟨w.heap.size + 2, o, none⟩) hl hn).trans (tf o)⟩
      have Ht := hide ht
      have Hrow := hide hrow
      have Hall := hide hall
      have hup := ht.upd
      have HCw := hide (HC.out wr.drew hup.drew)
      have hlm : q + 1 ≤ maxLen := by unfold maxLen; omega
      have hlb : (q + 1) * 48 ≤ 140737488355328 := by omega
      clear ht hrow hall hup HC
      go_wp2_with fail
      go_region_law (first
        | (refine step_append_lies _ (by rfl) _ _ 96 (by rfl) (w.heap.size + 3) 98 i0 (.agg #[.string ⟨#[]⟩, .int .i64 0, .slice none 0 0]) 3 48 Tryz.underlying96 hi0 hz0 hz1 hz2 (by rfl) (by decide) (.slice gv q capv) q (flat3 cs) (by rfl) m3 ⟨w2.heap.size, 0, none⟩ 1 1 [.string a2, .int .i64 p2, .slice g2 l2 d2] (by rfl) (by rfl) mnews mone (by decide) hlm hlb m4 _ (by rfl) ?_; intro g6 cap6 w6 hown6 hgrow6 hat6 hlt6; obtain ⟨n1, n2⟩ := Hm5.out w6 hgrow6)
        | (go_simp; go_at_call 130; refine HCw.out.mono ?_; rintro e w2 ⟨a2, p2, g2, l2, d2, rfl, hu2, hc2⟩; obtain ⟨m1, m2, m3, m4, m5⟩ := HK.out w2 hu2 (.cells #[.string a2, .int .i64 p2, .slice g2 l2 d2] 98); have Hm5 := hide m5; have Hu2 := hide hu2; have Hc2 := hide hc2; have mnews : ∀ j u, [Value.string a2, .int .i64 p2, .slice g2 l2 d2][j]? = some u → (w2.alloc (.cells #[.string a2, .int .i64 p2, .slice g2 l2 d2] 98)).cell? ((⟨w2.heap.size, 0, none⟩ : Addr).add j) = some u := World.news_of_block (heap_alloc_new w2 _); have mone : ∀ u ∈ [Value.string a2, .int .i64 p2, .slice g2 l2 d2], u.oneCell' = true := (by intro u hu'; simp at hu'; rcases hu' with rfl | rfl | rfl <;> rfl); clear m5 hu2 hc2))
      all_goals (
        go_wp2
        refine ⟨⟨q + 1, by omega, by go_num, _, Ht.out.next Hk.out Hrow.out Hall.out ((Upd.refl [] wr).drew.trans Hu2.out) Hc2.out hown6 hgrow6 hat6⟩, by simp [intOf]; omega⟩)
    · obtain rfl : q = s.2.1 := by omega
      have hge : ¬ ((s.2.1 : Nat) : Int) < (s.2.1 : Int) := by omega
      obtain ⟨z0, r0⟩ := ht.r0 0 (by omega)
      obtain ⟨z1, r1⟩ := ht.r0 1 (by omega)
      obtain ⟨z2, r2⟩ := ht.r0 2 (by omega)
      have rf := ht.rf
      have t0 := ht.t0
      have t1 := ht.t1
      have t2 := ht.t2
      have hsz := ht.size
      have Ht := hide ht
      have Hrow := hide hrow
      have Hall := hide hall
      subst hv
      clear ht hrow hall
      go_wp2
      have U3 : Upd [w.heap.size] wr (((wr.setCell ⟨w.heap.size, 0, none⟩ (.string s.1)).setCell ⟨w.heap.size, 1, none⟩ (.int .i64 0)).setCell ⟨w.heap.size, 2, none⟩ (.slice gv s.2.1 capv)) := (((Upd.refl [w.heap.size] wr).setCell (p := ⟨w.heap.size, 0, none⟩) (by simp) _).setCell (p := ⟨w.heap.size, 1, none⟩) (by simp) _).setCell (p := ⟨w.heap.size, 2, none⟩) (by simp) _
      refine bodyPost_ret (v := .agg #[.string s.1, .int .i64 0, .slice gv s.2.1 capv]) (by simp [results, Tryz.results130, go_sem, r0, r1, r2]) rfl ⟨_, _, _, _, _, rfl, Ht.out.upd.trans' U3 (fun x hx hl => by simp only [List.mem_singleton] at hx; omega), rfl, rfl, cs, ?_, ?_, ?_⟩
      · have hr := U3.ownsRow Hrow.out (fun k hk hm => by
          have := own_geT Hrow.out hk
          simp only [List.mem_singleton] at hm
          omega)
        have e : (Tm.mk s.1 0 (List.map g (partsL s))).parts.length = s.2.1 := by show (List.map g (partsL s)).length = _; rw [List.length_map, partsL_length]
        rw [e]
        exact own_base0 hr
      · intro k hk
        have := own_geT Hrow.out hk
        omega
      · have ha := Hall.out
        rw [List.take_of_length_le (by rw [partsL_length]; exact Nat.le_refl _)] at ha
        refine ha.mono fun a b hab => (hab.later U3 (fun k hk hm => ?_)).mono (fun k hk _ => ?_)
        · simp only [List.mem_singleton] at hm
          omega
        · have := hk.1
          omega

theorem webTerm_ok (S : WS) (wb : Nat) (H : Hd) (Z : Nat → Prop) (hB : Base S) : ∀ (f i : Nat), i ≤ f → i < S.shapes.length → ∀ w, WebAt w wb H Z S → PartTerm wb (f + 2) (termTm S f) w i
  | 0, i, hif, hi, w, hw => fun W hu => by
    obtain rfl : i = 0 := by omega
    exact term_step W wb H Z S 0 1 _ (hw.later hu (fun _ _ => by simp)) hB hi (fun k hk => by omega)
  | f + 1, i, hif, hi, w, hw => fun W hu => by
    have hW := hw.later hu (fun _ _ => by simp)
    exact term_step W wb H Z S i (f + 2) (termTm S f) hW hB hi (fun k hk => webTerm_ok S wb H Z hB f k (by omega) (by omega) W hW)
end Go.Proofs.YtmfkpllnmmfpiaaGreatDoor

/-
  Plain: the known sentences, as they may be said elsewhere, are those that are said.
-/
namespace Go.Proofs.YtmfkpllnmmfpiaaGreatDoor
open Go.RowKit

mutual
/-- How many terms a term has in it. -/
def Trm.size : Trm → Nat
  | .node _ ps => 1 + Trm.sizeL ps
def Trm.sizeL : List Trm → Nat
  | [] => 0
  | p :: ps => p.size + Trm.sizeL ps
end
theorem sizeL_map {n : Nat} (h : ∀ t : Tm n, (erase n t).size = sizeT n t) : ∀ l : List (Tm n), Trm.sizeL (l.map (erase n)) = sumOf (sizeT n) l
  | [] => rfl
  | p :: l => by
    show (erase n p).size + Trm.sizeL (l.map (erase n)) = sizeT n p + sumOf (sizeT n) l
    rw [h p, sizeL_map h l]
theorem size_erase : ∀ (n : Nat) (t : Tm n), (erase n t).size = sizeT n t
  | 0, t => nomatch t
  | n + 1, t => by
    show 1 + Trm.sizeL (t.parts.map (erase n)) = 1 + sumOf (sizeT n) t.parts
    rw [sizeL_map (size_erase n)]
def ST.size (s : ST) : Nat := s.l.size + s.r.size
theorem sizeS_erase {n : Nat} (x : Snt n) : (eraseS x).size = sizeS x := by
  show (erase n x.left).size + (erase n x.right).size = _
  rw [size_erase, size_erase]
  rfl

theorem shapeOf_parts {i : Nat} {s : Sh} (h : ShOK i s) : shapeOf s.1 (partsL s) = s := by
  have hc := h.count
  have hl := partsL_length s
  refine Sh.ext' rfl hl fun j hj => ?_
  by_cases hjs : j < s.2.1
  · exact partAt_shapeOf (by omega) (partsL_get hjs)
  · rw [h.rest j (by omega) hj]
    have e : ∀ k, s.2.1 ≤ k → (partsL s).getD k 0 = 0 := fun k hk => by rw [List.getD_eq_getElem?_getD, List.getElem?_eq_none (by omega)]; rfl
    match j, hj, hjs with
    | 0, _, hjs => exact e 0 (by omega)
    | 1, _, hjs => exact e 1 (by omega)
    | 2, _, hjs => exact e 2 (by omega)
    | j + 3, hj, _ => omega
theorem partsL_lt {i : Nat} {s : Sh} (h : ShOK i s) : ∀ k ∈ partsL s, k < i := fun k hk => by
  unfold partsL at hk
  obtain ⟨q, hq, rfl⟩ := List.mem_map.1 hk
  exact h.part q (List.mem_range.1 hq)
theorem termTm_den {S : WS} (hB : Base S) : ∀ (f i : Nat), i ≤ f → i < S.shapes.length → DenE S (erase _ (termTm S f i)) i
  | 0, i, h1, h2 => by
    obtain rfl : i = 0 := by omega
    have hg := hB.good 0 _ (shapeAt_some h2)
    have h0 : partsL (shapeAt S 0) = [] := by
      cases hp : partsL (shapeAt S 0) with
      | nil => rfl
      | cons k l => exact absurd (partsL_lt hg k (by rw [hp]; simp)) (Nat.not_lt_zero _)
    have e : erase _ (termTm S 0 0) = .node (shapeAt S 0).1 [] := by
      show Trm.node (shapeAt S 0).1 (((partsL (shapeAt S 0)).map fun _ => (Tm.mk ⟨#[]⟩ 0 [] : Tm 1)).map (erase 1)) = _
      rw [h0]
      rfl
    rw [e]
    refine .mk (ks := []) ?_ rfl (by simp) (fun j p k hp _ => by simp at hp)
    rw [← h0, shapeOf_parts hg]
    exact shapeAt_some h2
  | f + 1, i, h1, h2 => by
    have hg := hB.good i _ (shapeAt_some h2)
    have e : erase _ (termTm S (f + 1) i) = .node (shapeAt S i).1 ((partsL (shapeAt S i)).map fun k => erase _ (termTm S f k)) := by
      show Trm.node (shapeAt S i).1 (((partsL (shapeAt S i)).map (termTm S f)).map (erase (f + 2))) = _
      rw [List.map_map]
      rfl
    rw [e]
    refine .mk (ks := partsL (shapeAt S i)) (by rw [shapeOf_parts hg]; exact shapeAt_some h2) (by simp) (by rw [partsL_length]; exact hg.count) fun j p k hp hk => ?_
    rw [List.getElem?_map, hk] at hp
    simp only [Option.map_some, Option.some.injEq] at hp
    subst hp
    have := partsL_lt hg k (List.mem_of_getElem? hk)
    exact termTm_den hB f k (by omega) (by omega)
theorem termTm_narrow {S : WS} (hB : Base S) : ∀ (f i : Nat), i ≤ f → i < S.shapes.length → Narrow _ (termTm S f i)
  | 0, i, h1, h2 => by
    obtain rfl : i = 0 := by omega
    have hg := hB.good 0 _ (shapeAt_some h2)
    have h0 : partsL (shapeAt S 0) = [] := by
      cases hp : partsL (shapeAt S 0) with
      | nil => rfl
      | cons k l => exact absurd (partsL_lt hg k (by rw [hp]; simp)) (Nat.not_lt_zero _)
    refine ⟨hg.name, ?_, ?_⟩
    · show ((partsL (shapeAt S 0)).map fun _ => (Tm.mk ⟨#[]⟩ 0 [] : Tm 1)).length ≤ 3
      rw [h0]
      simp
    · show allOf _ ((partsL (shapeAt S 0)).map fun _ => (Tm.mk ⟨#[]⟩ 0 [] : Tm 1))
      rw [h0]
      trivial
  | f + 1, i, h1, h2 => by
    have hg := hB.good i _ (shapeAt_some h2)
    refine ⟨hg.name, ?_, ?_⟩
    · show ((partsL (shapeAt S i)).map (termTm S f)).length ≤ 3
      rw [List.length_map, partsL_length]
      exact hg.count
    · show allOf _ ((partsL (shapeAt S i)).map (termTm S f))
      refine allOf_of fun a ha => ?_
      obtain ⟨k, hk, rfl⟩ := List.mem_map.1 ha
      have := partsL_lt hg k hk
      exact termTm_narrow hB f k (by omega) (by omega)

/-- A sentence that is said, as it may be said elsewhere. -/
def sentX (S : WS) (x : Nat × Nat × Nat) : SntX := ⟨S.shapes.length + 2, ⟨termTm S S.shapes.length x.2.1, x.1 == 0, termTm S S.shapes.length x.2.2⟩⟩
def sentsX (S : WS) : List SntX := S.said.map (sentX S)
theorem AllIs.map_eq {α β : Type} {R : α → β → Prop} {f : α → β} (h : ∀ a b, R a b → f a = b) : ∀ {xs : List α} {ys : List β}, AllIs R xs ys → xs.map f = ys
  | [], [], _ => rfl
  | _ :: _, _ :: _, hr => by rw [List.map_cons, h _ _ hr.1, AllIs.map_eq h hr.2]
  | [], _ :: _, hr => hr.elim
  | _ :: _, [], hr => hr.elim
theorem Holds.sents {S : WS} {L : List ST} (h : Holds S L) : (sentsX S).map eraseX = L := by
  have hB := h.fine.web.base
  unfold sentsX
  rw [List.map_map]
  refine AllIs.map_eq (R := fun (x : Nat × Nat × Nat) (s : ST) => x.1 = (if s.eq then 0 else 1) ∧ DenE S s.l x.2.1 ∧ DenE S s.r x.2.2) (fun x s hx => ?_) h.said
  obtain ⟨h1, h2, h3⟩ := hx
  have l1 := h2.lt
  have l2 := h3.lt
  show (⟨x.1 == 0, erase _ (termTm S S.shapes.length x.2.1), erase _ (termTm S S.shapes.length x.2.2)⟩ : ST) = s
  rw [(termTm_den hB S.shapes.length x.2.1 (by omega) l1).fn h2, (termTm_den hB S.shapes.length x.2.2 (by omega) l2).fn h3]
  obtain ⟨q, l, r⟩ := s
  simp only at h1 ⊢
  rw [h1]
  cases q <;> rfl
/-- Sentences none of which has many terms. -/
def SmallL (L : List ST) : Prop := ∀ s ∈ L, s.size ≤ 100
theorem Holds.subs {S : WS} {L : List ST} (h : Holds S L) (hs : SmallL L) {K : List ST} (hk : ∀ t, known L t → known K t) : ∀ x ∈ sentsX S, SubX K x := fun x hx => by
  have hB := h.fine.web.base
  have hm : eraseX x ∈ L := by rw [← h.sents]; exact List.mem_map.2 ⟨x, hx, rfl⟩
  have hsz := hs _ hm
  refine ⟨?_, ?_, fun t ⟨s, h1, h2⟩ => hk t ⟨s, ?_, h2⟩⟩
  · unfold sentsX at hx
    obtain ⟨y, hy, rfl⟩ := List.mem_map.1 hx
    obtain ⟨c1, c2⟩ := hB.saidLt y hy
    have := hB.inv.len
    exact ⟨termTm_narrow hB _ _ (by omega) (by omega), termTm_narrow hB _ _ (by omega) (by omega)⟩
  · unfold eraseX at hsz
    rw [sizeS_erase] at hsz
    unfold sizeX
    omega
  · simp only [List.mem_singleton] at h1
    rw [h1]
    exact hm

/-- What Why comes to: nothing, if it does not follow. -/
def whyOf (S : WS) {n : Nat} (x : Snt n) : Option (List Nat) := if followsM S x then some (whyL (otherM ⟨n, contra x⟩ (sentsX S)) (sentsX S)) else none
theorem Holds.follows_iff {S : WS} {L : List ST} (h : Holds S L) {n : Nat} {x : Snt n} (hx : NarrowS x) (hr : S.shapes.length + sizeS x ≤ 400) : followsM S x = true ↔ ClashT (L ++ [contraT (eraseS x)]) := by
  unfold followsM
  rw [← eraseS_contra]
  exact (h.say (x := contra x) (contra_narrow hx) hr).clash_iff
theorem Holds.under {S : WS} {L : List ST} (h : Holds S L) {n : Nat} {x : Snt n} (hx : NarrowS x) (hz : sizeS x ≤ 100) (ht : S.shapes.length ≤ 100) : Under (sayM S (contra x)) (L ++ [eraseX ⟨n, contra x⟩]) ∧ SubX (L ++ [eraseX ⟨n, contra x⟩]) ⟨n, contra x⟩ := by
  have hr : S.shapes.length + sizeS (contra x) ≤ 400 := by rw [contra_size]; omega
  have h1 := h.say (x := contra x) (contra_narrow hx) hr
  have h2 := (sayM_end h.fine.web (contra_narrow hx) hr).len
  rw [contra_size] at h2
  exact ⟨⟨h1, by omega⟩, contra_narrow hx, by show sizeS (contra x) ≤ 150; rw [contra_size]; omega, fun t ht => known_append.2 (.inr ht)⟩
theorem Holds.why_is {S : WS} {L : List ST} (h : Holds S L) (hs : SmallL L) {n : Nat} {x : Snt n} (hx : NarrowS x) (hz : sizeS x ≤ 100) (ht : S.shapes.length ≤ 100) : WhyIs (contraT (eraseS x)) L (whyL (otherM ⟨n, contra x⟩ (sentsX S)) (sentsX S)) := by
  obtain ⟨hu, hc⟩ := h.under hx hz ht
  have h1 := whyL_is (ask_ok hu hc (h.subs hs (fun t ht => known_append.2 (.inl ht))))
  rw [h.sents] at h1
  exact h1
end Go.Proofs.YtmfkpllnmmfpiaaGreatDoor
