/-
  The reader's 'sentence'.
-/
import Derived.Test.YtmfkpllnmmfpiaaDoorRangeH
namespace Go.Proofs.YtmfkpllnmmfpiaaDoor
open Go.RowKit

/-- A sentence in memory: its seven cells. -/
def IsSnt (w : World) (F : Nat → Prop) (n : Nat) (l : V3) (k : Int) (r : V3) (x : Snt n) : Prop := IsTm w F n l x.left ∧ k = signInt x.eq ∧ IsTm w F n r x.right

def SentDone (n : Nat) (s : ByteArray) (r : Nat) (st : Wd) (w : World) (e : Ending) (w' : World) : Prop :=
  ∃ (a : ByteArray) (p : Int) (g : Option Addr) (l c : Nat) (k : Int) (a' : ByteArray) (p' : Int) (g' : Option Addr) (l' c' : Nat) (b : Bool),
    e = .returned (.tuple #[.agg #[.string a, .int .i64 p, .slice g l c, .int .i64 k, .string a', .int .i64 p', .slice g' l' c'], .bool b]) ∧
    Rd w' r s (sentOf s n st).2.1 (sentOf s n st).2.2.1 (sentOf s n st).2.2.2 ∧ Upd [r] w w' ∧ b = (sentOf s n st).1.isSome ∧
    ∀ x, (sentOf s n st).1 = some x → IsSnt w' (fun k => w.heap.size ≤ k) n (.string a, .int .i64 p, .slice g l c) k (.string a', .int .i64 p', .slice g' l' c') x

section
variable {s : ByteArray} {n : Nat} {st st1 st2 st3 : Wd} {l r : Tm n} {g : Bool}
theorem sentOf_1 (h : termOf s n st = (none, st1)) : sentOf s n st = (none, st1) := by simp [sentOf, h]
theorem sentOf_2 (h : termOf s n st = (some l, st1)) (h2 : signOf s st1 = (none, st2)) : sentOf s n st = (none, st2) := by simp [sentOf, h, h2]
theorem sentOf_3 (h : termOf s n st = (some l, st1)) (h2 : signOf s st1 = (some g, st2)) (h3 : termOf s n st2 = (none, st3)) : sentOf s n st = (none, st3) := by simp [sentOf, h, h2, h3]
theorem sentOf_4 (h : termOf s n st = (some l, st1)) (h2 : signOf s st1 = (some g, st2)) (h3 : termOf s n st2 = (some r, st3)) (h7 : st3.1 ≠ 7) : sentOf s n st = (none, st3) := by simp [sentOf, h, h2, h3, h7]
theorem sentOf_5 (h : termOf s n st = (some l, st1)) (h2 : signOf s st1 = (some g, st2)) (h3 : termOf s n st2 = (some r, st3)) (h7 : st3.1 = 7) : sentOf s n st = (some ⟨l, g, r⟩, st3) := by simp [sentOf, h, h2, h3, h7]
end

abbrev zero7 : Array Value := #[.string ⟨#[]⟩, .int .i64 0, .slice none 0 0, .int .i64 0, .string ⟨#[]⟩, .int .i64 0, .slice none 0 0]
/-- A block of seven cells, as it was made, which may be written. -/
structure Box7 (w : World) (B : Nat) : Prop where
  lt : B < w.heap.size
  all : ∀ o, o < 7 → w.cell? ⟨B, o, none⟩ = zero7[o]?
  free : ∀ o, w.frozen? ⟨B, o, none⟩ = false
theorem Box7.later {w w' : World} {L : List Nat} {B : Nat} (h : Box7 w B) (hu : Upd L w w') (hB : B ∉ L) : Box7 w' B :=
  ⟨Nat.lt_of_lt_of_le h.lt hu.size, fun o ho => (hu.cell (p := ⟨B, o, none⟩) h.lt hB).trans (h.all o ho), fun o => (hu.frozen (p := ⟨B, o, none⟩) h.lt hB).trans (h.free o)⟩
theorem Box7.new (w : World) (t : TypeId) : Box7 (w.alloc (.cells zero7 t)) w.heap.size := by
  refine ⟨by simp, fun o ho => ?_, fun o => by rw [frozen?_alloc_cells]; simp [World.frozen?]⟩
  simp

theorem upd7 (w : World) (B : Nat) (v0 v1 v2 v3 v4 v5 v6 : Value) : Upd [B] w (((((((w.setCell ⟨B, 0, none⟩ v0).setCell ⟨B, 1, none⟩ v1).setCell ⟨B, 2, none⟩ v2).setCell ⟨B, 3, none⟩ v3).setCell ⟨B, 4, none⟩ v4).setCell ⟨B, 5, none⟩ v5).setCell ⟨B, 6, none⟩ v6) :=
  (((((((Upd.refl [B] w).setCell (by simp) _).setCell (by simp) _).setCell (by simp) _).setCell (by simp) _).setCell (by simp) _).setCell (by simp) _).setCell (by simp) _
theorem Box7.cells {w : World} {B : Nat} (h : Box7 w B) : w.cell? ⟨B, 0, none⟩ = some (.string ⟨#[]⟩) ∧ w.cell? ⟨B, 1, none⟩ = some (.int .i64 0) ∧ w.cell? ⟨B, 2, none⟩ = some (.slice none 0 0) ∧ w.cell? ⟨B, 3, none⟩ = some (.int .i64 0) ∧
    w.cell? ⟨B, 4, none⟩ = some (.string ⟨#[]⟩) ∧ w.cell? ⟨B, 5, none⟩ = some (.int .i64 0) ∧ w.cell? ⟨B, 6, none⟩ = some (.slice none 0 0) :=
  ⟨h.all 0 (by decide), h.all 1 (by decide), h.all 2 (by decide), h.all 3 (by decide), h.all 4 (by decide), h.all 5 (by decide), h.all 6 (by decide)⟩
theorem signOf_fit {s : ByteArray} {st : Wd} (h : Fit s st) (hg : (signOf s st).1.isSome = true) : Fit s (signOf s st).2 ∧ st.2.1 ≤ (signOf s st).2.2.1 := by
  have hw := wordAt_le s st.2.2 h.size
  have hle := h.le
  unfold signOf at hg ⊢
  split
  · exact ⟨Fit.next s _ h.size, by simp only; omega⟩
  · rename_i h4
    rw [if_neg h4] at hg
    split
    · exact ⟨Fit.next s _ h.size, by simp only; omega⟩
    · rename_i h5
      rw [if_neg h5] at hg
      split at hg <;> cases hg

set_option maxHeartbeats 2000000 in
set_option maxRecDepth 100000 in
theorem sentence_any (s : ByteArray) (n r : Nat) (st : Wd) (w : World) (hs : s.size ≤ 200) (hrd : Rd w r s st.1 st.2.1 st.2.2) (hfit : Fit s st) (hn : s.size < n + st.2.1) :
    Calls Tryd.prog 79 #[.pointer (some ⟨r, 0, none⟩)] w (SentDone n s r st w) := by
  have hrlt := hrd.lt
  have hb7 := Box7.new w 74
  have hu0 := (Upd.refl [r] w).alloc (.cells zero7 74)
  have hrd0 := hrd.later ((Upd.refl [] w).alloc (.cells zero7 74)) (by simp)
  go_enter Tryd.func79, Tryd.ntmps79
  go_wp2_with fail
  refine (term_ok n s r st _ hs hrd0 hfit hn).mono ?_
  rintro e w1 ⟨a, p, g, l, c, b, rfl, hrd1, hu1, hb, ht⟩
  have hb71 := hb7.later hu1 (by simp; omega)
  have hU1 := hu0.trans hu1
  have hsz1 := hu1.size
  simp at hsz1
  cases hres : termOf s n st with
  | mk o st1 =>
    have hfit1 := (termOf_fit n st hfit).1
    have hle1 := (termOf_fit n st hfit).2
    rw [hres] at hrd1 hb ht hfit1 hle1
    simp only at hrd1 hb ht hfit1 hle1
    cases o with
    | none =>
      obtain rfl : b = false := hb
      have HE : Hid (sentOf s n st = (none, st1)) := sentOf_1 hres
      have HB : Hid (Box7 w1 w.heap.size) := hb71
      have hb72 := hb71.later ((Upd.refl [] _).alloc (.cells #[.string a, .int .i64 p, .slice g l c] 71)) (by simp)
      obtain ⟨d0, d1, d2, d3, d4, d5, d6⟩ := hb72.cells
      have df := hb72.free
      clear hres ht hb71 hb72 hb7 hu1 hu0 hrd0 hrd
      go_wp2
      refine bodyPost_ret (v := .tuple #[.agg zero7, .bool false]) (by simp [results, Tryd.results79, go_sem, d0, d1, d2, d3, d4, d5, d6]) rfl ?_
      refine ⟨_, _, none, 0, 0, 0, _, _, none, 0, 0, false, rfl, ?_, ?_, ?_, ?_⟩
      · rw [HE.out]; exact (hrd1.later ((Upd.refl [] _).alloc _) (by simp)).later (upd7 _ _ _ _ _ _ _ _ _) (by simp; omega)
      · exact (hU1.alloc _).trans' (upd7 _ _ _ _ _ _ _ _ _) (fun x hx hl => by simp at hx; omega)
      · rw [HE.out]; rfl
      · intro x hx; rw [HE.out] at hx; cases hx
    | some lt =>
      obtain rfl : b = true := hb
      have htl := ht lt rfl
      clear ht hb7 hu1 hu0 hrd0 hrd
      go_wp2_with fail
      have hbx := Box3.new w1 (.string a) (.int .i64 p) (.slice g l c) 71
      have hrd1a := hrd1.later ((Upd.refl [] _).alloc (.cells #[.string a, .int .i64 p, .slice g l c] 71)) (by simp)
      refine (sign_any s r st1 _ hs hrd1a hfit1).mono ?_
      rintro e w2 ⟨k, rfl, hrd2, hu2, hk⟩
      have hrw1 : r ∉ [w1.heap.size] := by simp; have := hrd1.lt; omega
      have hr2 : w1.heap.size ∉ [r] := by simp; have := hrd1.lt; omega
      have hr3 : w.heap.size ∉ [r] := by simp; omega
      have hb72 := (hb71.later ((Upd.refl [] _).alloc (.cells #[.string a, .int .i64 p, .slice g l c] 71)) (by simp)).later hu2 hr3
      have hbx2 := hbx.later hu2 hr2
      have hU2 := (hU1.alloc (.cells #[.string a, .int .i64 p, .slice g l c] 71)).trans hu2
      have htl2 := (htl.later ((Upd.refl [] _).alloc (.cells #[.string a, .int .i64 p, .slice g l c] 71)) (fun _ _ => by simp)).later hu2 (fun k hk hm => by simp at hk hm; omega)
      have hsz2 := hu2.size
      simp at hsz2
      clear hb71 hbx hU1 htl hu2 hrd1 hrd1a
      cases hsg : signOf s st1 with
      | mk o2 st2 =>
        have hfit2 := signOf_fit hfit1
        rw [hsg] at hrd2 hk hfit2
        simp only at hrd2 hk hfit2
        cases o2 with
        | none =>
          have HE : Hid (sentOf s n st = (none, st2)) := sentOf_2 hres hsg
          obtain ⟨d0, d1, d2, d3, d4, d5, d6⟩ := hb72.cells
          have df := hb72.free
          clear hres hsg hk hfit2 hb72 hbx2 htl2
          go_wp2
          refine bodyPost_ret (v := .tuple #[.agg zero7, .bool false]) (by simp [results, Tryd.results79, go_sem, d0, d1, d2, d3, d4, d5, d6]) rfl ?_
          refine ⟨_, _, none, 0, 0, 0, _, _, none, 0, 0, false, rfl, ?_, ?_, ?_, ?_⟩
          · rw [HE.out]; exact hrd2.later (upd7 _ _ _ _ _ _ _ _ _) (by simp; omega)
          · exact hU2.trans' (upd7 _ _ _ _ _ _ _ _ _) (fun x hx hl => by simp at hx; omega)
          · rw [HE.out]; rfl
          · intro x hx; rw [HE.out] at hx; cases hx
        | some gq =>
          obtain rfl := hk gq rfl
          obtain ⟨hfit2, hle2⟩ := hfit2 rfl
          clear hk
          go_wp2_with fail
          refine (term_ok n s r st2 _ hs hrd2 hfit2 (by omega)).mono ?_
          rintro e w3 ⟨a', p', g', l', c', b, rfl, hrd3, hu3, hb, ht⟩
          have hb73 := hb72.later hu3 hr3
          have hbx3 := hbx2.later hu3 hr2
          have hU3 := hU2.trans hu3
          have htl3 := htl2.later hu3 (fun k hk hm => by simp at hk hm; omega)
          have hsz3 := hu3.size
          clear hb72 hbx2 hU2 htl2 hu3 hrd2
          cases hres3 : termOf s n st2 with
          | mk o3 st3 =>
            rw [hres3] at hrd3 hb ht
            simp only at hrd3 hb ht
            have HB : Hid (Box7 w3 w.heap.size) := hb73
            have hb74 := hb73.later ((Upd.refl [] _).alloc (.cells #[.string a', .int .i64 p', .slice g' l' c'] 71)) (by simp)
            have hbx4 := hbx3.later ((Upd.refl [] _).alloc (.cells #[.string a', .int .i64 p', .slice g' l' c'] 71)) (by simp)
            have hrd4 := hrd3.later ((Upd.refl [] _).alloc (.cells #[.string a', .int .i64 p', .slice g' l' c'] 71)) (by simp)
            obtain ⟨d0, d1, d2, d3, d4, d5, d6⟩ := hb74.cells
            have df := hb74.free
            obtain ⟨x0, x1, x2, x3, x4⟩ := hbx4
            obtain ⟨y0, y1, y2, y3, y4, y5⟩ := hrd4
            clear hb73 hb74 hbx3
            have hn1 : w.heap.size ≠ w1.heap.size := by omega
            have hn2 : w.heap.size ≠ w3.heap.size := by omega
            have hn3 : w.heap.size ≠ r := by omega
            have hn4 : w1.heap.size ≠ w3.heap.size := by omega
            cases o3 with
            | none =>
              obtain rfl : b = false := hb
              have HE : Hid (sentOf s n st = (none, st3)) := sentOf_3 hres hsg hres3
              clear hres hsg hres3 ht
              go_wp2
              go_region
              go_wp2
              refine bodyPost_ret (v := .tuple #[.agg #[.string a, .int .i64 p, .slice g l c, .int .i64 (signInt gq), .string a', .int .i64 p', .slice g' l' c'], .bool false]) (by simp [results, Tryd.results79, go_sem, d0, d1, d2, d3, d4, d5, d6]) rfl ?_
              clear d0 d1 d2 d3 d4 d5 d6 df x0 x1 x2 x3 x4 y0 y1 y2 y3 y4 y5
              have U7 := upd7 (w3.alloc (.cells #[.string a', .int .i64 p', .slice g' l' c'] 71)) w.heap.size (.string a) (.int .i64 p) (.slice g l c) (.int .i64 (signInt gq)) (.string a') (.int .i64 p') (.slice g' l' c') |>.drew
              have U8 := ((Upd.refl [] w3).alloc (.cells #[.string a', .int .i64 p', .slice g' l' c'] 71))
              refine ⟨_, _, _, _, _, _, _, _, _, _, _, _, rfl, ?_, ?_, ?_, ?_⟩
              · rw [HE.out]; exact (hrd3.later U8 (by simp)).later U7 (by simp; omega)
              · exact (hU3.alloc _).trans' U7 (fun x hx hl => by simp at hx; omega)
              · rw [HE.out]; rfl
              · intro x hx; rw [HE.out] at hx; cases hx
            | some rt =>
              obtain rfl : b = true := hb
              have htr := ht rt rfl
              by_cases h7 : st3.1 = 7
              · have h7' : (st3.1 == 7) = true := by simp [h7]
                have HE : Hid (sentOf s n st = (some ⟨lt, gq, rt⟩, st3)) := sentOf_5 hres hsg hres3 h7
                clear hres hsg hres3 ht h7
                go_wp2
                go_region
                go_wp2
                refine bodyPost_ret (v := .tuple #[.agg #[.string a, .int .i64 p, .slice g l c, .int .i64 (signInt gq), .string a', .int .i64 p', .slice g' l' c'], .bool true]) (by simp [results, Tryd.results79, go_sem, d0, d1, d2, d3, d4, d5, d6]) rfl ?_
                clear d0 d1 d2 d3 d4 d5 d6 df x0 x1 x2 x3 x4 y0 y1 y2 y3 y4 y5
                have U7 := upd7 (w3.alloc (.cells #[.string a', .int .i64 p', .slice g' l' c'] 71)) w.heap.size (.string a) (.int .i64 p) (.slice g l c) (.int .i64 (signInt gq)) (.string a') (.int .i64 p') (.slice g' l' c') |>.drew
                have U8 := ((Upd.refl [] w3).alloc (.cells #[.string a', .int .i64 p', .slice g' l' c'] 71))
                refine ⟨_, _, _, _, _, _, _, _, _, _, _, _, rfl, ?_, ?_, ?_, ?_⟩
                · rw [HE.out]; exact (hrd3.later U8 (by simp)).later U7 (by simp; omega)
                · exact (hU3.alloc _).trans' U7 (fun x hx hl => by simp at hx; omega)
                · rw [HE.out]; rfl
                · intro x hx
                  rw [HE.out] at hx
                  obtain rfl := Option.some.inj hx
                  refine ⟨?_, rfl, ?_⟩
                  · exact ((htl3.later U8 (fun _ _ => by simp)).later U7 (fun k hk hm => by simp at hk hm; omega)).mono (fun k hk _ => by first | omega | (simp at hk; omega))
                  · exact ((htr.later U8 (fun _ _ => by simp)).later U7 (fun k hk hm => by simp at hk hm; omega)).mono (fun k hk _ => by first | omega | (simp at hk; omega))
              · have h7' : (st3.1 == 7) = false := by simp [h7]
                have HE : Hid (sentOf s n st = (none, st3)) := sentOf_4 hres hsg hres3 h7
                clear hres hsg hres3 ht h7
                go_wp2
                go_region
                go_wp2
                refine bodyPost_ret (v := .tuple #[.agg #[.string a, .int .i64 p, .slice g l c, .int .i64 (signInt gq), .string a', .int .i64 p', .slice g' l' c'], .bool false]) (by simp [results, Tryd.results79, go_sem, d0, d1, d2, d3, d4, d5, d6]) rfl ?_
                clear d0 d1 d2 d3 d4 d5 d6 df x0 x1 x2 x3 x4 y0 y1 y2 y3 y4 y5
                have U7 := upd7 (w3.alloc (.cells #[.string a', .int .i64 p', .slice g' l' c'] 71)) w.heap.size (.string a) (.int .i64 p) (.slice g l c) (.int .i64 (signInt gq)) (.string a') (.int .i64 p') (.slice g' l' c') |>.drew
                have U8 := ((Upd.refl [] w3).alloc (.cells #[.string a', .int .i64 p', .slice g' l' c'] 71))
                refine ⟨_, _, _, _, _, _, _, _, _, _, _, _, rfl, ?_, ?_, ?_, ?_⟩
                · rw [HE.out]; exact (hrd3.later U8 (by simp)).later U7 (by simp; omega)
                · exact (hU3.alloc _).trans' U7 (fun x hx hl => by simp at hx; omega)
                · rw [HE.out]; rfl
                · intro x hx; rw [HE.out] at hx; cases hx
end Go.Proofs.YtmfkpllnmmfpiaaDoor
