/-
  The reader's 'sentence'.
-/
import Derived.Test.YtmfkpllnmmfpiaaGreatDoorRangeH
namespace Go.Proofs.YtmfkpllnmmfpiaaGreatDoor
open Go.RowKit

/-- A sentence in memory: its seven cells. -/
def IsSnt (w : World) (F : Nat → Prop) (n : Nat) (l : V3) (k : Int) (r : V3) (x : Snt n) : Prop := IsTm w F n l x.left ∧ k = signInt x.eq ∧ IsTm w F n r x.right

def SentDone (n : Nat) (s : ByteArray) (r : Nat) (st : Wd) (w : World) (e : Ending) (w' : World) : Prop :=
  ∃ (a : ByteArray) (p : Int) (g : Option Addr) (l c : Nat) (k : Int) (a' : ByteArray) (p' : Int) (g' : Option Addr) (l' c' : Nat) (b : Bool),
    e = .returned (.tuple #[.agg #[.string a, .int .i64 p, .slice g l c, .int .i64 k, .string a', .int .i64 p', .slice g' l' c'], .bool b]) ∧
    Rd w' r s (sentOf s n st).2.1 (sentOf s n st).2.2.1 (sentOf s n st).2.2.2 ∧ Upd [r] w w' ∧ b = (sentOf s n st).1.isSome ∧
    ∀ x, (sentOf s n st).1 = some x → IsSnt w' (fun k => w.heap.size ≤ k) n (.string a, .int .i64 p, .slice g l c) k (.string a', .int .i64 p', .slice g' l' c') x

section
variable {s : ByteArray} {n : Nat} {st st1 st2 st3 : Wd} {l r : Tm n} {g : Bool}
theorem sentOf_1 (h : termOf s n st = (none, st1)) : sentOf s n st = (none, st1) := by simp [sentOf, h]
theorem sentOf_2 (h : termOf s n st = (some l, st1)) (h2 : signOf s st1 = (none, st2)) : sentOf s n st = (none, st2) := by simp [sentOf, h, h2]
theorem sentOf_3 (h : termOf s n st = (some l, st1)) (h2 : signOf s st1 = (some g, st2)) (h3 : termOf s n st2 = (none, st3)) : sentOf s n st = (none, st3) := by simp [sentOf, h, h2, h3]
theorem sentOf_4 (h : termOf s n st = (some l, st1)) (h2 : signOf s st1 = (some g, st2)) (h3 : termOf s n st2 = (some r, st3)) (h7 : st3.1 ≠ 7) : sentOf s n st = (none, st3) := by simp [sentOf, h, h2, h3, h7]
theorem sentOf_5 (h : termOf s n st = (some l, st1)) (h2 : signOf s st1 = (some g, st2)) (h3 : termOf s n st2 = (some r, st3)) (h7 : st3.1 = 7) : sentOf s n st = (some ⟨l, g, r⟩, st3) := by simp [sentOf, h, h2, h3, h7]
end

abbrev zero7 : Array Value := #[.string ⟨#[]⟩, .int .i64 0, .slice none 0 0, .int .i64 0, .string ⟨#[]⟩, .int .i64 0, .slice none 0 0]
/-- A block of seven cells, as it was made, which may be written. -/
structure Box7 (w : World) (B : Nat) : Prop where
  lt : B < w.heap.size
  all : ∀ o, o < 7 → w.cell? ⟨B, o, none⟩ = zero7[o]?
  free : ∀ o, w.frozen? ⟨B, o, none⟩ = false
theorem Box7.later {w w' : World} {L : List Nat} {B : Nat} (h : Box7 w B) (hu : Upd L w w') (hB : B ∉ L) : Box7 w' B :=
  ⟨Nat.lt_of_lt_of_le h.lt hu.size, fun o ho => (hu.cell (p := ⟨B, o, none⟩) h.lt hB).trans (h.all o ho), fun o => (hu.frozen (p := ⟨B, o, none⟩) h.lt hB).trans (h.free o)⟩
theorem Box7.new (w : World) (t : TypeId) : Box7 (w.alloc (.cells zero7 t)) w.heap.size := by
  refine ⟨by simp, fun o ho => ?_, fun o => by rw [frozen?_alloc_cells]; simp [World.frozen?]⟩
  simp

theorem upd7 (w : World) (B : Nat) (v0 v1 v2 v3 v4 v5 v6 : Value) : Upd [B] w (((((((w.setCell ⟨B, 0, none⟩ v0).setCell ⟨B, 1, none⟩ v1).setCell ⟨B, 2, none⟩ v2).setCell ⟨B, 3, none⟩ v3).setCell ⟨B, 4, none⟩ v4).setCell ⟨B, 5, none⟩ v5).setCell ⟨B, 6, none⟩ v6) :=
  (((((((Upd.refl [B] w).setCell (by simp) _).setCell (by simp) _).setCell (by simp) _).setCell (by simp) _).setCell (by simp) _).setCell (by simp) _).setCell (by simp) _
theorem Box7.cells {w : World} {B : Nat} (h : Box7 w B) : w.cell? ⟨B, 0, none⟩ = some (.string ⟨#[]⟩) ∧ w.cell? ⟨B, 1, none⟩ = some (.int .i64 0) ∧ w.cell? ⟨B, 2, none⟩ = some (.slice none 0 0) ∧ w.cell? ⟨B, 3, none⟩ = some (.int .i64 0) ∧
    w.cell? ⟨B, 4, none⟩ = some (.string ⟨#[]⟩) ∧ w.cell? ⟨B, 5, none⟩ = some (.int .i64 0) ∧ w.cell? ⟨B, 6, none⟩ = some (.slice none 0 0) :=
  ⟨h.all 0 (by decide), h.all 1 (by decide), h.all 2 (by decide), h.all 3 (by decide), h.all 4 (by decide), h.all 5 (by decide), h.all 6 (by decide)⟩
theorem signOf_fit {s : ByteArray} {st : Wd} (h : Fit s st) (hg : (signOf s st).1.isSome = true) : Fit s (signOf s st).2 ∧ st.2.1 ≤ (signOf s st).2.2.1 := by
  have hw := wordAt_le s st.2.2 h.size
  have hle := h.le
  unfold signOf at hg ⊢
  split
  · exact ⟨Fit.next s _ h.size, by simp only; omega⟩
  · rename_i h4
    rw [if_neg h4] at hg
    split
    · exact ⟨Fit.next s _ h.size, by simp only; omega⟩
    · rename_i h5
      rw [if_neg h5] at hg
      split at hg <;> cases hg

set_option maxHeartbeats 2000000 in
set_option maxRecDepth 100000 in
theorem sentence_any (s : ByteArray) (n r : Nat) (st : Wd) (w : World) (hs : s.size ≤ 200) (hrd : Rd w r s st.1 st.2.1 st.2.2) (hfit : Fit s st) (hn : s.size < n + st.2.1) :
    Calls Tryz.prog 125 #[.pointer (some ⟨r, 0, none⟩)] w (SentDone n s r st w) := by
  have hrlt := hrd.lt
  have hb7 := Box7.new w 101
  have hu0 := (Upd.refl [r] w).alloc (.cells zero7 101)
  have hrd0 := hrd.later ((Upd.refl [] w).alloc (.cells zero7 101)) (by simp)
  go_enter Tryz.func125, Tryz.ntmps125
  go_wp2_with fail
  refine (term_ok n s r st _ hs hrd0 hfit hn).mono ?_
  rintro e w1 ⟨a, p, g, l, c, b, rfl, hrd1, hu1, hb, ht⟩
  have hb71 := hb7.later hu1 (by simp; omega)
  have hU1 := hu0.trans hu1
  have hsz1 := hu1.size
  simp at hsz1
  cases hres : termOf s n st with
  | mk o st1 =>
    have hfit1 := (termOf_fit n st hfit).1
    have hle1 := (termOf_fit n st hfit).2
    rw [hres] at hrd1 hb ht hfit1 hle1
    simp only at hrd1 hb ht hfit1 hle1
    cases o with
    | none =>
      obtain rfl : b = false := hb
      have HE : Hid (sentOf s n st = (none, st1)) := sentOf_1 hres
      have HB : Hid (Box7 w1 w.heap.size) := hb71
      have hb72 := hb71.later ((Upd.refl [] _).alloc (.cells #[.string a, .int .i64 p, .slice g l c] 98)) (by simp)
      obtain ⟨d0, d1, d2, d3, d4, d5, d6⟩ := hb72.cells
      have df := hb72.free
      clear hres ht hb71 hb72 hb7 hu1 hu0 hrd0 hrd
      go_wp2
      refine bodyPost_ret (v := .tuple #[.agg zero7, .bool false]) (by simp [results, Tryz.results125, go_sem, d0, d1, d2, d3, d4, d5, d6]) rfl ?_
      refine ⟨_, _, none, 0, 0, 0, _, _, none, 0, 0, false, rfl, ?_, ?_, ?_, ?_⟩
      · rw [HE.out]; exact (hrd1.later ((Upd.refl [] _).alloc _) (by simp)).later (upd7 _ _ _ _ _ _ _ _ _) (by simp; omega)
      · exact (hU1.alloc _).trans' (upd7 _ _ _ _ _ _ _ _ _) (fun x hx hl => by simp at hx; omega)
      · rw [HE.out]; rfl
      · intro x hx; rw [HE.out] at hx; cases hx
    | some lt =>
      obtain rfl : b = true := hb
      have htl := ht lt rfl
      clear ht hb7 hu1 hu0 hrd0 hrd
      go_wp2_with fail
      have hbx := Box3.new w1 (.string a) (.int .i64 p) (.slice g l c) 98
      have hrd1a := hrd1.later ((Upd.refl [] _).alloc (.cells #[.string a, .int .i64 p, .slice g l c] 98)) (by simp)
      refine (sign_any s r st1 _ hs hrd1a hfit1).mono ?_
      rintro e w2 ⟨k, rfl, hrd2, hu2, hk⟩
      have hrw1 : r ∉ [w1.heap.size] := by simp; have := hrd1.lt; omega
      have hr2 : w1.heap.size ∉ [r] := by simp; have := hrd1.lt; omega
      have hr3 : w.heap.size ∉ [r] := by simp; omega
      have hb72 := (hb71.later ((Upd.refl [] _).alloc (.cells #[.string a, .int .i64 p, .slice g l c] 98)) (by simp)).later hu2 hr3
      have hbx2 := hbx.later hu2 hr2
      have hU2 := (hU1.alloc (.cells #[.string a, .int .i64 p, .slice g l c] 98)).trans hu2
      have htl2 := (htl.later ((Upd.refl [] _).alloc (.cells #[.string a, .int .i64 p, .slice g l c] 98)) (fun _ _ => by simp)).later hu2 (fun k hk hm => by simp at hk hm; omega)
      have hsz2 := hu2.size
      simp at hsz2
      clear hb71 hbx hU1 htl hu2 hrd1 hrd1a
      cases hsg : signOf s st1 with
      | mk o2 st2 =>
        have hfit2 := signOf_fit hfit1
        rw [hsg] at hrd2 hk hfit2
        simp only at hrd2 hk hfit2
        cases o2 with
        | none =>
          have HE : Hid (sentOf s n st = (none, st2)) := sentOf_2 hres hsg
          obtain ⟨d0, d1, d2, d3, d4, d5, d6⟩ := hb72.cells
          have df := hb72.free
          clear hres hsg hk hfit2 hb72 hbx2 htl2
          go_wp2
          refine bodyPost_ret (v := .tuple #[.agg zero7, .bool false]) (by simp [results, Tryz.results125, go_sem, d0, d1, d2, d3, d4, d5, d6]) rfl ?_
          refine ⟨_, _, none, 0, 0, 0, _, _, none, 0, 0, false, rfl, ?_, ?_, ?_, ?_⟩
          · rw [HE.out]; exact hrd2.later (upd7 _ _ _ _ _ _ _ _ _) (by simp; omega)
          · exact hU2.trans' (upd7 _ _ _ _ _ _ _ _ _) (fun x hx hl => by simp at hx; omega)
          · rw [HE.out]; rfl
          · intro x hx; rw [HE.out] at hx; cases hx
        | some gq =>
          obtain rfl := hk gq rfl
          obtain ⟨hfit2, hle2⟩ := hfit2 rfl
          clear hk
          go_wp2_with fail
          refine (term_ok n s r st2 _ hs hrd2 hfit2 (by omega)).mono ?_
          rintro e w3 ⟨a', p', g', l', c', b, rfl, hrd3, hu3, hb, ht⟩
          have hb73 := hb72.later hu3 hr3
          have hbx3 := hbx2.later hu3 hr2
          have hU3 := hU2.trans hu3
          have htl3 := htl2.later hu3 (fun k hk hm => by simp at hk hm; omega)
          have hsz3 := hu3.size
          clear hb72 hbx2 hU2 htl2 hu3 hrd2
          cases hres3 : termOf s n st2 with
          | mk o3 st3 =>
            rw [hres3] at hrd3 hb ht
            simp only at hrd3 hb ht
            have HB : Hid (Box7 w3 w.heap.size) := hb73
            have hb74 := hb73.later ((Upd.refl [] _).alloc (.cells #[.string a', .int .i64 p', .slice g' l' c'] 98)) (by simp)
            have hbx4 := hbx3.later ((Upd.refl [] _).alloc (.cells #[.string a', .int .i64 p', .slice g' l' c'] 98)) (by simp)
            have hrd4 := hrd3.later ((Upd.refl [] _).alloc (.cells #[.string a', .int .i64 p', .slice g' l' c'] 98)) (by simp)
            obtain ⟨d0, d1, d2, d3, d4, d5, d6⟩ := hb74.cells
            have df := hb74.free
            obtain ⟨x0, x1, x2, x3, x4⟩ := hbx4
            obtain ⟨y0, y1, y2, y3, y4, y5⟩ := hrd4
            clear hb73 hb74 hbx3
            have hn1 : w.heap.size ≠ w1.heap.size := by omega
            have hn2 : w.heap.size ≠ w3.heap.size := by omega
            have hn3 : w.heap.size ≠ r := by omega
            have hn4 : w1.heap.size ≠ w3.heap.size := by omega
            cases o3 with
            | none =>
              obtain rfl : b = false := hb
              have HE : Hid (sentOf s n st = (none, st3)) := sentOf_3 hres hsg hres3
              clear hres hsg hres3 ht
              go_wp2
              go_region
              go_wp2
              refine bodyPost_ret (v := .tuple #[.agg #[.string a, .int .i64 p, .slice g l c, .int .i64 (signInt gq), .string a', .int .i64 p', .slice g' l' c'], .bool false]) (by simp [results, Tryz.results125, go_sem, d0, d1, d2, d3, d4, d5, d6]) rfl ?_
              clear d0 d1 d2 d3 d4 d5 d6 df x0 x1 x2 x3 x4 y0 y1 y2 y3 y4 y5
              have U7 := upd7 (w3.alloc (.cells #[.string a', .int .i64 p', .slice g' l' c'] 98)) w.heap.size (.string a) (.int .i64 p) (.slice g l c) (.int .i64 (signInt gq)) (.string a') (.int .i64 p') (.slice g' l' c') |>.drew
              have U8 := ((Upd.refl [] w3).alloc (.cells #[.string a', .int .i64 p', .slice g' l' c'] 98))
              refine ⟨_, _, _, _, _, _, _, _, _, _, _, _, rfl, ?_, ?_, ?_, ?_⟩
              · rw [HE.out]; exact (hrd3.later U8 (by simp)).later U7 (by simp; omega)
              · exact (hU3.alloc _).trans' U7 (fun x hx hl => by simp at hx; omega)
              · rw [HE.out]; rfl
              · intro x hx; rw [HE.out] at hx; cases hx
            | some rt =>
              obtain rfl : b = true := hb
              have htr := ht rt rfl
              by_cases h7 : st3.1 = 7
              · have h7' : (st3.1 == 7) = true := by simp [h7]
                have HE : Hid (sentOf s n st = (some ⟨lt, gq, rt⟩, st3)) := sentOf_5 hres hsg hres3 h7
                clear hres hsg hres3 ht h7
                go_wp2
                go_region
                go_wp2
                refine bodyPost_ret (v := .tuple #[.agg #[.string a, .int .i64 p, .slice g l c, .int .i64 (signInt gq), .string a', .int .i64 p', .slice g' l' c'], .bool true]) (by simp [results, Tryz.results125, go_sem, d0, d1, d2, d3, d4, d5, d6]) rfl ?_
                clear d0 d1 d2 d3 d4 d5 d6 df x0 x1 x2 x3 x4 y0 y1 y2 y3 y4 y5
                have U7 := upd7 (w3.alloc (.cells #[.string a', .int .i64 p', .slice g' l' c'] 98)) w.heap.size (.string a) (.int .i64 p) (.slice g l c) (.int .i64 (signInt gq)) (.string a') (.int .i64 p') (.slice g' l' c') |>.drew
                have U8 := ((Upd.refl [] w3).alloc (.cells #[.string a', .int .i64 p', .slice g' l' c'] 98))
                refine ⟨_, _, _, _, _, _, _, _, _, _, _, _, rfl, ?_, ?_, ?_, ?_⟩
                · rw [HE.out]; exact (hrd3.later U8 (by simp)).later U7 (by simp; omega)
                · exact (hU3.alloc _).trans' U7 (fun x hx hl => by simp at hx; omega)
                · rw [HE.out]; rfl
                · intro x hx
                  rw [HE.out] at hx
                  obtain rfl := Option.some.inj hx
                  refine ⟨?_, rfl, ?_⟩
                  · exact ((htl3.later U8 (fun _ _ => by simp)).later U7 (fun k hk hm => by simp at hk hm; omega)).mono (fun k hk _ => by first | omega | (simp at hk; omega))
                  · exact ((htr.later U8 (fun _ _ => by simp)).later U7 (fun k hk hm => by simp at hk hm; omega)).mono (fun k hk _ => by first | omega | (simp at hk; omega))
              · have h7' : (st3.1 == 7) = false := by simp [h7]
                have HE : Hid (sentOf s n st = (none, st3)) := sentOf_4 hres hsg hres3 h7
                clear hres hsg hres3 ht h7
                go_wp2
                go_region
                go_wp2
                refine bodyPost_ret (v := .tuple #[.agg #[.string a, .int .i64 p, .slice g l c, .int .i64 (signInt gq), .string a', .int .i64 p', .slice g' l' c'], .bool false]) (by simp [results, Tryz.results125, go_sem, d0, d1, d2, d3, d4, d5, d6]) rfl ?_
                clear d0 d1 d2 d3 d4 d5 d6 df x0 x1 x2 x3 x4 y0 y1 y2 y3 y4 y5
                have U7 := upd7 (w3.alloc (.cells #[.string a', .int .i64 p', .slice g' l' c'] 98)) w.heap.size (.string a) (.int .i64 p) (.slice g l c) (.int .i64 (signInt gq)) (.string a') (.int .i64 p') (.slice g' l' c') |>.drew
                have U8 := ((Upd.refl [] w3).alloc (.cells #[.string a', .int .i64 p', .slice g' l' c'] 98))
                refine ⟨_, _, _, _, _, _, _, _, _, _, _, _, rfl, ?_, ?_, ?_, ?_⟩
                · rw [HE.out]; exact (hrd3.later U8 (by simp)).later U7 (by simp; omega)
                · exact (hU3.alloc _).trans' U7 (fun x hx hl => by simp at hx; omega)
                · rw [HE.out]; rfl
                · intro x hx; rw [HE.out] at hx; cases hx
end Go.Proofs.YtmfkpllnmmfpiaaGreatDoor

/-
  'read.Read' reads what the plain function 'readOf' says, into new memory.
-/
namespace Go.Proofs.YtmfkpllnmmfpiaaGreatDoor
open Go.RowKit

section
variable {s : ByteArray} {st : Wd} {x : Snt (fuelOf s)} {k : Int} {p : Nat}
theorem readOf_long (h : 200 < s.size) : readOf s = (none, 1, 0) := by simp [readOf, h]
theorem readOf_form (h : ¬ 200 < s.size) (h1 : sentOf s (fuelOf s) (wordAt s 0) = (none, st)) : readOf s = (none, 2, st.2.1) := by simp [readOf, h, h1]
theorem readOf_left (h : ¬ 200 < s.size) (h1 : sentOf s (fuelOf s) (wordAt s 0) = (some x, st)) (h2 : rangeOf _ x.left 0 = some (k, p)) : readOf s = (none, k, p) := by simp [readOf, h, h1, h2]
theorem readOf_right (h : ¬ 200 < s.size) (h1 : sentOf s (fuelOf s) (wordAt s 0) = (some x, st)) (h2 : rangeOf _ x.left 0 = none) (h3 : rangeOf _ x.right 0 = some (k, p)) : readOf s = (none, k, p) := by simp [readOf, h, h1, h2, h3]
theorem readOf_fine (h : ¬ 200 < s.size) (h1 : sentOf s (fuelOf s) (wordAt s 0) = (some x, st)) (h2 : rangeOf _ x.left 0 = none) (h3 : rangeOf _ x.right 0 = none) : readOf s = (some x, 0, 0) := by simp [readOf, h, h1, h2, h3]
end

def ReadDone (s : ByteArray) (w : World) (e : Ending) (w' : World) : Prop :=
  ∃ (a : ByteArray) (p : Int) (g : Option Addr) (l c : Nat) (k : Int) (a' : ByteArray) (p' : Int) (g' : Option Addr) (l' c' : Nat),
    e = .returned (.tuple #[.agg #[.string a, .int .i64 p, .slice g l c, .int .i64 k, .string a', .int .i64 p', .slice g' l' c'], .int .i64 (readOf s).2.1, .int .i64 (readOf s).2.2]) ∧
    Below w.heap.size w w' ∧
    ∀ x, (readOf s).1 = some x → IsSnt w' (fun k => w.heap.size ≤ k) (fuelOf s) (.string a, .int .i64 p, .slice g l c) k (.string a', .int .i64 p', .slice g' l' c') x

theorem Rd.new (w : World) (s : ByteArray) (t : TypeId) : Rd (w.alloc (.cells #[.string s, .int .i64 0, .int .i64 0, .int .i64 0] t)) w.heap.size s 0 0 0 :=
  ⟨by simp, by simp, by simp, by simp, by simp, fun o => by rw [frozen?_alloc_cells]; simp [World.frozen?]⟩

set_option maxHeartbeats 2000000 in
set_option maxRecDepth 100000 in
theorem read_any (s : ByteArray) (w : World) (hmax : s.size ≤ maxLen) : Calls Tryz.prog 93 #[.string s] w (ReadDone s w) := by
  unfold maxLen at hmax
  by_cases hl : 200 < s.size
  · have hl' : (200 : Int) < (s.size : Int) := by omega
    have HE : Hid (readOf s = (none, 1, 0)) := readOf_long hl
    go_enter Tryz.func93, Tryz.ntmps93
    go_wp2
    refine bodyPost_ret (v := .tuple #[.agg zero7, .int .i64 1, .int .i64 0]) (by simp [results, Tryz.results93, go_sem]) rfl ?_
    refine ⟨_, _, none, 0, 0, _, _, _, none, 0, 0, by rw [HE.out]; rfl, ?_, fun x hx => by rw [HE.out] at hx; cases hx⟩
    exact (Below.refl _ _).alloc (Nat.le_refl _) _
  · have hl' : ¬ (200 : Int) < (s.size : Int) := by omega
    have hrd0 := Rd.new (w.alloc (.cells zero7 101)) s 201
    have hu0 : Upd [] w ((w.alloc (.cells zero7 101)).alloc (.cells #[.string s, .int .i64 0, .int .i64 0, .int .i64 0] 201)) := ((Upd.refl [] w).alloc _).alloc _
    have hb0 := (Box7.new w 101).later ((Upd.refl [] _).alloc (.cells #[.string s, .int .i64 0, .int .i64 0, .int .i64 0] 201)) (by simp)
    have e1 : (w.alloc (.cells zero7 101)).heap.size = w.heap.size + 1 := by simp
    rw [e1] at hrd0
    go_enter Tryz.func93, Tryz.ntmps93
    go_wp2_with fail
    refine (next_any (w.heap.size + 1) s _ _ _ _ hrd0 (by omega) (Nat.zero_le _)).mono ?_
    rintro e w1 ⟨rfl, hrd1, hu1⟩
    have hb1 := hb0.later hu1 (by simp)
    have hU1 : Upd [] w w1 := hu0.trans' hu1 (fun x hx hlt => by simp at hx; omega)
    have hfit1 := Fit.next s 0 (Nat.zero_le _)
    have hsz1 := hu1.size
    simp at hsz1
    clear hrd0 hu0 hb0 hu1 e1
    go_wp2_with fail
    refine (sentence_any s (fuelOf s) (w.heap.size + 1) (wordAt s 0) w1 (by omega) hrd1 hfit1 (by unfold fuelOf; omega)).mono ?_
    rintro e w2 ⟨a, p, g, l, c, k, a', p', g', l', c', b, rfl, hrd2, hu2, hb, hx⟩
    have hb2 := hb1.later hu2 (by simp)
    have hU2 : Upd [] w w2 := hU1.trans' hu2 (fun x hx hlt => by simp at hx; omega)
    have hsz2 := hu2.size
    clear hrd1 hb1 hU1 hu2
    cases hres : sentOf s (fuelOf s) (wordAt s 0) with
    | mk o st =>
      rw [hres] at hrd2 hb hx
      simp only at hrd2 hb hx
      cases o with
      | none =>
        obtain rfl : b = false := hb
        have HE : Hid (readOf s = (none, 2, st.2.1)) := readOf_form hl hres
        have hu3 := (Upd.refl [] w2).alloc (.cells #[.string a, .int .i64 p, .slice g l c, .int .i64 k, .string a', .int .i64 p', .slice g' l' c'] 101)
        have hb3 := hb2.later hu3 (by simp)
        have hrd3 := hrd2.later hu3 (by simp)
        obtain ⟨d0, d1, d2, d3, d4, d5, d6⟩ := hb3.cells
        have df := hb3.free
        obtain ⟨y0, y1, y2, y3, y4, y5⟩ := hrd3
        clear hres hx hb2 hrd2 hu3 hb3
        have hn1 : w.heap.size ≠ w.heap.size + 1 := by omega
        go_wp2
        go_region
        go_wp2
        refine bodyPost_ret (v := .tuple #[.agg zero7, .int .i64 2, .int .i64 st.2.1]) (by simp [results, Tryz.results93, go_sem, d0, d1, d2, d3, d4, d5, d6]) rfl ?_
        clear d0 d1 d2 d3 d4 d5 d6 df y0 y1 y2 y3 y4 y5
        refine ⟨_, _, none, 0, 0, _, _, _, none, 0, 0, by rw [HE.out], ?_, fun x hx => by rw [HE.out] at hx; cases hx⟩
        exact ((hU2.alloc (.cells #[.string a, .int .i64 p, .slice g l c, .int .i64 k, .string a', .int .i64 p', .slice g' l' c'] 101)).trans' (upd7 _ w.heap.size _ _ _ _ _ _ _).drew (fun x hx hlt => by simp at hx; omega)).below
      | some x =>
        obtain rfl : b = true := hb
        obtain ⟨hxl, hxk, hxr⟩ := hx x rfl
        have hu3 : Upd [] w2 ((w2.alloc (.cells #[.string a, .int .i64 p, .slice g l c, .int .i64 k, .string a', .int .i64 p', .slice g' l' c'] 101)).alloc (.cells #[.string a, .int .i64 p, .slice g l c, .string a', .int .i64 p', .slice g' l' c'] 98)) := ((Upd.refl [] w2).alloc (.cells #[.string a, .int .i64 p, .slice g l c, .int .i64 k, .string a', .int .i64 p', .slice g' l' c'] 101)).alloc (.cells #[.string a, .int .i64 p, .slice g l c, .string a', .int .i64 p', .slice g' l' c'] 98)
        have HB3 : Hid (Box7 ((w2.alloc (.cells #[.string a, .int .i64 p, .slice g l c, .int .i64 k, .string a', .int .i64 p', .slice g' l' c'] 101)).alloc (.cells #[.string a, .int .i64 p, .slice g l c, .string a', .int .i64 p', .slice g' l' c'] 98)) w.heap.size) := hb2.later hu3 (by simp)
        have HL3 : Hid (IsTm ((w2.alloc (.cells #[.string a, .int .i64 p, .slice g l c, .int .i64 k, .string a', .int .i64 p', .slice g' l' c'] 101)).alloc (.cells #[.string a, .int .i64 p, .slice g l c, .string a', .int .i64 p', .slice g' l' c'] 98)) (fun k => w1.heap.size ≤ k) (fuelOf s) (.string a, .int .i64 p, .slice g l c) x.left) := hxl.later hu3 (fun _ _ => by simp)
        have HR3 : Hid (IsTm ((w2.alloc (.cells #[.string a, .int .i64 p, .slice g l c, .int .i64 k, .string a', .int .i64 p', .slice g' l' c'] 101)).alloc (.cells #[.string a, .int .i64 p, .slice g l c, .string a', .int .i64 p', .slice g' l' c'] 98)) (fun k => w1.heap.size ≤ k) (fuelOf s) (.string a', .int .i64 p', .slice g' l' c') x.right) := hxr.later hu3 (fun _ _ => by simp)
        have HU3 : Hid (Upd [] w ((w2.alloc (.cells #[.string a, .int .i64 p, .slice g l c, .int .i64 k, .string a', .int .i64 p', .slice g' l' c'] 101)).alloc (.cells #[.string a, .int .i64 p, .slice g l c, .string a', .int .i64 p', .slice g' l' c'] 98))) := hU2.trans hu3
        have Hres : Hid (sentOf s (fuelOf s) (wordAt s 0) = (some x, st)) := hres
        have hs3 : ((w2.alloc (.cells #[.string a, .int .i64 p, .slice g l c, .int .i64 k, .string a', .int .i64 p', .slice g' l' c'] 101)).alloc (.cells #[.string a, .int .i64 p, .slice g l c, .string a', .int .i64 p', .slice g' l' c'] 98)).heap.size = w2.heap.size + 2 := by simp
        have Hxk : Hid (k = signInt x.eq) := hxk
        clear hx hxl hxr hxk hu3 hres hrd2 hb2 hU2
        go_wp2
        go_loopw [34] (fun i wr => ∃ q : Nat, q ≤ 2 ∧ i = .int .i64 q ∧ Hid (1 ≤ q → rangeOf _ x.left 0 = none) ∧ Hid (2 ≤ q → rangeOf _ x.right 0 = none) ∧ Hid (Below ((w2.alloc (.cells #[.string a, .int .i64 p, .slice g l c, .int .i64 k, .string a', .int .i64 p', .slice g' l' c'] 101)).alloc (.cells #[.string a, .int .i64 p, .slice g l c, .string a', .int .i64 p', .slice g' l' c'] 98)).heap.size ((w2.alloc (.cells #[.string a, .int .i64 p, .slice g l c, .int .i64 k, .string a', .int .i64 p', .slice g' l' c'] 101)).alloc (.cells #[.string a, .int .i64 p, .slice g l c, .string a', .int .i64 p', .slice g' l' c'] 98)) wr)) (fun i _ => 2 - (intOf i).toNat)
        case atStart => exact ⟨0, by omega, rfl, fun h => by omega, fun h => by omega, Below.refl _ _⟩
        case round =>
          obtain ⟨q, hq, rfl, H1, H2, HB⟩ := hrel
          obtain ⟨W3, HW⟩ : ∃ W3, W3 = (w2.alloc (.cells #[.string a, .int .i64 p, .slice g l c, .int .i64 k, .string a', .int .i64 p', .slice g' l' c'] 101)).alloc (.cells #[.string a, .int .i64 p, .slice g l c, .string a', .int .i64 p', .slice g' l' c'] 98) := ⟨_, rfl⟩
          have c0 := (HB.out.cell (p := ⟨w2.heap.size + 1, 0, none⟩) (by simp)).trans (show _ = some (.string a) by go_simp)
          have c1 := (HB.out.cell (p := ⟨w2.heap.size + 1, 1, none⟩) (by simp)).trans (show _ = some (.int .i64 p) by go_simp)
          have c2 := (HB.out.cell (p := ⟨w2.heap.size + 1, 2, none⟩) (by simp)).trans (show _ = some (.slice g l c) by go_simp)
          have c3 := (HB.out.cell (p := ⟨w2.heap.size + 1, 3, none⟩) (by simp)).trans (show _ = some (.string a') by go_simp)
          have c4 := (HB.out.cell (p := ⟨w2.heap.size + 1, 4, none⟩) (by simp)).trans (show _ = some (.int .i64 p') by go_simp)
          have c5 := (HB.out.cell (p := ⟨w2.heap.size + 1, 5, none⟩) (by simp)).trans (show _ = some (.slice g' l' c') by go_simp)
          have e0 := (HB.out.cell (p := ⟨w2.heap.size, 0, none⟩) (by simp; omega)).trans (show _ = some (.string a) by go_simp)
          have e1 := (HB.out.cell (p := ⟨w2.heap.size, 1, none⟩) (by simp; omega)).trans (show _ = some (.int .i64 p) by go_simp)
          have e2 := (HB.out.cell (p := ⟨w2.heap.size, 2, none⟩) (by simp; omega)).trans (show _ = some (.slice g l c) by go_simp)
          have e3 := (HB.out.cell (p := ⟨w2.heap.size, 3, none⟩) (by simp; omega)).trans (show _ = some (.int .i64 k) by go_simp)
          have e4 := (HB.out.cell (p := ⟨w2.heap.size, 4, none⟩) (by simp; omega)).trans (show _ = some (.string a') by go_simp)
          have e5 := (HB.out.cell (p := ⟨w2.heap.size, 5, none⟩) (by simp; omega)).trans (show _ = some (.int .i64 p') by go_simp)
          have e6 := (HB.out.cell (p := ⟨w2.heap.size, 6, none⟩) (by simp; omega)).trans (show _ = some (.slice g' l' c') by go_simp)
          rw [← HW] at HB3 HL3 HR3 HU3 HB hs3
          have HW' : Hid (W3 = (w2.alloc (.cells #[.string a, .int .i64 p, .slice g l c, .int .i64 k, .string a', .int .i64 p', .slice g' l' c'] 101)).alloc (.cells #[.string a, .int .i64 p, .slice g l c, .string a', .int .i64 p', .slice g' l' c'] 98)) := HW
          clear HW
          have HB3u : Hid (Upd [] W3 wr) := Upd.of_below HB.out
          have HD : Hid (∀ o w4, Below (wr.alloc o).heap.size (wr.alloc o) w4 → Box7 w4 w.heap.size) := fun o w4 h4 => ((HB3.out.later HB3u.out (by simp)).later ((Upd.refl [] _).alloc o) (by simp)).later (Upd.of_below (L := []) h4) (by simp)
          match q, hq, H1, H2 with
          | 0, _, H1, H2 =>
            have HT : Hid (∀ o, IsTm (wr.alloc o) (fun k => w1.heap.size ≤ k) (fuelOf s) (.string a, .int .i64 p, .slice g l c) x.left) := fun o => HL3.out.later (HB3u.out.alloc o) (fun _ _ => by simp)

            cases hr : rangeOf _ x.left 0 with
            | none =>
              have Hr : Hid (faultOf (rangeOf _ x.left 0) = (0, 0)) := by show _ = _; rw [hr]; rfl
              have HN : Hid (rangeOf _ x.left 0 = none) := hr
              clear hr
              go_wp2_with (go_at_call 126; refine (range_ok _ _ (fun k => w1.heap.size ≤ k) (.string a, .int .i64 p, .slice g l c) x.left 0 (HT.out _) (by omega)).mono ?_; rintro e w4 ⟨rfl, hb4⟩; rw [Hr.out])
              refine ⟨⟨1, by omega, by go_num, fun _ => (by first | trivial | exact HN.out), fun h => by omega, ?_⟩, by simp [intOf]⟩
              show Below _ _ _
              rw [← HW'.out]
              exact (HB.out.alloc HB.out.size _).trans (hb4.mono (by have := HB.out.size; simp; omega))
            | some y =>
              obtain ⟨kf, pf⟩ := y
              have hkf := rangeOf_kind hr
              simp only at hkf
              have hkf' : (kf != 0) = true := by simp; omega
              have HE : Hid (readOf s = (none, kf, pf)) := readOf_left hl Hres.out hr
              have Hr : Hid (faultOf (rangeOf _ x.left 0) = (kf, pf)) := by show _ = _; rw [hr]; rfl
              clear hr
              go_wp2_with (go_at_call 126; refine (range_ok _ _ (fun k => w1.heap.size ≤ k) (.string a, .int .i64 p, .slice g l c) x.left 0 (HT.out _) (by omega)).mono ?_; rintro e w4 ⟨rfl, hb4⟩; rw [Hr.out]; have hb5 := HD.out _ w4 hb4; obtain ⟨d0, d1, d2, d3, d4, d5, d6⟩ := hb5.cells; have df := hb5.free)
              refine bodyPost_ret (v := .tuple #[.agg zero7, .int .i64 kf, .int .i64 pf]) (by simp [results, Tryz.results93, go_sem, d0, d1, d2, d3, d4, d5, d6]) rfl ?_
              clear d0 d1 d2 d3 d4 d5 d6 df
              refine ⟨_, _, none, 0, 0, _, _, _, none, 0, 0, by rw [HE.out], ?_, fun x hx => by rw [HE.out] at hx; cases hx⟩
              exact ((((HU3.out.trans (HB3u.out)).alloc _).trans (Upd.of_below hb4)).trans' (upd7 _ w.heap.size _ _ _ _ _ _ _) (fun x hx hlt => by simp at hx; omega)).below

          | 1, _, H1, H2 =>
            have HT : Hid (∀ o, IsTm (wr.alloc o) (fun k => w1.heap.size ≤ k) (fuelOf s) (.string a', .int .i64 p', .slice g' l' c') x.right) := fun o => HR3.out.later (HB3u.out.alloc o) (fun _ _ => by simp)

            cases hr : rangeOf _ x.right 0 with
            | none =>
              have Hr : Hid (faultOf (rangeOf _ x.right 0) = (0, 0)) := by show _ = _; rw [hr]; rfl
              have HN : Hid (rangeOf _ x.right 0 = none) := hr
              clear hr
              go_wp2_with (go_at_call 126; refine (range_ok _ _ (fun k => w1.heap.size ≤ k) (.string a', .int .i64 p', .slice g' l' c') x.right 0 (HT.out _) (by omega)).mono ?_; rintro e w4 ⟨rfl, hb4⟩; rw [Hr.out])
              refine ⟨⟨2, by omega, by go_num, fun _ => H1.out (by omega), fun _ => (by first | trivial | exact HN.out), ?_⟩, by simp [intOf]⟩
              show Below _ _ _
              rw [← HW'.out]
              exact (HB.out.alloc HB.out.size _).trans (hb4.mono (by have := HB.out.size; simp; omega))
            | some y =>
              obtain ⟨kf, pf⟩ := y
              have hkf := rangeOf_kind hr
              simp only at hkf
              have hkf' : (kf != 0) = true := by simp; omega
              have HE : Hid (readOf s = (none, kf, pf)) := readOf_right hl Hres.out (H1.out (by omega)) hr
              have Hr : Hid (faultOf (rangeOf _ x.right 0) = (kf, pf)) := by show _ = _; rw [hr]; rfl
              clear hr
              go_wp2_with (go_at_call 126; refine (range_ok _ _ (fun k => w1.heap.size ≤ k) (.string a', .int .i64 p', .slice g' l' c') x.right 0 (HT.out _) (by omega)).mono ?_; rintro e w4 ⟨rfl, hb4⟩; rw [Hr.out]; have hb5 := HD.out _ w4 hb4; obtain ⟨d0, d1, d2, d3, d4, d5, d6⟩ := hb5.cells; have df := hb5.free)
              refine bodyPost_ret (v := .tuple #[.agg zero7, .int .i64 kf, .int .i64 pf]) (by simp [results, Tryz.results93, go_sem, d0, d1, d2, d3, d4, d5, d6]) rfl ?_
              clear d0 d1 d2 d3 d4 d5 d6 df
              refine ⟨_, _, none, 0, 0, _, _, _, none, 0, 0, by rw [HE.out], ?_, fun x hx => by rw [HE.out] at hx; cases hx⟩
              exact ((((HU3.out.trans (HB3u.out)).alloc _).trans (Upd.of_below hb4)).trans' (upd7 _ w.heap.size _ _ _ _ _ _ _) (fun x hx hlt => by simp at hx; omega)).below
          | 2, _, H1, H2 =>
            have HE : Hid (readOf s = (some x, 0, 0)) := readOf_fine hl Hres.out (H1.out (by omega)) (H2.out (by omega))
            have hb5 := HB3.out.later HB3u.out (by simp)
            obtain ⟨d0, d1, d2, d3, d4, d5, d6⟩ := hb5.cells
            have df := hb5.free
            clear hb5
            go_wp2
            refine bodyPost_ret (v := .tuple #[.agg #[.string a, .int .i64 p, .slice g l c, .int .i64 k, .string a', .int .i64 p', .slice g' l' c'], .int .i64 0, .int .i64 0]) (by simp [results, Tryz.results93, go_sem, d0, d1, d2, d3, d4, d5, d6]) rfl ?_
            clear d0 d1 d2 d3 d4 d5 d6 df c0 c1 c2 c3 c4 c5 e0 e1 e2 e3 e4 e5 e6
            have U7 := upd7 wr w.heap.size (.string a) (.int .i64 p) (.slice g l c) (.int .i64 k) (.string a') (.int .i64 p') (.slice g' l' c')
            refine ⟨_, _, _, _, _, _, _, _, _, _, _, by rw [HE.out]; rfl, ?_, fun y hy => ?_⟩
            · exact ((HU3.out.trans HB3u.out).trans' U7 (fun x hx hlt => by simp at hx; omega)).below
            · rw [HE.out] at hy
              obtain rfl := Option.some.inj hy
              refine ⟨?_, Hxk.out, ?_⟩
              · exact ((HL3.out.later HB3u.out (fun _ _ => by simp)).later U7 (fun k hk hm => by simp at hk hm; omega)).mono (fun k hk _ => by omega)
              · exact ((HR3.out.later HB3u.out (fun _ _ => by simp)).later U7 (fun k hk hm => by simp at hk hm; omega)).mono (fun k hk _ => by omega)
end Go.Proofs.YtmfkpllnmmfpiaaGreatDoor
