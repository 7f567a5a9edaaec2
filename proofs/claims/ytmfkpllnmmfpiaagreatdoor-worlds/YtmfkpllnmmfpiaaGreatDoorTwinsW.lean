/- Move, Twins -/
import Derived.Test.YtmfkpllnmmfpiaaGreatDoorAddW
namespace Go.Proofs.YtmfkpllnmmfpiaaGreatDoor
open Go.RowKit
def moveTo (S : WS) (f t : Nat) : Nat → WS
 | 0 => S
 | i + 1 => let R := moveTo S f t i
  if classAt R i = f then { R with classes := R.classes.set i t, trail := R.trail ++ [⟨3, (⟨#[]⟩, 0, 0, 0, 0), i, f⟩] } else R
def moveM (S : WS) (f t : Nat) : WS := moveTo S f t S.classes.length
theorem moveTo_rows (S : WS) (f t : Nat) : ∀ i, (moveTo S f t i).classes.length = S.classes.length ∧ (moveTo S f t i).shapes = S.shapes ∧ (moveTo S f t i).numbers = S.numbers ∧ (moveTo S f t i).alike = S.alike ∧ (moveTo S f t i).said = S.said ∧ (moveTo S f t i).nums = S.nums ∧ (moveTo S f t i).files = S.files ∧ (moveTo S f t i).trail.length ≤ S.trail.length + i
 | 0 => ⟨rfl, rfl, rfl, rfl, rfl, rfl, rfl, Nat.le_refl _⟩
 | i + 1 => by
  obtain ⟨h1, h2, h3, h4, h5, h6, h7, h8⟩ := moveTo_rows S f t i
  unfold moveTo
  simp only
  split
  ·exact ⟨by simp [h1], h2, h3, h4, h5, h6, h7, by simp; omega⟩
  ·exact ⟨h1, h2, h3, h4, h5, h6, h7, by omega⟩
theorem ownsRow_set1 {w : World} {base e g len cap n : Nat} {l : List Nat} {i v : Nat} (h : w.ownsRow base e 1 (.slice (some ⟨g, 0, none⟩) len cap) n (intsOf l)) :
  (w.setCell ⟨g, i, none⟩ (.int .i64 v)).ownsRow base e 1 (.slice (some ⟨g, 0, none⟩) len cap) n (intsOf (l.set i v)) := by
 obtain ⟨hl, hr⟩ := h
 refine ⟨by simpa [intsOf] using hl, ?_⟩
 rcases hr with ⟨hv, _⟩ | ⟨g', cap', cur, hv, hb, hg, h1, h2, h3, htk⟩
 ·cases hv
 ·cases hv
  refine .inr ⟨g, cap, cur.setIfInBounds i (.int .i64 v), rfl, hb, ?_, h1, h2, by simpa using h3, ?_⟩
  ·exact heap_setCell_same w g i cur e _ hg
  ·rw [Array.toList_setIfInBounds, List.take_set, htk]
   simp [intsOf, List.map_set]
theorem WebAt.set_class {w : World} {wb g cap i v : Nat} {H : Hd} {Z : Nat → Prop} {S : WS} (h : WebAt w wb H Z S) (hcl : H.classes = .slice (some ⟨g, 0, none⟩) S.classes.length cap) : WebAt (w.setCell ⟨g, i, none⟩ (.int .i64 v)) wb H Z { S with classes := S.classes.set i v } := by
 have hA := Hd.parts h.apart
 have hg : H.classes.ownBlock = some g := by rw [hcl]; rfl
 have hn := hA.c g hg
 have U := (Upd.refl [g] w).setCell (p := ⟨g, i, none⟩) (by simp) (.int .i64 (v : Int))
 have hwb : wb ∉ [g] := by simp; exact fun e => hn.1 e.symm
 obtain ⟨cls, hrow, hall⟩ := h.rb
 exact {
  lt := Nat.lt_of_lt_of_le h.lt U.size
  free := fun o => (U.frozen (p := ⟨wb, o, none⟩) h.lt hwb).trans (h.free o)
  c0 := (U.cell h.lt hwb).trans h.c0
  c1 := (U.cell h.lt hwb).trans h.c1
  c2 := (U.cell h.lt hwb).trans h.c2
  c3 := (U.cell h.lt hwb).trans h.c3
  c4 := (U.cell h.lt hwb).trans h.c4
  c5 := (U.cell h.lt hwb).trans h.c5
  cm := (U.cell h.lt hwb).trans h.cm
  rs := U.ownsRow h.rs fun k hk hm => by simp at hm; subst hm; exact hn.2.2.2.2.1 hk
  rc := by
   have := h.rc
   rw [hcl] at this ⊢
   simpa using ownsRow_set1 (v := v) this
  rd := U.ownsRow h.rd fun k hk hm => by simp at hm; subst hm; exact hn.2.2.2.2.2 hk
  rm := U.ownsRow h.rm fun k hk hm => by simp at hm; subst hm; exact (hA.m k hk).2.2.2.2.2.1 hg
  mn := h.mn.later U (by simp; exact fun e => hn.2.1 e.symm)
  ma := h.ma.later U (by simp; exact fun e => hn.2.2.1 e.symm)
  apart := h.apart
  rb := ⟨cls, U.ownsRow hrow (fun k hk hm => by simp at hm; subst hm; exact hn.2.2.2.1 hk), hall.mono fun _ _ hi => hi.later U fun k hk hm => hk.2 (by simp at hm; subst hm; exact Hd.mem_classes hg)⟩
  inZ := h.inZ }
theorem row_free {w : World} {base e size g len cap n : Nat} {xs : List Value} (h : w.ownsRow base e size (.slice (some ⟨g, 0, none⟩) len cap) n xs) (o : Nat) : w.frozen? ⟨g, o, none⟩ = false := by
 rcases h.2 with ⟨hv, _⟩ | ⟨g', cap', cur, hv, _, hg, _⟩
 ·cases hv
 ·cases hv
  simp [World.frozen?, hg]
structure Moving (w wr : World) (wb : Nat) (H : Hd) (Z : Nat → Prop) (f : Nat) (S : WS) : Prop where
 ex : ∃ bk, WebAt wr wb { H with backs := bk } (fun k => Z k ∨ w.heap.size ≤ k) S ∧ ∀ k ∈ ({ H with backs := bk } : Hd).blocks wb, k ∈ H.blocks wb ∨ w.heap.size + 2 ≤ k
 bw : wr.cell? ⟨w.heap.size, 0, none⟩ = some (.pointer (some ⟨wb, 0, none⟩))
 bf : wr.cell? ⟨w.heap.size + 1, 0, none⟩ = some (.int .i64 f)
 upd : Upd (H.blocks wb) w wr
 size : w.heap.size + 2 ≤ wr.heap.size
set_option maxHeartbeats 2000000 in
set_option maxRecDepth 100000 in
theorem move_any (w : World) (wb : Nat) (H : Hd) (Z : Nat → Prop) (S : WS) (f t : Nat) (h : WebAt w wb H Z S) (hlen : S.classes.length ≤ 100000) (htr : S.trail.length + S.classes.length ≤ 9000000) :
  Calls Tryz.prog 155 #[.pointer (some ⟨wb, 0, none⟩), .int .i64 f, .int .i64 t] w fun e w' => ∃ H', e = .returned (.tuple #[]) ∧ WebAt w' wb H' (fun k => Z k ∨ w.heap.size ≤ k) (moveM S f t) ∧ Upd (H.blocks wb) w w' ∧ ∀ k ∈ H'.blocks wb, k ∈ H.blocks wb ∨ w.heap.size ≤ k := by
 have hltb := h.mem_lt
 obtain ⟨W2, hW2⟩ : ∃ W2, W2 = (w.alloc (.cells #[.pointer (some ⟨wb, 0, none⟩)] 27)).alloc (.cells #[.int .i64 f] 3) := ⟨_, rfl⟩
 have U2 : Upd [] w W2 := hW2 ▸ ((Upd.refl [] w).alloc _).alloc _
 have hs2 : w.heap.size + 2 ≤ W2.heap.size := by rw [hW2]; simp
 have hstart : Moving w W2 wb H Z f S := ⟨⟨H.backs, (h.later U2 (fun _ _ => by simp)).mono (fun k hk _ => .inl hk), fun k hk => .inl hk⟩, by rw [hW2]; go_simp, by rw [hW2]; go_simp, U2.mono (fun x hx _ => by cases hx), hs2⟩
 obtain ⟨g, l, cap, hcl, hl, hlc, hcm, hg⟩ : ∃ (g : Option Addr) (l cap : Nat), H.classes = .slice g l cap ∧ l = S.classes.length ∧ l ≤ cap ∧ cap ≤ maxLen ∧ (0 < l → ∃ b, g = some ⟨b, 0, none⟩) := by
  rcases ownsRow_slice h.rc with ⟨h1, h2⟩ | ⟨g, cap, h1, h2, h3⟩
  ·exact ⟨none, 0, 0, h1, h2.symm, Nat.le_refl _, Nat.zero_le _, fun h => by omega⟩
  ·exact ⟨_, _, cap, h1, rfl, h2, h3, fun _ => ⟨g, rfl⟩⟩
 have c3 := ((((Upd.refl [] w).alloc (.cells #[.pointer (some ⟨wb, 0, none⟩)] 27)).alloc (.cells #[.int .i64 f] 3)).cell (p := ⟨wb, 4, none⟩) h.lt (by simp)).trans h.c3
 rw [hcl] at c3
 have Hl : Hid (l = S.classes.length) := hl
 have Hcl : Hid (H.classes = .slice g l cap) := hcl
 have HG := hide hg
 have hl1 : l ≤ 100000 := by omega
 have htr' : S.trail.length + l ≤ 9000000 := by omega
 unfold maxLen at hcm
 clear hl hcl hg hlen htr
 go_enter Tryz.func155, Tryz.ntmps155
 go_wp2
 rw [← hW2]
 clear hW2 c3
 go_loopw [13] (fun i wr => ∃ j : Nat, j ≤ l ∧ i = .int .i64 j ∧ Hid (Moving w wr wb H Z f (moveTo S f t j))) (fun i _ => l - (intOf i).toNat)
 case atStart => exact ⟨0, Nat.zero_le _, rfl, hstart⟩
 case round =>
  obtain ⟨j, hj, rfl, HR⟩ := hrel
  clear hstart
  have hR := HR.out
  by_cases hjl : j < l
  ·have hjl' : (j : Int) < (l : Int) := by omega
   obtain ⟨b, rfl⟩ := HG.out (by omega)
   obtain ⟨r1, r2, r3, r4, r5, r6, r7, r8⟩ := moveTo_rows S f t j
   have hlenR : l = (moveTo S f t j).classes.length := Hl.out.trans r1.symm
   obtain ⟨bk, hwj, hbj⟩ := hR.ex
   have hrc := hwj.rc
   have hcl2 : ({ H with backs := bk } : Hd).classes = .slice (some ⟨b, 0, none⟩) (moveTo S f t j).classes.length cap := by rw [← hlenR]; exact Hcl.out
   rw [hcl2] at hrc
   have hcell := row1_cell (i := j) hrc (by omega)
   have hsucc : Hid (moveTo S f t (j + 1) = if classAt (moveTo S f t j) j = f then { moveTo S f t j with classes := (moveTo S f t j).classes.set j t, trail := (moveTo S f t j).trail ++ [⟨3, (⟨#[]⟩, 0, 0, 0, 0), j, f⟩] } else moveTo S f t j) := rfl
   have hlr : j < (moveTo S f t j).classes.length := by omega
   have hrt : (moveTo S f t j).trail.length ≤ 9000000 := by omega
   have Hlr := hide hlenR
   clear r1 r2 r3 r4 r5 r6 r7 r8 hlenR
   generalize moveTo S f t j = R at *
   have hca : R.classes.getD j 0 = classAt R j := rfl
   rw [hca] at hcell
   have f1 := hR.bw
   have f2 := hR.bf
   have hsz := hR.size
   have hupd := hR.upd
   have Ux := fun (x : Obj) => ((Upd.refl [] wr).alloc x)
   have hwlt : wb < w.heap.size := hltb wb (H.mem_wb wb)
   have hblt : b < wr.heap.size := World.block_lt_of_cell? _ _ hcell
   have X1 : ∀ x : Obj, (wr.alloc x).cell? ⟨w.heap.size + 1, 0, none⟩ = some (.int .i64 f) := fun x => ((Ux x).cell (p := ⟨w.heap.size + 1, 0, none⟩) (by show w.heap.size + 1 < _; omega) (by simp)).trans f2
   have X0 : ∀ x : Obj, (wr.alloc x).cell? ⟨w.heap.size, 0, none⟩ = some (.pointer (some ⟨wb, 0, none⟩)) := fun x => ((Ux x).cell (p := ⟨w.heap.size, 0, none⟩) (by show w.heap.size < _; omega) (by simp)).trans f1
   by_cases heq : classAt R j = f
   ·have heq' : ((classAt R j : Int) == (f : Int)) = true := by simp; omega
    have hs1 := hsucc.out
    rw [if_pos heq] at hs1
    have Hs1 := hide hs1
    have c3 := hwj.c3
    have hcf : ({ H with backs := bk } : Hd).classes = .slice (some ⟨b, 0, none⟩) l cap := Hcl.out
    rw [hcf] at c3
    have X3 : ∀ x : Obj, (wr.alloc x).cell? ⟨wb, 4, none⟩ = some (.slice (some ⟨b, 0, none⟩) l cap) := fun x => ((Ux x).cell (p := ⟨wb, 4, none⟩) hwj.lt (by simp)).trans c3
    have X4 : ∀ x : Obj, (wr.alloc x).cell? ⟨b, j, none⟩ = some (.int .i64 (classAt R j)) := fun x => ((Ux x).cell (p := ⟨b, j, none⟩) hblt (by simp)).trans hcell
    have Xf : ∀ (x : Obj) (o : Nat), (wr.alloc x).frozen? ⟨b, o, none⟩ = false := fun x o => ((Ux x).frozen (p := ⟨b, o, none⟩) hblt (by simp)).trans (row_free hrc o)
    have hbn : b ≠ w.heap.size := fun e => by
     rcases hbj b (Hd.mem_classes (by rw [hcl2]; rfl)) with h3 | h3
     ·have := hltb b h3; omega
     ·omega
    have hbn1 : b ≠ w.heap.size + 1 := fun e => by
     rcases hbj b (Hd.mem_classes (by rw [hcl2]; rfl)) with h3 | h3
     ·have := hltb b h3; omega
     ·omega
    have hbH : b ∈ H.blocks wb := Hd.mem_classes (by rw [Hcl.out]; rfl)
    have HW : Hid (WebAt ((wr.setCell ⟨b, j, none⟩ (.int .i64 t)).alloc (.cells #[.int .i64 j] 3)).drew wb { H with backs := bk } (fun k => Z k ∨ w.heap.size ≤ k) { R with classes := R.classes.set j t }) :=
     (hwj.set_class hcl2).later (((Upd.refl [] _).alloc _).drew) (fun _ _ => by simp)
    have UF : Upd [b] wr ((wr.setCell ⟨b, j, none⟩ (.int .i64 t)).alloc (.cells #[.int .i64 j] 3)).drew := (((Upd.refl [b] wr).setCell (p := ⟨b, j, none⟩) (by simp) _).alloc (.cells #[.int .i64 j] 3)).drew
    have Y0 := (UF.cell (p := ⟨w.heap.size, 0, none⟩) (by show w.heap.size < _; omega) (by simp; omega)).trans f1
    have Y1 := (UF.cell (p := ⟨w.heap.size + 1, 0, none⟩) (by show w.heap.size + 1 < _; omega) (by simp; omega)).trans f2
    have Y2 : ((wr.setCell ⟨b, j, none⟩ (.int .i64 t)).alloc (.cells #[.int .i64 j] 3)).drew.cell? ⟨wr.heap.size, 0, none⟩ = some (.int .i64 j) := by
     have e2 : (wr.setCell ⟨b, j, none⟩ (.int .i64 t)).heap.size = wr.heap.size := by simp
     rw [← e2]
     go_simp
    have hbj' : ∀ k, w.heap.size ≤ k → (k < w.heap.size + 2 ∨ wr.heap.size ≤ k) → k ∉ ({ H with backs := bk } : Hd).blocks wb := fun k h1 h2 hm => by
     have h4 := hwj.mem_lt k hm
     rcases hbj k hm with h3 | h3
     ·have := hltb k h3; omega
     ·omega
    have hszd : ((wr.setCell ⟨b, j, none⟩ (.int .i64 t)).alloc (.cells #[.int .i64 j] 3)).drew.heap.size = wr.heap.size + 1 := by simp
    have HU : Hid (True ∧ IsUn ((wr.setCell ⟨b, j, none⟩ (.int .i64 t)).alloc (.cells #[.int .i64 j] 3)).drew wb (fun k => (Z k ∨ w.heap.size ≤ k) ∧ k ∉ ({ H with backs := bk } : Hd).blocks wb) (.func (.func 177) #[] #[.pointer (some ⟨w.heap.size + 1, 0, none⟩), .pointer (some ⟨w.heap.size, 0, none⟩), .pointer (some ⟨wr.heap.size, 0, none⟩)]) ⟨3, (⟨#[]⟩, 0, 0, 0, 0), j, f⟩) :=
     ⟨trivial, w.heap.size, ⟨.inr (Nat.le_refl _), hbj' _ (Nat.le_refl _) (.inl (by omega))⟩, ⟨by omega, Y0⟩, .inr (.inr (.inr ⟨rfl, w.heap.size + 1, wr.heap.size, ⟨.inr (by omega), hbj' _ (by omega) (.inl (by omega))⟩, ⟨.inr (by omega), hbj' _ (by omega) (.inr (Nat.le_refl _))⟩, ⟨by omega, Y1⟩, ⟨by omega, Y2⟩, rfl⟩))⟩
    have Hbj := hide hbj
    have Hlt := hide hltb
    have Hsz := hide hszd
    clear hs1 heq hcf hszd hbj' hbj hltb hwj hrc hcl2 hR
    go_wp2
    go_region
    go_wp2_with (go_at_call 153; refine (leave_any _ wb _ _ _ _ _ HW.out HU.out.2 (by show R.trail.length ≤ _; omega)).mono ?_; rintro e w5 ⟨bk5, rfl, hw5, hu5, hH5⟩)
    refine ⟨⟨j + 1, by omega, by go_num, ?_⟩, by simp [intOf]; omega⟩
    show Moving _ _ _ _ _ _ _
    rw [Hs1.out]
    have hs5 := hu5.size
    have hno : ∀ k, w.heap.size ≤ k → k < w.heap.size + 2 → k ∉ ({ H with backs := bk } : Hd).blocks wb := fun k h1 h2 hm => by
     rcases Hbj.out k hm with h3 | h3
     ·have := Hlt.out k h3; omega
     ·omega
    have hsz5 := Hsz.out
    refine ⟨⟨bk5, hw5.mono (fun k hk _ => by rcases hk with hk | hk; exact hk; exact .inr (by omega)), fun k hk => ?_⟩, (hu5.cell (p := ⟨w.heap.size, 0, none⟩) (by show w.heap.size < _; omega) (hno w.heap.size (Nat.le_refl _) (by omega))).trans Y0, (hu5.cell (p := ⟨w.heap.size + 1, 0, none⟩) (by show w.heap.size + 1 < _; omega) (hno (w.heap.size + 1) (by omega) (by omega))).trans Y1, (hupd.trans' UF (fun x hx _ => by simp at hx; subst hx; exact hbH)).trans' hu5 (fun k hk hl => ?_), by omega⟩
    ·rcases hH5 k hk with h3 | h3
     ·exact Hbj.out k h3
     ·exact .inr (by omega)
    ·rcases Hbj.out k hk with h3 | h3
     ·exact h3
     ·omega
   ·have heq' : ((classAt R j : Int) == (f : Int)) = false := by simp; omega
    have hs1 := hsucc.out
    rw [if_neg heq] at hs1
    have Hs1 := hide hs1
    have Hfin : Hid (∀ x, Moving w (wr.alloc x) wb H Z f R) := fun x => ⟨⟨bk, hwj.later (Ux x) (fun _ _ => by simp), hbj⟩, X0 x, X1 x, hupd.alloc x, by simp; omega⟩
    clear hs1 heq
    go_wp2
    refine ⟨⟨j + 1, by omega, by go_num, ?_⟩, by simp [intOf]; omega⟩
    show Moving _ _ _ _ _ _ _
    rw [Hs1.out]
    exact Hfin.out _
  ·obtain rfl : j = l := by omega
   have hge : ¬ (j : Int) < (j : Int) := by omega
   have HM : Hid (moveM S f t = moveTo S f t j) := by show _ = _; unfold moveM; rw [← Hl.out]
   obtain ⟨bk, hwj, hbj⟩ := hR.ex
   have hupd := hR.upd
   have Hbj := hide hbj
   have Hw := hide hwj
   clear hbj hwj hR
   go_wp2
   go_end0
   exact ⟨rfl, _, by rw [HM.out]; exact Hw.out, hupd, fun k hk => (Hbj.out k hk).imp id (fun e => by omega)⟩
end Go.Proofs.YtmfkpllnmmfpiaaGreatDoor

namespace Go.Proofs.YtmfkpllnmmfpiaaGreatDoor
open Go.RowKit
theorem info_pair : (Tryz.prog.info? 231).map (fun i => (i.zero, i.size, i.bytes)) = some (some (.agg #[.int .i64 0, .int .i64 0]), 2, 16) := by kernel_rfl
def flat2 : List (Nat × Nat) → List Value
 | [] => []
 | p :: l => .int .i64 p.1 :: .int .i64 p.2 :: flat2 l
theorem flat2_append (a b : List (Nat × Nat)) : flat2 (a ++ b) = flat2 a ++ flat2 b := by
 induction a with
 | nil => rfl
 | cons c cs ih => simp [flat2, ih]
def noSh : Sh := (⟨#[]⟩, 0, 0, 0, 0)
def shapeAt (S : WS) (i : Nat) : Sh := S.shapes.getD i noSh
def twinsTo (S : WS) : Nat → List (Nat × Nat) × WS
 | 0 => ([], S)
 | i + 1 => (if classAt S (fileM (twinsTo S i).2 (shapeAt S i) i).1 = classAt S i then (twinsTo S i).1 else (twinsTo S i).1 ++ [((fileM (twinsTo S i).2 (shapeAt S i) i).1, i)], (fileM (twinsTo S i).2 (shapeAt S i) i).2)
def twinsM (S : WS) : List (Nat × Nat) × WS := twinsTo S S.shapes.length
structure Same (S R : WS) (i : Nat) : Prop where
 shapes : R.shapes = S.shapes
 classes : R.classes = S.classes
 numbers : R.numbers = S.numbers
 nums : R.nums = S.nums
 said : R.said = S.said
 trail : R.trail.length ≤ S.trail.length + i
 files : R.files ≤ S.files + i
 al : ∀ s t, R.alike s = some t → S.alike s = some t ∨ t < i
theorem twinsTo_same (S : WS) : ∀ i, Same S (twinsTo S i).2 i
 | 0 => ⟨rfl, rfl, rfl, rfl, rfl, Nat.le_refl _, Nat.le_refl _, fun _ _ h => .inl h⟩
 | i + 1 => by
  obtain ⟨h1, h2, h3, h4, h5, h6, h7, h8⟩ := twinsTo_same S i
  obtain ⟨r1, r2, r3, r4, r5, r6, r7⟩ := fileM_rows (twinsTo S i).2 (shapeAt S i) i
  refine ⟨r1.trans h1, r2.trans h2, r3.trans h3, r4.trans h4, r5.trans h5, by simp only [twinsTo]; omega, by simp only [twinsTo]; omega, fun s t h => ?_⟩
  simp only [twinsTo] at h
  unfold fileM at h
  split at h
  ·exact (h8 s t h).imp id (fun e => by omega)
  ·simp only [setF] at h
   split at h
   ·cases h; exact .inr (by omega)
   ·exact (h8 s t h).imp id (fun e => by omega)
theorem twinsTo_length (S : WS) : ∀ i, (twinsTo S i).1.length ≤ i
 | 0 => Nat.le_refl _
 | i + 1 => by
  have := twinsTo_length S i
  simp only [twinsTo]
  split
  ·omega
  ·simp; omega
theorem Fits.same {S R : WS} {s : Sh} (h : Fits S s) (hc : R.classes = S.classes) : Fits R s :=
 ⟨h.name, h.count, fun i hi => by rw [hc]; exact h.known i hi, h.small, fun i => by unfold classAt; rw [hc]; exact h.classes i⟩
theorem flatSh_get {l : List Sh} {i : Nat} {s : Sh} (h : l[i]? = some s) : (flatSh l)[i * 5]? = some (.string s.1) ∧ (flatSh l)[i * 5 + 1]? = some (.int .i64 s.2.1) ∧ (flatSh l)[i * 5 + 2]? = some (.int .i64 s.2.2.1) ∧ (flatSh l)[i * 5 + 3]? = some (.int .i64 s.2.2.2.1) ∧ (flatSh l)[i * 5 + 4]? = some (.int .i64 s.2.2.2.2) := by
 induction l generalizing i with
 | nil => simp at h
 | cons d ds ih =>
  cases i with
  | zero => simp at h; subst h; simp [flatSh]
  | succ i =>
   have := ih (i := i) (by simpa using h)
   have e : (i + 1) * 5 = i * 5 + 1 + 1 + 1 + 1 + 1 := by omega
   rw [e]
   simpa [flatSh] using this
theorem row5_cells {w : World} {base e g len cap n : Nat} {l : List Sh} {s : Sh} {i : Nat} (h : w.ownsRow base e 5 (.slice (some ⟨g, 0, none⟩) len cap) n (flatSh l)) (hi : l[i]? = some s) :
  w.cell? ⟨g, i * 5, none⟩ = some (.string s.1) ∧ w.cell? ⟨g, i * 5 + 1, none⟩ = some (.int .i64 s.2.1) ∧ w.cell? ⟨g, i * 5 + 2, none⟩ = some (.int .i64 s.2.2.1) ∧ w.cell? ⟨g, i * 5 + 3, none⟩ = some (.int .i64 s.2.2.2.1) ∧ w.cell? ⟨g, i * 5 + 4, none⟩ = some (.int .i64 s.2.2.2.2) := by
 obtain ⟨hl, hr⟩ := h
 rcases hr with ⟨hv, _⟩ | ⟨g', cap', cur, hv, _, hg, _, _, hcs, htk⟩
 ·cases hv
 ·cases hv
  have hc := flatSh_get hi
  have key : ∀ j u, (flatSh l)[j]? = some u → w.cell? ⟨g, j, none⟩ = some u := by
   intro j u hu
   rw [cell_of_row w g j cur e (0, 0) hg]
   rw [← htk, List.getElem?_take] at hu
   split at hu
   ·simpa using hu
   ·cases hu
  exact ⟨key _ _ hc.1, key _ _ hc.2.1, key _ _ hc.2.2.1, key _ _ hc.2.2.2.1, key _ _ hc.2.2.2.2⟩
structure Pairing (w wr : World) (wb : Nat) (H : Hd) (Z : Nat → Prop) (v : Value) (ps : List (Nat × Nat)) (S : WS) : Prop where
 ex : ∃ bk, WebAt wr wb { H with backs := bk } (fun k => (Z k ∨ w.heap.size ≤ k) ∧ v.ownBlock ≠ some k) S ∧ ∀ k ∈ ({ H with backs := bk } : Hd).blocks wb, k ∈ H.blocks wb ∨ w.heap.size ≤ k
 row : wr.ownsRow w.heap.size 231 2 v ps.length (flat2 ps)
 upd : Upd (H.blocks wb) w wr
end Go.Proofs.YtmfkpllnmmfpiaaGreatDoor
