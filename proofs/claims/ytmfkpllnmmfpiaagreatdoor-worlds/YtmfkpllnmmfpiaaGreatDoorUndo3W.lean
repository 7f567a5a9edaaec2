/- Cut, Undo2, Undo3 -/
import Derived.Test.YtmfkpllnmmfpiaaGreatDoorLexW
import Derived.Laws.OwnMore
import Derived.Test.YtmfkpllnmmfpiaaGreatDoorGrowW
import Derived.Test.YtmfkpllnmmfpiaaGreatDoorTwinsW
namespace Go.Proofs.YtmfkpllnmmfpiaaGreatDoor
open Go.RowKit
theorem ownsRow_cut {w : World} {base e size g cap n m : Nat} {xs : List Value} (h : w.ownsRow base e size (.slice (some ⟨g, 0, none⟩) n cap) n xs) (hm : m ≤ n) : w.ownsRow base e size (.slice (some ⟨g, 0, none⟩) m cap) m (xs.take (m * size)) := by
 obtain ⟨hl, h2⟩ := h
 rcases h2 with ⟨h0, _⟩ | ⟨g', cap', cur, hv, hg, hh, hn, hcap, hsz, htake⟩
 ·cases h0
 ·cases hv
  refine ⟨?_, .inr ⟨g, cap, cur, rfl, hg, hh, by omega, hcap, hsz, ?_⟩⟩
  ·rw [List.length_take, hl]
   exact Nat.min_eq_left (Nat.mul_le_mul_right _ hm)
  ·rw [← htake, List.take_take, Nat.min_eq_left (Nat.mul_le_mul_right _ hm)]
theorem flatSaid_take : ∀ (l : List (Nat × Nat × Nat)) (m : Nat), flatSaid (l.take m) = (flatSaid l).take (m * 3)
 | [], m => by simp [flatSaid]
 | _ :: _, 0 => by simp [flatSaid]
 | s :: l, m + 1 => by
  rw [List.take_succ_cons, flatSaid, flatSaid, flatSaid_take l m, show (m + 1) * 3 = m * 3 + 1 + 1 + 1 by omega]
  simp
theorem flatSh_take : ∀ (l : List Sh) (m : Nat), flatSh (l.take m) = (flatSh l).take (m * 5)
 | [], m => by simp [flatSh]
 | _ :: _, 0 => by simp [flatSh]
 | s :: l, m + 1 => by
  rw [List.take_succ_cons, flatSh, flatSh, flatSh_take l m, show (m + 1) * 5 = m * 5 + 1 + 1 + 1 + 1 + 1 by omega]
  simp
theorem intsOf_take (l : List Nat) (m : Nat) : intsOf (l.take m) = (intsOf l).take (m * 1) := by simp [intsOf, List.map_take]
theorem WebAt.rehead {w w' : World} {wb : Nat} {H H' : Hd} {Z : Nat → Prop} {S S' : WS} (h : WebAt w wb H Z S) (U : Upd [wb] w w') (hfree : ∀ o, w'.frozen? ⟨wb, o, none⟩ = false)
  (hH : H'.blocks wb = H.blocks wb) (hnb : H'.nb = H.nb) (hab : H'.ab = H.ab)
  (c0 : w'.cell? ⟨wb, 0, none⟩ = some H'.backs) (c1 : w'.cell? ⟨wb, 2, none⟩ = some H'.shapes) (c2 : w'.cell? ⟨wb, 3, none⟩ = w.cell? ⟨wb, 3, none⟩) (c3 : w'.cell? ⟨wb, 4, none⟩ = some H'.classes) (c4 : w'.cell? ⟨wb, 5, none⟩ = w.cell? ⟨wb, 5, none⟩) (c5 : w'.cell? ⟨wb, 6, none⟩ = some H'.said) (cm : w'.cell? ⟨wb, 1, none⟩ = some H'.marks)
  (rs : w.ownsRow 0 141 5 H'.shapes S'.shapes.length (flatSh S'.shapes)) (rc : w.ownsRow 0 3 1 H'.classes S'.classes.length (intsOf S'.classes)) (rd : w.ownsRow 0 134 3 H'.said S'.said.length (flatSaid S'.said)) (rm : w.ownsRow 0 3 1 H'.marks S'.marks.length (intsOf S'.marks))
  (rb : ∃ cls : List Value, w.ownsRow 0 1 1 H'.backs S'.trail.length cls ∧ AllIs (IsUn w wb (fun k => Z k ∧ k ∉ H.blocks wb)) cls S'.trail)
  (hn : S'.numbers = S.numbers) (hns : S'.nums = S.nums) (ha : S'.alike = S.alike) (has : S'.files = S.files) : WebAt w' wb H' Z S' := by
 have hap : (H'.blocks wb).Nodup := by rw [hH]; exact h.apart
 have hA := Hd.parts hap
 obtain ⟨cls, hrow, hall⟩ := rb
 exact {
  lt := Nat.lt_of_lt_of_le h.lt U.size
  free := hfree
  c0 := c0
  c1 := c1
  c2 := by rw [hnb]; exact c2.trans h.c2
  c3 := c3
  c4 := by rw [hab]; exact c4.trans h.c4
  c5 := c5
  cm := cm
  rs := U.ownsRow rs fun k hk hm => by simp at hm; exact (hA.s k hk).1 hm
  rc := U.ownsRow rc fun k hk hm => by simp at hm; exact (hA.c k hk).1 hm
  rd := U.ownsRow rd fun k hk hm => by simp at hm; exact (hA.d k hk).1 hm
  rm := U.ownsRow rm fun k hk hm => by simp at hm; exact (hA.m k hk).1 hm
  mn := by rw [hnb, hn, hns]; exact h.mn.later U (by simp; rw [← hnb]; exact fun e => hA.wn e.symm)
  ma := by rw [hab, ha, has]; exact h.ma.later U (by simp; rw [← hab]; exact fun e => hA.wa e.symm)
  apart := hap
  rb := ⟨cls, U.ownsRow hrow (fun k hk hm => by simp at hm; exact (hA.b k hk).1 hm), by
   rw [hH]
   exact hall.mono fun _ _ hi => hi.later U fun k hk hm => hk.2 (by simp at hm; subst hm; exact H.mem_wb _)⟩
  inZ := by rw [hH]; exact h.inZ }
theorem blocks_said {wb g n c : Nat} {H : Hd} (h : H.said.ownBlock = some g) : ({ H with said := .slice (some ⟨g, 0, none⟩) n c } : Hd).blocks wb = H.blocks wb := by simp [Hd.blocks, h, own_slice]
theorem blocks_shapes {wb g n c : Nat} {H : Hd} (h : H.shapes.ownBlock = some g) : ({ H with shapes := .slice (some ⟨g, 0, none⟩) n c } : Hd).blocks wb = H.blocks wb := by simp [Hd.blocks, h, own_slice]
theorem blocks_classes {wb g n c : Nat} {H : Hd} (h : H.classes.ownBlock = some g) : ({ H with classes := .slice (some ⟨g, 0, none⟩) n c } : Hd).blocks wb = H.blocks wb := by simp [Hd.blocks, h, own_slice]
theorem blocks_backs {wb g n c : Nat} {H : Hd} (h : H.backs.ownBlock = some g) : ({ H with backs := .slice (some ⟨g, 0, none⟩) n c } : Hd).blocks wb = H.blocks wb := by simp [Hd.blocks, h, own_slice]
theorem WebAt.cut_said {w : World} {wb g cap m : Nat} {H : Hd} {Z : Nat → Prop} {S : WS} (h : WebAt w wb H Z S) (hd : H.said = .slice (some ⟨g, 0, none⟩) S.said.length cap) (hm : m ≤ S.said.length) :
  WebAt (w.setCell ⟨wb, 6, none⟩ (.slice (some ⟨g, 0, none⟩) m cap)) wb { H with said := .slice (some ⟨g, 0, none⟩) m cap } Z { S with said := S.said.take m } := by
 have hrd := h.rd
 rw [hd] at hrd
 have hlt := h.lt
 have c0 := h.c0
 have c1 := h.c1
 have c2 := h.c2
 have c3 := h.c3
 have c4 := h.c4
 have c5 := h.c5
 have cm := h.cm
 refine h.rehead ((Upd.refl [wb] w).setCell (p := ⟨wb, 6, none⟩) (by simp) _) (fun o => by rw [World.frozen?_setCell]; exact h.free o) (blocks_said (by rw [hd]; rfl)) rfl rfl (by go_simp) (by go_simp) (by go_simp) (by go_simp) (by go_simp) (by go_simp) (by go_simp) h.rs h.rc ?_ h.rm h.rb rfl rfl rfl rfl
 have := ownsRow_cut hrd hm
 simpa [flatSaid_take, Nat.min_eq_left hm] using this
theorem WebAt.cut_shapes {w : World} {wb g cap m : Nat} {H : Hd} {Z : Nat → Prop} {S : WS} (h : WebAt w wb H Z S) (hd : H.shapes = .slice (some ⟨g, 0, none⟩) S.shapes.length cap) (hm : m ≤ S.shapes.length) :
  WebAt (w.setCell ⟨wb, 2, none⟩ (.slice (some ⟨g, 0, none⟩) m cap)) wb { H with shapes := .slice (some ⟨g, 0, none⟩) m cap } Z { S with shapes := S.shapes.take m } := by
 have hrd := h.rs
 rw [hd] at hrd
 have hlt := h.lt
 have c0 := h.c0
 have c1 := h.c1
 have c2 := h.c2
 have c3 := h.c3
 have c4 := h.c4
 have c5 := h.c5
 have cm := h.cm
 refine h.rehead ((Upd.refl [wb] w).setCell (p := ⟨wb, 2, none⟩) (by simp) _) (fun o => by rw [World.frozen?_setCell]; exact h.free o) (blocks_shapes (by rw [hd]; rfl)) rfl rfl (by go_simp) (by go_simp) (by go_simp) (by go_simp) (by go_simp) (by go_simp) (by go_simp) ?_ h.rc h.rd h.rm h.rb rfl rfl rfl rfl
 have := ownsRow_cut hrd hm
 simpa [flatSh_take, Nat.min_eq_left hm] using this
theorem WebAt.cut_classes {w : World} {wb g cap m : Nat} {H : Hd} {Z : Nat → Prop} {S : WS} (h : WebAt w wb H Z S) (hd : H.classes = .slice (some ⟨g, 0, none⟩) S.classes.length cap) (hm : m ≤ S.classes.length) :
  WebAt (w.setCell ⟨wb, 4, none⟩ (.slice (some ⟨g, 0, none⟩) m cap)) wb { H with classes := .slice (some ⟨g, 0, none⟩) m cap } Z { S with classes := S.classes.take m } := by
 have hrd := h.rc
 rw [hd] at hrd
 have hlt := h.lt
 have c0 := h.c0
 have c1 := h.c1
 have c2 := h.c2
 have c3 := h.c3
 have c4 := h.c4
 have c5 := h.c5
 have cm := h.cm
 refine h.rehead ((Upd.refl [wb] w).setCell (p := ⟨wb, 4, none⟩) (by simp) _) (fun o => by rw [World.frozen?_setCell]; exact h.free o) (blocks_classes (by rw [hd]; rfl)) rfl rfl (by go_simp) (by go_simp) (by go_simp) (by go_simp) (by go_simp) (by go_simp) (by go_simp) h.rs ?_ h.rd h.rm h.rb rfl rfl rfl rfl
 have := ownsRow_cut hrd hm
 rw [intsOf_take]
 simpa [Nat.min_eq_left hm] using this
theorem AllIs.unsnoc {α β : Type} {R : α → β → Prop} {ys : List β} {b : β} : ∀ {xs : List α}, AllIs R xs (ys ++ [b]) → ∃ ls a, xs = ls ++ [a] ∧ AllIs R ls ys ∧ R a b := by
 induction ys with
 | nil =>
  intro xs h
  match xs, h with
  | [a], h => exact ⟨[], a, rfl, trivial, h.1⟩
  | [], h => exact h.elim
  | _ :: _ :: _, h => exact h.2.elim
 | cons y ys ih =>
  intro xs h
  match xs, h with
  | x :: xs, h =>
   obtain ⟨ls, a, rfl, h2, h3⟩ := ih h.2
   exact ⟨x :: ls, a, rfl, ⟨h.1, h2⟩, h3⟩
  | [], h => exact h.elim
theorem WebAt.pop {w : World} {wb g cap : Nat} {H : Hd} {Z : Nat → Prop} {S : WS} {us : List Un} {u : Un} {z : Value} (h : WebAt w wb H Z S) (ht : S.trail = us ++ [u]) (hd : H.backs = .slice (some ⟨g, 0, none⟩) (us.length + 1) cap) :
  WebAt ((w.setCell ⟨g, us.length, none⟩ z).setCell ⟨wb, 0, none⟩ (.slice (some ⟨g, 0, none⟩) us.length cap)) wb { H with backs := .slice (some ⟨g, 0, none⟩) us.length cap } Z { S with trail := us } ∧
   ∃ v, w.cell? ⟨g, us.length, none⟩ = some v ∧ IsUn ((w.setCell ⟨g, us.length, none⟩ z).setCell ⟨wb, 0, none⟩ (.slice (some ⟨g, 0, none⟩) us.length cap)) wb (fun k => Z k ∧ k ∉ H.blocks wb) v u ∧ w.frozen? ⟨g, us.length, none⟩ = false := by
 obtain ⟨cls, hrow, hall⟩ := h.rb
 rw [ht] at hall
 obtain ⟨cs, v, rfl, hall', hv⟩ := hall.unsnoc
 rw [hd, ht] at hrow
 simp only [List.length_append, List.length_singleton] at hrow
 have hcl := hall'.length
 have hg : H.backs.ownBlock = some g := by rw [hd]; rfl
 have hA := Hd.parts h.apart
 have hgw := (hA.b g hg).1
 have hlt := h.lt
 have U1 := (Upd.refl [g] w).setCell (p := ⟨g, us.length, none⟩) (by simp) z
 have hwg : wb ∉ [g] := by simp; exact fun e => hgw e.symm
 have c0 := (U1.cell (p := ⟨wb, 0, none⟩) h.lt hwg).trans h.c0
 have c1 := (U1.cell (p := ⟨wb, 2, none⟩) h.lt hwg).trans h.c1
 have c2 := (U1.cell (p := ⟨wb, 3, none⟩) h.lt hwg).trans h.c2
 have c3 := (U1.cell (p := ⟨wb, 4, none⟩) h.lt hwg).trans h.c3
 have c4 := (U1.cell (p := ⟨wb, 5, none⟩) h.lt hwg).trans h.c4
 have c5 := (U1.cell (p := ⟨wb, 6, none⟩) h.lt hwg).trans h.c5
 have cm := (U1.cell (p := ⟨wb, 1, none⟩) h.lt hwg).trans h.cm
 have U2 := (U1.mono (L' := [g, wb]) (fun x hx _ => by simp at hx ⊢; exact .inl hx)).setCell (p := ⟨wb, 0, none⟩) (by simp) (.slice (some ⟨g, 0, none⟩) us.length cap)
 have hB : ∀ k, k ∈ [g, wb] → k ∈ H.blocks wb := fun k hk => by
  simp at hk
  rcases hk with rfl | rfl
  ·exact Hd.mem_backs hg
  ·exact H.mem_wb _
 have hFn : ∀ k, Z k ∧ k ∉ H.blocks wb → k ∉ [g, wb] := fun k hk hm => hk.2 (hB k hm)
 have hrow' : w.ownsRow 0 1 1 (.slice (some ⟨g, 0, none⟩) us.length cap) us.length cs := by
  have := ownsRow_cut (m := us.length) hrow (by omega)
  rw [Nat.mul_one, ← hcl, List.take_left] at this
  rw [← hcl]; exact this
 have hrow2 : (w.setCell ⟨g, us.length, none⟩ z).ownsRow 0 1 1 (.slice (some ⟨g, 0, none⟩) us.length cap) us.length cs := by
  have h1 := (hrow.stored us.length z).1
  have := ownsRow_cut (m := us.length) h1 (by omega)
  rw [Nat.mul_one, ← hcl, List.take_set_of_le (Nat.le_refl _), List.take_left] at this
  rw [← hcl]; exact this
 have hH : ({ H with backs := .slice (some ⟨g, 0, none⟩) us.length cap } : Hd).blocks wb = H.blocks wb := blocks_backs hg
 refine ⟨?_, v, ?_, hv.later U2 hFn, hrow.frozenAt _⟩
 ·have hap : (({ H with backs := .slice (some ⟨g, 0, none⟩) us.length cap } : Hd).blocks wb).Nodup := by rw [hH]; exact h.apart
  have hno : ∀ k, k ∈ H.blocks wb → k ≠ g → k ≠ wb → k ∉ [g, wb] := fun k _ h1 h2 hm => by simp at hm; rcases hm with hm | hm; exact h1 hm; exact h2 hm
  exact {
   lt := Nat.lt_of_lt_of_le h.lt U2.size
   free := fun o => by rw [World.frozen?_setCell]; exact (U1.frozen (p := ⟨wb, o, none⟩) h.lt hwg).trans (h.free o)
   c0 := by go_simp
   c1 := by go_simp
   c2 := by go_simp
   c3 := by go_simp
   c4 := by go_simp
   c5 := by go_simp
   cm := by go_simp
   rs := U2.ownsRow h.rs fun k hk => hno k (Hd.mem_shapes hk) (fun e => (hA.s k hk).2.2.2.1 (e ▸ hg)) (hA.s k hk).1
   rc := U2.ownsRow h.rc fun k hk => hno k (Hd.mem_classes hk) (fun e => (hA.c k hk).2.2.2.1 (e ▸ hg)) (hA.c k hk).1
   rd := U2.ownsRow h.rd fun k hk => hno k (Hd.mem_said hk) (fun e => (hA.d k hk).2.2.2.1 (e ▸ hg)) (hA.d k hk).1
   rm := U2.ownsRow h.rm fun k hk => hno k (Hd.mem_marks hk) (fun e => (hA.m k hk).2.2.2.1 (e ▸ hg)) (hA.m k hk).1
   mn := h.mn.later U2 (hno _ (H.mem_nb wb) (fun e => (hA.b g hg).2.1 e.symm) (fun e => hA.wn e.symm))
   ma := h.ma.later U2 (hno _ (H.mem_ab wb) (fun e => (hA.b g hg).2.2.1 e.symm) (fun e => hA.wa e.symm))
   apart := hap
   rb := ⟨cs, ((Upd.refl [wb] (w.setCell ⟨g, us.length, none⟩ z)).setCell (p := ⟨wb, 0, none⟩) (by simp) _).ownsRow hrow2 (fun k hk hm => by simp [own_slice] at hk hm; omega), by
    rw [hH]
    exact hall'.mono fun _ _ hi => hi.later U2 hFn⟩
   inZ := by rw [hH]; exact h.inZ }
 ·have := hrow.cellAt us.length (by omega)
  rw [this, ← hcl]
  simp
end Go.Proofs.YtmfkpllnmmfpiaaGreatDoor

namespace Go.Proofs.YtmfkpllnmmfpiaaGreatDoor
open Go.RowKit
set_option maxHeartbeats 1000000 in
set_option maxRecDepth 100000 in
theorem note1_any (w : World) (wb bw : Nat) (H : Hd) (Z : Nat → Prop) (S : WS) (h : WebAt w wb H Z S) (hw : w.cell? ⟨bw, 0, none⟩ = some (.pointer (some ⟨wb, 0, none⟩))) (hpos : 0 < S.said.length) :
  Calls Tryz.prog 154 #[.pointer (some ⟨bw, 0, none⟩)] w fun e w' => e = .returned (.tuple #[]) ∧ ∃ H', WebAt w' wb H' Z { S with said := S.said.dropLast } ∧ Upd (H.blocks wb) w w' ∧ H'.blocks wb = H.blocks wb := by
 obtain ⟨g, cap, hd, hcap, hmax⟩ : ∃ g cap, H.said = .slice (some ⟨g, 0, none⟩) S.said.length cap ∧ S.said.length ≤ cap ∧ cap ≤ maxLen := by
  rcases ownsRow_slice h.rd with ⟨_, h0⟩ | hh
  ·omega
  ·exact hh
 have c5 := h.c5
 rw [hd] at c5
 have hfr := h.free
 unfold maxLen at hmax
 have hW := h.cut_said (m := S.said.length - 1) hd (by omega)
 rw [← List.dropLast_eq_take] at hW
 have HU : Hid (Upd (H.blocks wb) w (w.setCell ⟨wb, 6, none⟩ (.slice (some ⟨g, 0, none⟩) (S.said.length - 1) cap)).drew) := ((Upd.refl (H.blocks wb) w).setCell (p := ⟨wb, 6, none⟩) (.inl (H.mem_wb wb)) _).drew
 have HW : Hid (WebAt (w.setCell ⟨wb, 6, none⟩ (.slice (some ⟨g, 0, none⟩) (S.said.length - 1) cap)).drew wb { H with said := .slice (some ⟨g, 0, none⟩) (S.said.length - 1) cap } Z { S with said := S.said.dropLast }) := hW.later ((Upd.refl [] _).drew) (fun _ _ => by simp)
 have HB : Hid (({ H with said := .slice (some ⟨g, 0, none⟩) (S.said.length - 1) cap } : Hd).blocks wb = H.blocks wb) := blocks_said (by rw [hd]; rfl)
 obtain ⟨n, hn⟩ : ∃ n, S.said.length = n + 1 := ⟨S.said.length - 1, by omega⟩
 rw [hn] at c5 HU HW HB hcap
 simp only [Nat.add_sub_cancel] at HU HW HB
 clear hW hd hn hpos
 go_enter Tryz.func154, Tryz.ntmps154
 go_wp2
 go_region
 go_wp2
 go_end0
 exact ⟨rfl, _, HW.out, HU.out, HB.out⟩
theorem flatSh_set : ∀ (l : List Sh) (i : Nat) (s : Sh), i < l.length → flatSh (l.set i s) = (((((flatSh l).set (i * 5) (.string s.1)).set (i * 5 + 1) (.int .i64 s.2.1)).set (i * 5 + 2) (.int .i64 s.2.2.1)).set (i * 5 + 3) (.int .i64 s.2.2.2.1)).set (i * 5 + 4) (.int .i64 s.2.2.2.2)
 | [], _, _, h => by simp at h
 | t :: l, 0, s, _ => by simp [flatSh]
 | t :: l, i + 1, s, h => by
  have := flatSh_set l i s (by simpa using h)
  rw [List.set_cons_succ, flatSh, flatSh, this, show (i + 1) * 5 = i * 5 + 1 + 1 + 1 + 1 + 1 by omega]
  simp only [List.set_cons_succ, Nat.add_right_comm _ 1]
def put5 (w : World) (g o : Nat) (s : Sh) : World := ((((w.setCell ⟨g, o, none⟩ (.string s.1)).setCell ⟨g, o + 1, none⟩ (.int .i64 s.2.1)).setCell ⟨g, o + 2, none⟩ (.int .i64 s.2.2.1)).setCell ⟨g, o + 3, none⟩ (.int .i64 s.2.2.2.1)).setCell ⟨g, o + 4, none⟩ (.int .i64 s.2.2.2.2)
theorem put5_upd (w : World) (g o : Nat) (s : Sh) : Upd [g] w (put5 w g o s) := (((((Upd.refl [g] w).setCell (p := ⟨g, o, none⟩) (by simp) _).setCell (p := ⟨g, o + 1, none⟩) (by simp) _).setCell (p := ⟨g, o + 2, none⟩) (by simp) _).setCell (p := ⟨g, o + 3, none⟩) (by simp) _).setCell (p := ⟨g, o + 4, none⟩) (by simp) _
theorem WebAt.set_shape {w : World} {wb g cap i : Nat} {H : Hd} {Z : Nat → Prop} {S : WS} {s : Sh} (h : WebAt w wb H Z S) (hcl : H.shapes = .slice (some ⟨g, 0, none⟩) S.shapes.length cap) (hi : i < S.shapes.length) : WebAt (put5 w g (i * 5) s) wb H Z { S with shapes := S.shapes.set i s } := by
 have hA := Hd.parts h.apart
 have hg : H.shapes.ownBlock = some g := by rw [hcl]; rfl
 have hn := hA.s g hg
 have U := put5_upd w g (i * 5) s
 have hwb : wb ∉ [g] := by simp; exact fun e => hn.1 e.symm
 obtain ⟨cls, hrow, hall⟩ := h.rb
 exact {
  lt := Nat.lt_of_lt_of_le h.lt U.size
  free := fun o => (U.frozen (p := ⟨wb, o, none⟩) h.lt hwb).trans (h.free o)
  c0 := (U.cell h.lt hwb).trans h.c0
  c1 := (U.cell h.lt hwb).trans h.c1
  c2 := (U.cell h.lt hwb).trans h.c2
  c3 := (U.cell h.lt hwb).trans h.c3
  c4 := (U.cell h.lt hwb).trans h.c4
  c5 := (U.cell h.lt hwb).trans h.c5
  cm := (U.cell h.lt hwb).trans h.cm
  rs := by
   have := h.rs
   rw [hcl] at this ⊢
   have h5 := (((((this.stored (i * 5) (.string s.1)).1.stored (i * 5 + 1) (.int .i64 s.2.1)).1.stored (i * 5 + 2) (.int .i64 s.2.2.1)).1.stored (i * 5 + 3) (.int .i64 s.2.2.2.1)).1.stored (i * 5 + 4) (.int .i64 s.2.2.2.2)).1
   simp only [List.length_set, flatSh_set _ _ _ hi]
   exact h5
  rc := U.ownsRow h.rc fun k hk hm => by simp at hm; subst hm; exact hn.2.2.2.2.1 hk
  rd := U.ownsRow h.rd fun k hk hm => by simp at hm; subst hm; exact hn.2.2.2.2.2 hk
  rm := U.ownsRow h.rm fun k hk hm => by simp at hm; subst hm; exact (hA.m k hk).2.2.2.2.1 hg
  mn := h.mn.later U (by simp; exact fun e => hn.2.1 e.symm)
  ma := h.ma.later U (by simp; exact fun e => hn.2.2.1 e.symm)
  apart := h.apart
  rb := ⟨cls, U.ownsRow hrow (fun k hk hm => by simp at hm; subst hm; exact hn.2.2.2.1 hk), hall.mono fun _ _ hi => hi.later U fun k hk hm => hk.2 (by simp at hm; subst hm; exact Hd.mem_shapes hg)⟩
  inZ := h.inZ }
end Go.Proofs.YtmfkpllnmmfpiaaGreatDoor

namespace Go.Proofs.YtmfkpllnmmfpiaaGreatDoor
open Go.RowKit
set_option maxHeartbeats 2000000 in
set_option maxRecDepth 100000 in
theorem enter1_any (w : World) (wb bw bn bs : Nat) (H : Hd) (Z : Nat → Prop) (S : WS) (n : Nat) (s : Sh) (h : WebAt w wb H Z S) (hw : Box1 w bw (.pointer (some ⟨wb, 0, none⟩))) (hn : Box1 w bn (.int .i64 n)) (hs : BoxSh w bs s) (hgs : GoodSh s) (hin : (S.numbers s).isSome = true) (hlt : n < S.shapes.length) (hlc : n < S.classes.length)
  (ow : bw ∉ H.blocks wb) (on : bn ∉ H.blocks wb) (os : bs ∉ H.blocks wb) :
  Calls Tryz.prog 158 #[.pointer (some ⟨bw, 0, none⟩), .pointer (some ⟨bn, 0, none⟩), .pointer (some ⟨bs, 0, none⟩)] w fun e w' => e = .returned (.tuple #[]) ∧ ∃ H', WebAt w' wb H' Z { S with shapes := S.shapes.take n, classes := S.classes.take n, numbers := setF S.numbers s none, nums := S.nums - 1 } ∧ Upd (H.blocks wb) w w' ∧ H'.blocks wb = H.blocks wb := by
 obtain ⟨g, cap, hd, hcap, hmax⟩ : ∃ g cap, H.shapes = .slice (some ⟨g, 0, none⟩) S.shapes.length cap ∧ S.shapes.length ≤ cap ∧ cap ≤ maxLen := by
  rcases ownsRow_slice h.rs with ⟨_, h0⟩ | hh
  ·omega
  ·exact hh
 have hlt' : (n : Int) < (S.shapes.length : Int) := by omega
 have c1 := h.c1
 rw [hd] at c1
 have hrs := h.rs
 rw [hd] at hrs
 obtain ⟨e0, e1, e2, e3, e4⟩ := row5_cells hrs (List.getElem?_eq_getElem hlt)
 have hfr := hrs.frozenAt
 have hw0 := hw.2
 have hn0 := hn.2
 have HX : Hid ((S.shapes.set n noSh).take n = S.shapes.take n) := List.take_set_of_le (Nat.le_refl n)
 have hgB : g ∈ H.blocks wb := Hd.mem_shapes (by rw [hd]; rfl)
 have HS := hide (h.set_shape (s := noSh) hd hlt)
 have HU := hide (put5_upd w g (n * 5) noSh)
 have Hlt := hide hlc
 have Hd' := hide hd
 go_enter Tryz.func158, Tryz.ntmps158
 go_wp2
 go_region
 obtain ⟨W1, hW1⟩ : ∃ W1, W1 = (put5 w g (n * 5) noSh).drew := ⟨_, rfl⟩
 have hW1' : W1 = (((((w.setCell ⟨g, n * 5, none⟩ (.string ⟨#[]⟩)).setCell ⟨g, n * 5 + 1, none⟩ (.int .i64 0)).setCell ⟨g, n * 5 + 2, none⟩ (.int .i64 0)).setCell ⟨g, n * 5 + 3, none⟩ (.int .i64 0)).setCell ⟨g, n * 5 + 4, none⟩ (.int .i64 0)).drew := hW1
 rw [← hW1']
 have h1 : WebAt W1 wb H Z { S with shapes := S.shapes.set n noSh } := hW1 ▸ HS.out.later ((Upd.refl [] _).drew) (fun _ _ => by simp)
 have U1 : Upd (H.blocks wb) w W1 := hW1 ▸ (HU.out.mono (fun x hx _ => by simp at hx; subst hx; exact hgB)).drew
 clear hW1 hW1' HS HU e0 e1 e2 e3 e4 hfr c1 hrs hw0 hn0 hd hlt hlc h
 have hw1 := hw.later U1 ow
 have hn1 := hn.later U1 on
 have hs1 := hs.later U1 os
 have hwc := hw1.2
 have hnc := hn1.2
 have c1 := h1.c1
 rw [Hd'.out] at c1
 have hfr := h1.free
 have hd1 : H.shapes = .slice (some ⟨g, 0, none⟩) (S.shapes.set n noSh).length cap := by rw [List.length_set]; exact Hd'.out
 have HS2 := hide (h1.cut_shapes (m := n) hd1 (by simp; omega))
 have HB2 := hide (blocks_shapes (wb := wb) (n := n) (c := cap) (H := H) (g := g) (by rw [Hd'.out]; rfl))
 clear hd1
 have hncap : (n : Int) ≤ (cap : Int) := by omega
 unfold maxLen at hmax
 go_wp2
 go_region
 obtain ⟨W2, hW2⟩ : ∃ W2, W2 = (W1.setCell ⟨wb, 2, none⟩ (.slice (some ⟨g, 0, none⟩) n cap)).drew := ⟨_, rfl⟩
 rw [← hW2]
 have h2 := HS2.out.later ((Upd.refl [] _).drew) (fun _ _ => by simp)
 rw [HX.out, ← hW2] at h2
 have U2 : Upd (H.blocks wb) w W2 := hW2 ▸ (U1.setCell (p := ⟨wb, 2, none⟩) (.inl (H.mem_wb wb)) _).drew
 clear hW2 HS2 c1 hfr hwc hnc hw1 hn1 hs1 h1 U1
 have HB := HB2.out
 generalize hH2 : ({ H with shapes := .slice (some ⟨g, 0, none⟩) n cap } : Hd) = H2 at *
 have hcH : H2.classes = H.classes := by rw [← hH2]
 clear hH2 HB2
 obtain ⟨g3, cap3, hd3, hcap3, hmax3⟩ : ∃ g cap, H2.classes = .slice (some ⟨g, 0, none⟩) S.classes.length cap ∧ S.classes.length ≤ cap ∧ cap ≤ maxLen := by
  rcases ownsRow_slice h2.rc with ⟨_, h0⟩ | hh
  ·have := Hlt.out; simp at h0; rw [h0] at this; simp at this
  ·exact hh
 have hw1 := hw.later U2 ow
 have hn1 := hn.later U2 on
 have hs1 := hs.later U2 os
 have hwc := hw1.2
 have hnc := hn1.2
 have c3 := h2.c3
 rw [hd3] at c3
 have hfr := h2.free
 have HS3 := hide (h2.cut_classes (m := n) hd3 (by have := Hlt.out; simp; omega))
 have HB3 := hide (blocks_classes (wb := wb) (n := n) (c := cap3) (H := H2) (g := g3) (by rw [hd3]; rfl))
 have hncap3 : (n : Int) ≤ (cap3 : Int) := by have := Hlt.out; omega
 have hlc3 : (n : Int) ≤ (S.classes.length : Int) := by have := Hlt.out; omega
 unfold maxLen at hmax3
 clear hd3 hcH
 go_wp2
 go_region
 obtain ⟨W3, hW3⟩ : ∃ W3, W3 = (W2.setCell ⟨wb, 4, none⟩ (.slice (some ⟨g3, 0, none⟩) n cap3)).drew := ⟨_, rfl⟩
 rw [← hW3]
 have h3 := HS3.out.later ((Upd.refl [] _).drew) (fun _ _ => by simp)
 rw [← hW3] at h3
 have U3 : Upd (H.blocks wb) w W3 := hW3 ▸ (U2.setCell (p := ⟨wb, 4, none⟩) (.inl (H.mem_wb wb)) _).drew
 clear hW3 HS3 c3 hfr hwc hnc hw1 hn1 hs1 h2 U2
 have HBf := HB3.out.trans HB
 generalize hH3 : ({ H2 with classes := .slice (some ⟨g3, 0, none⟩) n cap3 } : Hd) = H3 at *
 clear hH3 HB3 HB
 have hw1 := hw.later U3 ow
 have hs1 := hs.later U3 os
 have hwc := hw1.2
 obtain ⟨_, v1, v2, v3, v4, v5⟩ := hs1
 have c2 := h3.c2
 obtain ⟨wf, hrun0, hm, ht⟩ := (h3.mn.later ((Upd.refl [] W3).drew) (by simp)).del s hgs hin 0
 have hrun : (Builtin.delete_ #[108, 141] 0 #[.map (some H3.nb), .agg #[.string s.1, .int .i64 s.2.1, .int .i64 s.2.2.1, .int .i64 s.2.2.2.1, .int .i64 s.2.2.2.2]]).run Tryz.prog W3.drew = .ok (.tuple #[]) wf := hrun0
 have HW := hide ((h3.later ((Upd.refl [] W3).drew) (fun _ _ => by simp)).set_numbers ht hm)
 have HU : Hid (Upd (H.blocks wb) w wf) := (U3.drew).trans' (mapTurned_upd ht) (fun x hx _ => by simp at hx; rw [hx, ← HBf]; exact H3.mem_nb wb)
 have HBF := hide HBf
 clear hrun0 hm ht HBf h3 U3 hw hn hs
 go_wp2
 go_region
 go_wp2
 go_end0
 exact ⟨rfl, H3, HW.out, HU.out, HBF.out⟩
end Go.Proofs.YtmfkpllnmmfpiaaGreatDoor
