/-
  A Web whose rows of shapes and of classes grow, whose first map turns.
-/
import Derived.Test.YtmfkpllnmmfpiaaGreatDoorFileH
namespace Go.Proofs.YtmfkpllnmmfpiaaGreatDoor
open Go.RowKit

theorem info_shape : (Tryz.prog.info? 141).map (fun i => (i.zero, i.size, i.bytes)) = some (some (.agg #[.string ⟨#[]⟩, .int .i64 0, .int .i64 0, .int .i64 0, .int .i64 0]), 5, 48) := by kernel_rfl
theorem info_int : (Tryz.prog.info? 3).map (fun i => (i.zero, i.size, i.bytes)) = some (some (.int .i64 0), 1, 8) := by kernel_rfl
theorem flatSh_append (a b : List Sh) : flatSh (a ++ b) = flatSh a ++ flatSh b := by
  induction a with
  | nil => rfl
  | cons c cs ih => simp [flatSh, ih]
theorem intsOf_append (a b : List Nat) : intsOf (a ++ b) = intsOf a ++ intsOf b := by simp [intsOf]

/-- The row 'shapes' replaced by a grown one. -/
theorem WebAt.grow_shapes {w w1 w2 : World} {wb g cap : Nat} {H : Hd} {Z : Nat → Prop} {S : WS} {x : Sh} (h : WebAt w wb H Z S)
    (hu1 : Upd [] w w1) (hgrow : w1.grownBy w2 H.shapes.ownBlock) (hat : H.shapes.ownBlock = some g ∨ g = w1.heap.size)
    (hown : w2.ownsRow 0 141 5 (.slice (some ⟨g, 0, none⟩) (S.shapes.length + 1) cap) (S.shapes.length + 1) (flatSh S.shapes ++ flatSh [x])) :
    WebAt (w2.setCell ⟨wb, 2, none⟩ (.slice (some ⟨g, 0, none⟩) (S.shapes.length + 1) cap)) wb { H with shapes := .slice (some ⟨g, 0, none⟩) (S.shapes.length + 1) cap } (fun k => Z k ∨ w.heap.size ≤ k) { S with shapes := S.shapes ++ [x] } ∧
      Upd (H.blocks wb) w (w2.setCell ⟨wb, 2, none⟩ (.slice (some ⟨g, 0, none⟩) (S.shapes.length + 1) cap)) := by
  have hA := Hd.parts h.apart
  have hsz1 := hu1.size
  have U2 : Upd H.shapes.ownBlock.toList w w2 := (hu1.mono (fun x hx _ => by cases hx)).trans (Upd.of_grown hgrow)
  have hwb2 : wb ∉ H.shapes.ownBlock.toList := fun hm => (hA.s wb (by simpa using hm)).1 rfl
  have c1 : w2.cell? ⟨wb, 2, none⟩ = some H.shapes := (U2.cell h.lt hwb2).trans h.c1
  have U : Upd (wb :: H.shapes.ownBlock.toList) w (w2.setCell ⟨wb, 2, none⟩ (.slice (some ⟨g, 0, none⟩) (S.shapes.length + 1) cap)) := (U2.mono (fun x hx _ => by simp at hx ⊢; exact .inr hx)).setCell (by simp) _
  have hsub : ∀ k, k ∈ wb :: H.shapes.ownBlock.toList → k ∈ H.blocks wb := fun k hk => by
    simp at hk
    rcases hk with rfl | hk
    · exact H.mem_wb _
    · exact Hd.mem_shapes hk
  have hgf : H.shapes.ownBlock = some g ∨ w.heap.size ≤ g := hat.imp id (fun e => by omega)
  have hgn : H.shapes.ownBlock = some g ∨ g ∉ H.blocks wb := hgf.imp id (fun e hm => by have := h.mem_lt g hm; omega)
  have hgw : g ≠ wb := fun e => by
    subst e
    rcases hgf with hg | hg
    · exact (hA.s g hg).1 rfl
    · have := h.lt; omega
  have hH : ∀ k ∈ ({ H with shapes := .slice (some ⟨g, 0, none⟩) (S.shapes.length + 1) cap } : Hd).blocks wb, k ∈ H.blocks wb ∨ w.heap.size ≤ k := fun k hk => by
    rw [Hd.mem_iff] at hk
    rcases hk with h1 | h1 | h1 | h1 | h1 | h1 | h1 | h1
    · exact .inl (Hd.mem_iff.2 (.inl h1))
    · exact .inl (Hd.mem_iff.2 (.inr (.inl h1)))
    · exact .inl (Hd.mem_iff.2 (.inr (.inr (.inl h1))))
    · exact .inl (Hd.mem_backs h1)
    · simp only [own_slice, Option.some.injEq] at h1
      subst h1
      exact hgf.imp (fun e => Hd.mem_shapes e) id
    · exact .inl (Hd.mem_classes h1)
    · exact .inl (Hd.mem_said h1)
    · exact .inl (Hd.mem_marks h1)
  obtain ⟨cls, hrow, hall⟩ := h.rb
  have nobacks : ∀ k, H.backs.ownBlock = some k → k ∉ wb :: H.shapes.ownBlock.toList := fun k hk hm => by simp at hm; rcases hm with hm | hm; exact (hA.b k hk).1 hm; exact (hA.b k hk).2.2.2.1 hm
  have noclasses : ∀ k, H.classes.ownBlock = some k → k ∉ wb :: H.shapes.ownBlock.toList := fun k hk hm => by simp at hm; rcases hm with hm | hm; exact (hA.c k hk).1 hm; exact (hA.c k hk).2.2.2.2.1 hm
  have nosaid : ∀ k, H.said.ownBlock = some k → k ∉ wb :: H.shapes.ownBlock.toList := fun k hk hm => by simp at hm; rcases hm with hm | hm; exact (hA.d k hk).1 hm; exact (hA.d k hk).2.2.2.2.1 hm
  have nomarks : ∀ k, H.marks.ownBlock = some k → k ∉ wb :: H.shapes.ownBlock.toList := fun k hk hm => by simp at hm; rcases hm with hm | hm; exact (hA.m k hk).1 hm; exact (hA.m k hk).2.2.2.2.1 hm
  have nonb : H.nb ∉ wb :: H.shapes.ownBlock.toList := fun hm => by simp at hm; rcases hm with hm | hm; exact hA.wn hm.symm; exact (hA.s _ hm).2.1 rfl
  have noab : H.ab ∉ wb :: H.shapes.ownBlock.toList := fun hm => by simp at hm; rcases hm with hm | hm; exact hA.wa hm.symm; exact (hA.s _ hm).2.2.1 rfl
  refine ⟨{
    lt := Nat.lt_of_lt_of_le h.lt U.size
    free := fun o => by rw [World.frozen?_setCell]; exact (U2.frozen (p := ⟨wb, o, none⟩) h.lt hwb2).trans (h.free o)
    c0 := by have := (U2.cell (p := ⟨wb, 0, none⟩) h.lt hwb2).trans h.c0; go_simp
    c1 := by go_simp
    c2 := by have := (U2.cell (p := ⟨wb, 3, none⟩) h.lt hwb2).trans h.c2; go_simp
    c3 := by have := (U2.cell (p := ⟨wb, 4, none⟩) h.lt hwb2).trans h.c3; go_simp
    c4 := by have := (U2.cell (p := ⟨wb, 5, none⟩) h.lt hwb2).trans h.c4; go_simp
    c5 := by have := (U2.cell (p := ⟨wb, 6, none⟩) h.lt hwb2).trans h.c5; go_simp
    cm := by have := (U2.cell (p := ⟨wb, 1, none⟩) h.lt hwb2).trans h.cm; go_simp
    rs := ?_
    rc := U.ownsRow h.rc noclasses
    rd := U.ownsRow h.rd nosaid
    rm := U.ownsRow h.rm nomarks
    mn := h.mn.later U nonb
    ma := h.ma.later U noab
    apart := Hd.apart_shapes h.apart hgn
    rb := ⟨cls, U.ownsRow hrow nobacks, hall.mono fun _ _ hi => hi.closures U (fun k hk _ => hsub k hk) hH⟩
    inZ := fun k hk => (hH k hk).imp (h.inZ k) id }, U.mono fun x hx _ => hsub x hx⟩
  have := ((Upd.refl [wb] w2).setCell (p := ⟨wb, 2, none⟩) (by simp) (.slice (some ⟨g, 0, none⟩) (S.shapes.length + 1) cap)).ownsRow hown (fun k hk hm => by simp [Value.ownBlock] at hk hm; omega)
  show World.ownsRow _ _ _ _ _ (S.shapes ++ [x]).length (flatSh (S.shapes ++ [x]))
  rw [flatSh_append]
  simpa using this

/-- The row 'classes' replaced by a grown one. -/
theorem WebAt.grow_classes {w w1 w2 : World} {wb g cap : Nat} {H : Hd} {Z : Nat → Prop} {S : WS} {x : Nat} (h : WebAt w wb H Z S)
    (hu1 : Upd [] w w1) (hgrow : w1.grownBy w2 H.classes.ownBlock) (hat : H.classes.ownBlock = some g ∨ g = w1.heap.size)
    (hown : w2.ownsRow 0 3 1 (.slice (some ⟨g, 0, none⟩) (S.classes.length + 1) cap) (S.classes.length + 1) (intsOf S.classes ++ intsOf [x])) :
    WebAt (w2.setCell ⟨wb, 4, none⟩ (.slice (some ⟨g, 0, none⟩) (S.classes.length + 1) cap)) wb { H with classes := .slice (some ⟨g, 0, none⟩) (S.classes.length + 1) cap } (fun k => Z k ∨ w.heap.size ≤ k) { S with classes := S.classes ++ [x] } ∧
      Upd (H.blocks wb) w (w2.setCell ⟨wb, 4, none⟩ (.slice (some ⟨g, 0, none⟩) (S.classes.length + 1) cap)) := by
  have hA := Hd.parts h.apart
  have hsz1 := hu1.size
  have U2 : Upd H.classes.ownBlock.toList w w2 := (hu1.mono (fun x hx _ => by cases hx)).trans (Upd.of_grown hgrow)
  have hwb2 : wb ∉ H.classes.ownBlock.toList := fun hm => (hA.c wb (by simpa using hm)).1 rfl
  have c3 : w2.cell? ⟨wb, 4, none⟩ = some H.classes := (U2.cell h.lt hwb2).trans h.c3
  have U : Upd (wb :: H.classes.ownBlock.toList) w (w2.setCell ⟨wb, 4, none⟩ (.slice (some ⟨g, 0, none⟩) (S.classes.length + 1) cap)) := (U2.mono (fun x hx _ => by simp at hx ⊢; exact .inr hx)).setCell (by simp) _
  have hsub : ∀ k, k ∈ wb :: H.classes.ownBlock.toList → k ∈ H.blocks wb := fun k hk => by
    simp at hk
    rcases hk with rfl | hk
    · exact H.mem_wb _
    · exact Hd.mem_classes hk
  have hgf : H.classes.ownBlock = some g ∨ w.heap.size ≤ g := hat.imp id (fun e => by omega)
  have hgn : H.classes.ownBlock = some g ∨ g ∉ H.blocks wb := hgf.imp id (fun e hm => by have := h.mem_lt g hm; omega)
  have hgw : g ≠ wb := fun e => by
    subst e
    rcases hgf with hg | hg
    · exact (hA.c g hg).1 rfl
    · have := h.lt; omega
  have hH : ∀ k ∈ ({ H with classes := .slice (some ⟨g, 0, none⟩) (S.classes.length + 1) cap } : Hd).blocks wb, k ∈ H.blocks wb ∨ w.heap.size ≤ k := fun k hk => by
    rw [Hd.mem_iff] at hk
    rcases hk with h1 | h1 | h1 | h1 | h1 | h1 | h1 | h1
    · exact .inl (Hd.mem_iff.2 (.inl h1))
    · exact .inl (Hd.mem_iff.2 (.inr (.inl h1)))
    · exact .inl (Hd.mem_iff.2 (.inr (.inr (.inl h1))))
    · exact .inl (Hd.mem_backs h1)
    · exact .inl (Hd.mem_shapes h1)
    · simp only [own_slice, Option.some.injEq] at h1
      subst h1
      exact hgf.imp (fun e => Hd.mem_classes e) id
    · exact .inl (Hd.mem_said h1)
    · exact .inl (Hd.mem_marks h1)
  obtain ⟨cls, hrow, hall⟩ := h.rb
  have nobacks : ∀ k, H.backs.ownBlock = some k → k ∉ wb :: H.classes.ownBlock.toList := fun k hk hm => by simp at hm; rcases hm with hm | hm; exact (hA.b k hk).1 hm; exact (hA.b k hk).2.2.2.2.1 hm
  have noshapes : ∀ k, H.shapes.ownBlock = some k → k ∉ wb :: H.classes.ownBlock.toList := fun k hk hm => by simp at hm; rcases hm with hm | hm; exact (hA.s k hk).1 hm; exact (hA.s k hk).2.2.2.2.1 hm
  have nosaid : ∀ k, H.said.ownBlock = some k → k ∉ wb :: H.classes.ownBlock.toList := fun k hk hm => by simp at hm; rcases hm with hm | hm; exact (hA.d k hk).1 hm; exact (hA.d k hk).2.2.2.2.2 hm
  have nomarks : ∀ k, H.marks.ownBlock = some k → k ∉ wb :: H.classes.ownBlock.toList := fun k hk hm => by simp at hm; rcases hm with hm | hm; exact (hA.m k hk).1 hm; exact (hA.m k hk).2.2.2.2.2.1 hm
  have nonb : H.nb ∉ wb :: H.classes.ownBlock.toList := fun hm => by simp at hm; rcases hm with hm | hm; exact hA.wn hm.symm; exact (hA.c _ hm).2.1 rfl
  have noab : H.ab ∉ wb :: H.classes.ownBlock.toList := fun hm => by simp at hm; rcases hm with hm | hm; exact hA.wa hm.symm; exact (hA.c _ hm).2.2.1 rfl
  refine ⟨{
    lt := Nat.lt_of_lt_of_le h.lt U.size
    free := fun o => by rw [World.frozen?_setCell]; exact (U2.frozen (p := ⟨wb, o, none⟩) h.lt hwb2).trans (h.free o)
    c0 := by have := (U2.cell (p := ⟨wb, 0, none⟩) h.lt hwb2).trans h.c0; go_simp
    c1 := by have := (U2.cell (p := ⟨wb, 2, none⟩) h.lt hwb2).trans h.c1; go_simp
    c2 := by have := (U2.cell (p := ⟨wb, 3, none⟩) h.lt hwb2).trans h.c2; go_simp
    c3 := by go_simp
    c4 := by have := (U2.cell (p := ⟨wb, 5, none⟩) h.lt hwb2).trans h.c4; go_simp
    c5 := by have := (U2.cell (p := ⟨wb, 6, none⟩) h.lt hwb2).trans h.c5; go_simp
    cm := by have := (U2.cell (p := ⟨wb, 1, none⟩) h.lt hwb2).trans h.cm; go_simp
    rs := U.ownsRow h.rs noshapes
    rc := ?_
    rd := U.ownsRow h.rd nosaid
    rm := U.ownsRow h.rm nomarks
    mn := h.mn.later U nonb
    ma := h.ma.later U noab
    apart := Hd.apart_classes h.apart hgn
    rb := ⟨cls, U.ownsRow hrow nobacks, hall.mono fun _ _ hi => hi.closures U (fun k hk _ => hsub k hk) hH⟩
    inZ := fun k hk => (hH k hk).imp (h.inZ k) id }, U.mono fun x hx _ => hsub x hx⟩
  have := ((Upd.refl [wb] w2).setCell (p := ⟨wb, 4, none⟩) (by simp) (.slice (some ⟨g, 0, none⟩) (S.classes.length + 1) cap)).ownsRow hown (fun k hk hm => by simp [Value.ownBlock] at hk hm; omega)
  show World.ownsRow _ _ _ _ _ (S.classes ++ [x]).length (intsOf (S.classes ++ [x]))
  rw [intsOf_append]
  simpa using this

/-- The first map turned. -/
theorem WebAt.set_numbers {w w' : World} {wb : Nat} {H : Hd} {Z : Nat → Prop} {S : WS} (h : WebAt w wb H Z S) (ht : w.mapTurned w' H.nb) {f : Sh → Option Nat} {m : Nat} (hm : MapIs w' H.nb m f) : WebAt w' wb H Z { S with numbers := f, nums := m } := by
  have hA := Hd.parts h.apart
  have U := mapTurned_upd ht
  have hwb : wb ∉ [H.nb] := by simp; exact hA.wn
  obtain ⟨cls, hrow, hall⟩ := h.rb
  exact {
    lt := Nat.lt_of_lt_of_le h.lt U.size
    free := fun o => (U.frozen (p := ⟨wb, o, none⟩) h.lt hwb).trans (h.free o)
    c0 := (U.cell h.lt hwb).trans h.c0
    c1 := (U.cell h.lt hwb).trans h.c1
    c2 := (U.cell h.lt hwb).trans h.c2
    c3 := (U.cell h.lt hwb).trans h.c3
    c4 := (U.cell h.lt hwb).trans h.c4
    c5 := (U.cell h.lt hwb).trans h.c5
    cm := (U.cell h.lt hwb).trans h.cm
    rs := U.ownsRow h.rs fun k hk hm => by simp at hm; exact (hA.s k hk).2.1 hm
    rc := U.ownsRow h.rc fun k hk hm => by simp at hm; exact (hA.c k hk).2.1 hm
    rd := U.ownsRow h.rd fun k hk hm => by simp at hm; exact (hA.d k hk).2.1 hm
    rm := U.ownsRow h.rm fun k hk hm => by simp at hm; exact (hA.m k hk).2.1 hm
    mn := hm
    ma := h.ma.later U (by simp; exact hA.na.symm)
    apart := h.apart
    rb := ⟨cls, U.ownsRow hrow (fun k hk hm => by simp at hm; exact (hA.b k hk).2.1 hm), hall.mono fun _ _ hi => hi.later U fun k hk hm => hk.2 (by simp at hm; rw [hm]; exact H.mem_nb _)⟩
    inZ := h.inZ }
end Go.Proofs.YtmfkpllnmmfpiaaGreatDoor
