/- WebHeap, Leave, Lex -/
import Derived.Test.YtmfkpllnmmfpiaaGreatDoorMapHeapW
import Derived.Test.YtmfkpllnmmfpiaaGreatDoorRows
import Derived.WalkKit
import Derived.WalkSpells
import Derived.WalkLawsBesides
import Derived.Deep.QuietTactic
import Derived.BigQuiet
namespace Go.Proofs.YtmfkpllnmmfpiaaGreatDoor
open Go.RowKit
structure Un where
 tag : Nat
 sh : Sh
 a : Nat
 b : Nat
structure WS where
 shapes : List Sh
 numbers : Sh → Option Nat
 classes : List Nat
 alike : Sh → Option Nat
 said : List (Nat × Nat × Nat)
 trail : List Un
 nums : Nat
 files : Nat
 marks : List Nat
def flatSh : List Sh → List Value
 | [] => []
 | s :: l => .string s.1 :: .int .i64 s.2.1 :: .int .i64 s.2.2.1 :: .int .i64 s.2.2.2.1 :: .int .i64 s.2.2.2.2 :: flatSh l
def flatSaid : List (Nat × Nat × Nat) → List Value
 | [] => []
 | s :: l => .int .i64 s.1 :: .int .i64 s.2.1 :: .int .i64 s.2.2 :: flatSaid l
def intsOf (l : List Nat) : List Value := l.map fun (n : Nat) => .int .i64 (n : Int)
structure Hd where
 backs : Value
 shapes : Value
 classes : Value
 said : Value
 nb : Nat
 ab : Nat
 marks : Value
def Hd.blocks (wb : Nat) (H : Hd) : List Nat := wb :: H.nb :: H.ab :: (H.backs.ownBlock.toList ++ (H.shapes.ownBlock.toList ++ (H.classes.ownBlock.toList ++ (H.said.ownBlock.toList ++ H.marks.ownBlock.toList))))
def Box1 (w : World) (B : Nat) (v : Value) : Prop := B < w.heap.size ∧ w.cell? ⟨B, 0, none⟩ = some v
def BoxSh (w : World) (B : Nat) (s : Sh) : Prop := B < w.heap.size ∧ w.cell? ⟨B, 0, none⟩ = some (.string s.1) ∧ w.cell? ⟨B, 1, none⟩ = some (.int .i64 s.2.1) ∧ w.cell? ⟨B, 2, none⟩ = some (.int .i64 s.2.2.1) ∧ w.cell? ⟨B, 3, none⟩ = some (.int .i64 s.2.2.2.1) ∧ w.cell? ⟨B, 4, none⟩ = some (.int .i64 s.2.2.2.2)
theorem Box1.later {w w' : World} {L : List Nat} {B : Nat} {v : Value} (h : Box1 w B v) (hu : Upd L w w') (hB : B ∉ L) : Box1 w' B v := ⟨Nat.lt_of_lt_of_le h.1 hu.size, (hu.cell h.1 hB).trans h.2⟩
theorem BoxSh.later {w w' : World} {L : List Nat} {B : Nat} {s : Sh} (h : BoxSh w B s) (hu : Upd L w w') (hB : B ∉ L) : BoxSh w' B s :=
 ⟨Nat.lt_of_lt_of_le h.1 hu.size, (hu.cell h.1 hB).trans h.2.1, (hu.cell h.1 hB).trans h.2.2.1, (hu.cell h.1 hB).trans h.2.2.2.1, (hu.cell h.1 hB).trans h.2.2.2.2.1, (hu.cell h.1 hB).trans h.2.2.2.2.2⟩
def IsUn (w : World) (wb : Nat) (F : Nat → Prop) (v : Value) (u : Un) : Prop :=
 ∃ bw, F bw ∧ Box1 w bw (.pointer (some ⟨wb, 0, none⟩)) ∧
  ((u.tag = 0 ∧ v = .func (.func 154) #[] #[.pointer (some ⟨bw, 0, none⟩)]) ∨
   (u.tag = 1 ∧ ∃ bn bs, F bn ∧ F bs ∧ Box1 w bn (.int .i64 u.a) ∧ BoxSh w bs u.sh ∧ v = .func (.func 158) #[] #[.pointer (some ⟨bw, 0, none⟩), .pointer (some ⟨bn, 0, none⟩), .pointer (some ⟨bs, 0, none⟩)]) ∨
   (u.tag = 2 ∧ ∃ bs, F bs ∧ BoxSh w bs u.sh ∧ v = .func (.func 178) #[] #[.pointer (some ⟨bw, 0, none⟩), .pointer (some ⟨bs, 0, none⟩)]) ∨
   (u.tag = 3 ∧ ∃ bf bn, F bf ∧ F bn ∧ Box1 w bf (.int .i64 u.b) ∧ Box1 w bn (.int .i64 u.a) ∧ v = .func (.func 177) #[] #[.pointer (some ⟨bf, 0, none⟩), .pointer (some ⟨bw, 0, none⟩), .pointer (some ⟨bn, 0, none⟩)]))
theorem IsUn.later {w w' : World} {L : List Nat} {wb : Nat} {F : Nat → Prop} {v : Value} {u : Un} (h : IsUn w wb F v u) (hu : Upd L w w') (hL : ∀ k, F k → k ∉ L) : IsUn w' wb F v u := by
 obtain ⟨bw, hF, hb, hr⟩ := h
 refine ⟨bw, hF, hb.later hu (hL _ hF), ?_⟩
 rcases hr with h | ⟨ht, bn, bs, f1, f2, h1, h2, hv⟩ | ⟨ht, bs, f1, h1, hv⟩ | ⟨ht, bf, bn, f1, f2, h1, h2, hv⟩
 ·exact .inl h
 ·exact .inr (.inl ⟨ht, bn, bs, f1, f2, h1.later hu (hL _ f1), h2.later hu (hL _ f2), hv⟩)
 ·exact .inr (.inr (.inl ⟨ht, bs, f1, h1.later hu (hL _ f1), hv⟩))
 ·exact .inr (.inr (.inr ⟨ht, bf, bn, f1, f2, h1.later hu (hL _ f1), h2.later hu (hL _ f2), hv⟩))
theorem IsUn.mono {w : World} {wb : Nat} {F F' : Nat → Prop} {v : Value} {u : Un} (h : IsUn w wb F v u) (hF : ∀ k, F k → k < w.heap.size → F' k) : IsUn w wb F' v u := by
 obtain ⟨bw, hf, hb, hr⟩ := h
 refine ⟨bw, hF _ hf hb.1, hb, ?_⟩
 rcases hr with h | ⟨ht, bn, bs, f1, f2, h1, h2, hv⟩ | ⟨ht, bs, f1, h1, hv⟩ | ⟨ht, bf, bn, f1, f2, h1, h2, hv⟩
 ·exact .inl h
 ·exact .inr (.inl ⟨ht, bn, bs, hF _ f1 h1.1, hF _ f2 h2.1, h1, h2, hv⟩)
 ·exact .inr (.inr (.inl ⟨ht, bs, hF _ f1 h1.1, h1, hv⟩))
 ·exact .inr (.inr (.inr ⟨ht, bf, bn, hF _ f1 h1.1, hF _ f2 h2.1, h1, h2, hv⟩))
structure WebAt (w : World) (wb : Nat) (H : Hd) (Z : Nat → Prop) (S : WS) : Prop where
 lt : wb < w.heap.size
 free : ∀ o, w.frozen? ⟨wb, o, none⟩ = false
 c0 : w.cell? ⟨wb, 0, none⟩ = some H.backs
 c1 : w.cell? ⟨wb, 2, none⟩ = some H.shapes
 c2 : w.cell? ⟨wb, 3, none⟩ = some (.map (some H.nb))
 c3 : w.cell? ⟨wb, 4, none⟩ = some H.classes
 c4 : w.cell? ⟨wb, 5, none⟩ = some (.map (some H.ab))
 c5 : w.cell? ⟨wb, 6, none⟩ = some H.said
 cm : w.cell? ⟨wb, 1, none⟩ = some H.marks
 rs : w.ownsRow 0 141 5 H.shapes S.shapes.length (flatSh S.shapes)
 rc : w.ownsRow 0 3 1 H.classes S.classes.length (intsOf S.classes)
 rd : w.ownsRow 0 134 3 H.said S.said.length (flatSaid S.said)
 rm : w.ownsRow 0 3 1 H.marks S.marks.length (intsOf S.marks)
 mn : MapIs w H.nb S.nums S.numbers
 ma : MapIs w H.ab S.files S.alike
 apart : (H.blocks wb).Nodup
 rb : ∃ cls : List Value, w.ownsRow 0 1 1 H.backs S.trail.length cls ∧ AllIs (IsUn w wb (fun k => Z k ∧ k ∉ H.blocks wb)) cls S.trail
 inZ : ∀ k ∈ H.blocks wb, Z k
theorem Hd.mem_wb (wb : Nat) (H : Hd) : wb ∈ H.blocks wb := by simp [Hd.blocks]
theorem Hd.mem_nb (wb : Nat) (H : Hd) : H.nb ∈ H.blocks wb := by simp [Hd.blocks]
theorem Hd.mem_ab (wb : Nat) (H : Hd) : H.ab ∈ H.blocks wb := by simp [Hd.blocks]
theorem Hd.mem_backs {wb k : Nat} {H : Hd} (h : H.backs.ownBlock = some k) : k ∈ H.blocks wb := by simp [Hd.blocks, h]
theorem Hd.mem_shapes {wb k : Nat} {H : Hd} (h : H.shapes.ownBlock = some k) : k ∈ H.blocks wb := by simp [Hd.blocks, h]
theorem Hd.mem_classes {wb k : Nat} {H : Hd} (h : H.classes.ownBlock = some k) : k ∈ H.blocks wb := by simp [Hd.blocks, h]
theorem Hd.mem_said {wb k : Nat} {H : Hd} (h : H.said.ownBlock = some k) : k ∈ H.blocks wb := by simp [Hd.blocks, h]
theorem Hd.mem_marks {wb k : Nat} {H : Hd} (h : H.marks.ownBlock = some k) : k ∈ H.blocks wb := by simp [Hd.blocks, h]
theorem Hd.mem_iff {wb k : Nat} {H : Hd} : k ∈ H.blocks wb ↔ k = wb ∨ k = H.nb ∨ k = H.ab ∨ H.backs.ownBlock = some k ∨ H.shapes.ownBlock = some k ∨ H.classes.ownBlock = some k ∨ H.said.ownBlock = some k ∨ H.marks.ownBlock = some k := by
 simp only [Hd.blocks, List.mem_cons, List.mem_append, Option.mem_toList]
theorem own_slice (g n c : Nat) : (Value.slice (some ⟨g, 0, none⟩) n c).ownBlock = some g := rfl
theorem WebAt.later {w w' : World} {L : List Nat} {wb : Nat} {H : Hd} {Z : Nat → Prop} {S : WS} (h : WebAt w wb H Z S) (hu : Upd L w w') (hL : ∀ k, Z k → k ∉ L) : WebAt w' wb H Z S := by
 have hwb := hL _ (h.inZ _ (H.mem_wb wb))
 obtain ⟨cls, hrow, hall⟩ := h.rb
 exact {
  lt := Nat.lt_of_lt_of_le h.lt hu.size
  free := fun o => (hu.frozen (p := ⟨wb, o, none⟩) h.lt hwb).trans (h.free o)
  c0 := (hu.cell h.lt hwb).trans h.c0
  c1 := (hu.cell h.lt hwb).trans h.c1
  c2 := (hu.cell h.lt hwb).trans h.c2
  c3 := (hu.cell h.lt hwb).trans h.c3
  c4 := (hu.cell h.lt hwb).trans h.c4
  c5 := (hu.cell h.lt hwb).trans h.c5
  cm := (hu.cell h.lt hwb).trans h.cm
  rs := hu.ownsRow h.rs fun k hk => hL k (h.inZ k (Hd.mem_shapes hk))
  rc := hu.ownsRow h.rc fun k hk => hL k (h.inZ k (Hd.mem_classes hk))
  rd := hu.ownsRow h.rd fun k hk => hL k (h.inZ k (Hd.mem_said hk))
  rm := hu.ownsRow h.rm fun k hk => hL k (h.inZ k (Hd.mem_marks hk))
  mn := h.mn.later hu (hL _ (h.inZ _ (H.mem_nb wb)))
  ma := h.ma.later hu (hL _ (h.inZ _ (H.mem_ab wb)))
  apart := h.apart
  rb := ⟨cls, hu.ownsRow hrow fun k hk => hL k (h.inZ k (Hd.mem_backs hk)), hall.mono fun _ _ hi => hi.later hu fun k hk => hL k hk.1⟩
  inZ := h.inZ }
theorem WebAt.mem_lt {w : World} {wb : Nat} {H : Hd} {Z : Nat → Prop} {S : WS} (h : WebAt w wb H Z S) : ∀ k ∈ H.blocks wb, k < w.heap.size := by
 obtain ⟨cls, hrow, _⟩ := h.rb
 intro k hk
 simp only [Hd.blocks, List.mem_cons, List.mem_append, Option.mem_toList] at hk
 rcases hk with rfl | rfl | rfl | hk | hk | hk | hk | hk
 ·exact h.lt
 ·exact h.mn.lt
 ·exact h.ma.lt
 ·exact ownsRow_lt hrow hk
 ·exact ownsRow_lt h.rs hk
 ·exact ownsRow_lt h.rc hk
 ·exact ownsRow_lt h.rd hk
 ·exact ownsRow_lt h.rm hk
theorem WebAt.mono {w : World} {wb : Nat} {H : Hd} {Z Z' : Nat → Prop} {S : WS} (h : WebAt w wb H Z S) (hZ : ∀ k, Z k → k < w.heap.size → Z' k) : WebAt w wb H Z' S := by
 obtain ⟨cls, hrow, hall⟩ := h.rb
 exact { h with
  rb := ⟨cls, hrow, hall.mono fun _ _ hi => hi.mono fun k hk hlt => ⟨hZ k hk.1 hlt, hk.2⟩⟩
  inZ := fun k hk => hZ k (h.inZ k hk) (h.mem_lt k hk) }
theorem nodup_put {A B : List Nat} {o : Option Nat} {g : Nat} (h : (A ++ (o.toList ++ B)).Nodup) (hg : o = some g ∨ g ∉ A ++ (o.toList ++ B)) : (A ++ ([g] ++ B)).Nodup := by
 rcases hg with rfl | hg
 ·exact h
 ·rw [List.nodup_append, List.nodup_append] at h
  obtain ⟨hA, ⟨_, hB, _⟩, hAB⟩ := h
  simp only [List.mem_append, not_or] at hg
  rw [List.nodup_append, List.nodup_append]
  refine ⟨hA, ⟨by simp, hB, fun a ha b hb e => hg.2.2 (by simp at ha; rw [← ha, e]; exact hb)⟩, fun a ha b hb e => ?_⟩
  rcases List.mem_append.1 hb with hb | hb
  ·exact hg.1 (by simp at hb; rw [← hb, ← e]; exact ha)
  ·exact hAB a ha b (List.mem_append_right _ hb) e
theorem Hd.apart_backs {wb g n c : Nat} {H : Hd} (h : (H.blocks wb).Nodup) (hg : H.backs.ownBlock = some g ∨ g ∉ H.blocks wb) : ({ H with backs := .slice (some ⟨g, 0, none⟩) n c } : Hd).blocks wb |>.Nodup :=
 nodup_put (A := [wb, H.nb, H.ab]) h hg
theorem Hd.apart_shapes {wb g n c : Nat} {H : Hd} (h : (H.blocks wb).Nodup) (hg : H.shapes.ownBlock = some g ∨ g ∉ H.blocks wb) : ({ H with shapes := .slice (some ⟨g, 0, none⟩) n c } : Hd).blocks wb |>.Nodup := by
 have := nodup_put (A := [wb, H.nb, H.ab] ++ H.backs.ownBlock.toList) (B := H.classes.ownBlock.toList ++ (H.said.ownBlock.toList ++ H.marks.ownBlock.toList)) (o := H.shapes.ownBlock) (g := g) (by simpa [Hd.blocks] using h) (by simpa [Hd.blocks] using hg)
 simpa [Hd.blocks, Value.ownBlock] using this
theorem Hd.apart_classes {wb g n c : Nat} {H : Hd} (h : (H.blocks wb).Nodup) (hg : H.classes.ownBlock = some g ∨ g ∉ H.blocks wb) : ({ H with classes := .slice (some ⟨g, 0, none⟩) n c } : Hd).blocks wb |>.Nodup := by
 have := nodup_put (A := [wb, H.nb, H.ab] ++ H.backs.ownBlock.toList ++ H.shapes.ownBlock.toList) (B := H.said.ownBlock.toList ++ H.marks.ownBlock.toList) (o := H.classes.ownBlock) (g := g) (by simpa [Hd.blocks] using h) (by simpa [Hd.blocks] using hg)
 simpa [Hd.blocks, Value.ownBlock] using this
theorem Hd.apart_said {wb g n c : Nat} {H : Hd} (h : (H.blocks wb).Nodup) (hg : H.said.ownBlock = some g ∨ g ∉ H.blocks wb) : ({ H with said := .slice (some ⟨g, 0, none⟩) n c } : Hd).blocks wb |>.Nodup := by
 have := nodup_put (A := [wb, H.nb, H.ab] ++ H.backs.ownBlock.toList ++ H.shapes.ownBlock.toList ++ H.classes.ownBlock.toList) (B := H.marks.ownBlock.toList) (o := H.said.ownBlock) (g := g) (by simpa [Hd.blocks] using h) (by simpa [Hd.blocks] using hg)
 simpa [Hd.blocks, Value.ownBlock] using this
structure Apart (wb : Nat) (H : Hd) : Prop where
 wn : wb ≠ H.nb
 wa : wb ≠ H.ab
 na : H.nb ≠ H.ab
 b : ∀ k, H.backs.ownBlock = some k → k ≠ wb ∧ k ≠ H.nb ∧ k ≠ H.ab ∧ H.shapes.ownBlock ≠ some k ∧ H.classes.ownBlock ≠ some k ∧ H.said.ownBlock ≠ some k
 s : ∀ k, H.shapes.ownBlock = some k → k ≠ wb ∧ k ≠ H.nb ∧ k ≠ H.ab ∧ H.backs.ownBlock ≠ some k ∧ H.classes.ownBlock ≠ some k ∧ H.said.ownBlock ≠ some k
 c : ∀ k, H.classes.ownBlock = some k → k ≠ wb ∧ k ≠ H.nb ∧ k ≠ H.ab ∧ H.backs.ownBlock ≠ some k ∧ H.shapes.ownBlock ≠ some k ∧ H.said.ownBlock ≠ some k
 d : ∀ k, H.said.ownBlock = some k → k ≠ wb ∧ k ≠ H.nb ∧ k ≠ H.ab ∧ H.backs.ownBlock ≠ some k ∧ H.shapes.ownBlock ≠ some k ∧ H.classes.ownBlock ≠ some k
 m : ∀ k, H.marks.ownBlock = some k → k ≠ wb ∧ k ≠ H.nb ∧ k ≠ H.ab ∧ H.backs.ownBlock ≠ some k ∧ H.shapes.ownBlock ≠ some k ∧ H.classes.ownBlock ≠ some k ∧ H.said.ownBlock ≠ some k
theorem Hd.parts {wb : Nat} {H : Hd} (h : (H.blocks wb).Nodup) : Apart wb H := by
 simp only [Hd.blocks, List.nodup_cons, List.nodup_append, List.mem_cons, List.mem_append, Option.mem_toList, not_or] at h
 obtain ⟨⟨h1, h2, h3, h4, h5, h6, g1⟩, ⟨h7, h8, h9, h10, h11, g2⟩, ⟨h12, h13, h14, h15, g3⟩, _, ⟨_, ⟨_, ⟨_, _, g4⟩, h16⟩, h17⟩, h18⟩ := h
 refine ⟨h1, h2, h7, fun k hk => ?_, fun k hk => ?_, fun k hk => ?_, fun k hk => ?_, fun k hk => ?_⟩
 ·exact ⟨fun e => h3 (e ▸ hk), fun e => h8 (e ▸ hk), fun e => h12 (e ▸ hk), fun e => h18 k hk k (.inl e) rfl, fun e => h18 k hk k (.inr (.inl e)) rfl, fun e => h18 k hk k (.inr (.inr (.inl e))) rfl⟩
 ·exact ⟨fun e => h4 (e ▸ hk), fun e => h9 (e ▸ hk), fun e => h13 (e ▸ hk), fun e => h18 k e k (.inl hk) rfl, fun e => h17 k hk k (.inl e) rfl, fun e => h17 k hk k (.inr (.inl e)) rfl⟩
 ·exact ⟨fun e => h5 (e ▸ hk), fun e => h10 (e ▸ hk), fun e => h14 (e ▸ hk), fun e => h18 k e k (.inr (.inl hk)) rfl, fun e => h17 k e k (.inl hk) rfl, fun e => h16 k hk k (.inl e) rfl⟩
 ·exact ⟨fun e => h6 (e ▸ hk), fun e => h11 (e ▸ hk), fun e => h15 (e ▸ hk), fun e => h18 k e k (.inr (.inr (.inl hk))) rfl, fun e => h17 k e k (.inr (.inl hk)) rfl, fun e => h16 k e k (.inl hk) rfl⟩
 ·exact ⟨fun e => g1 (e ▸ hk), fun e => g2 (e ▸ hk), fun e => g3 (e ▸ hk), fun e => h18 k e k (.inr (.inr (.inr hk))) rfl, fun e => h17 k e k (.inr (.inr hk)) rfl, fun e => h16 k e k (.inr hk) rfl, fun e => g4 k e k hk rfl⟩
end Go.Proofs.YtmfkpllnmmfpiaaGreatDoor

namespace Go.Proofs.YtmfkpllnmmfpiaaGreatDoor
open Go.RowKit
theorem info_func : (Tryz.prog.info? 1).map (fun i => (i.zero, i.size, i.bytes)) = some (some .nilFunc, 1, 8) := by kernel_rfl
theorem IsUn.func {w : World} {wb : Nat} {F : Nat → Prop} {v : Value} {u : Un} (h : IsUn w wb F v u) : ∃ f caps, v = .func f #[] caps := by
 obtain ⟨bw, _, _, hr⟩ := h
 rcases hr with ⟨_, hv⟩ | ⟨_, _, _, _, _, _, _, hv⟩ | ⟨_, _, _, _, hv⟩ | ⟨_, _, _, _, _, _, _, hv⟩ <;> exact ⟨_, _, hv⟩
theorem WebAt.grow_backs {w w1 w2 : World} {wb g cap : Nat} {H : Hd} {Z : Nat → Prop} {S : WS} {v : Value} {u : Un} {cls : List Value} (h : WebAt w wb H Z S)
  (hall : AllIs (IsUn w wb (fun k => Z k ∧ k ∉ H.blocks wb)) cls S.trail) (hv : IsUn w wb (fun k => Z k ∧ k ∉ H.blocks wb) v u)
  (hu1 : Upd [] w w1) (hgrow : w1.grownBy w2 H.backs.ownBlock) (hat : H.backs.ownBlock = some g ∨ g = w1.heap.size)
  (hown : w2.ownsRow 0 1 1 (.slice (some ⟨g, 0, none⟩) (S.trail.length + 1) cap) (S.trail.length + 1) (cls ++ [v])) :
  WebAt (w2.setCell ⟨wb, 0, none⟩ (.slice (some ⟨g, 0, none⟩) (S.trail.length + 1) cap)) wb { H with backs := .slice (some ⟨g, 0, none⟩) (S.trail.length + 1) cap } (fun k => Z k ∨ w.heap.size ≤ k) { S with trail := S.trail ++ [u] } ∧
   Upd (H.blocks wb) w (w2.setCell ⟨wb, 0, none⟩ (.slice (some ⟨g, 0, none⟩) (S.trail.length + 1) cap)) ∧
   ∀ k ∈ ({ H with backs := .slice (some ⟨g, 0, none⟩) (S.trail.length + 1) cap } : Hd).blocks wb, k ∈ H.blocks wb ∨ w.heap.size ≤ k := by
 have hA := Hd.parts h.apart
 have hsz1 := hu1.size
 have U2 : Upd H.backs.ownBlock.toList w w2 := (hu1.mono (fun x hx _ => by cases hx)).trans (Upd.of_grown hgrow)
 have hwb2 : wb ∉ H.backs.ownBlock.toList := fun hm => (hA.b wb (by simpa using hm)).1 rfl
 have c0 : w2.cell? ⟨wb, 0, none⟩ = some H.backs := (U2.cell h.lt hwb2).trans h.c0
 have U : Upd (wb :: H.backs.ownBlock.toList) w (w2.setCell ⟨wb, 0, none⟩ (.slice (some ⟨g, 0, none⟩) (S.trail.length + 1) cap)) := (U2.mono (fun x hx _ => by simp at hx ⊢; exact .inr hx)).setCell (by simp) _
 have hsub : ∀ k, k ∈ wb :: H.backs.ownBlock.toList → k ∈ H.blocks wb := fun k hk => by
  simp at hk
  rcases hk with rfl | hk
  ·exact H.mem_wb _
  ·exact Hd.mem_backs hk
 have hgf : H.backs.ownBlock = some g ∨ w.heap.size ≤ g := hat.imp id (fun e => by omega)
 have hgn : H.backs.ownBlock = some g ∨ g ∉ H.blocks wb := hgf.imp id (fun e hm => by have := h.mem_lt g hm; omega)
 have hgw : g ≠ wb := fun e => by
  subst e
  rcases hgf with hg | hg
  ·exact (hA.b g hg).1 rfl
  ·have := h.lt; omega
 have hH : ∀ k ∈ ({ H with backs := .slice (some ⟨g, 0, none⟩) (S.trail.length + 1) cap } : Hd).blocks wb, k ∈ H.blocks wb ∨ w.heap.size ≤ k := fun k hk => by
  rw [Hd.mem_iff] at hk
  rcases hk with h1 | h1 | h1 | h1 | h1
  ·exact .inl (h1 ▸ H.mem_wb _)
  ·exact .inl (h1 ▸ H.mem_nb _)
  ·exact .inl (h1 ▸ H.mem_ab _)
  ·simp only [own_slice, Option.some.injEq] at h1
   subst h1
   exact hgf.imp (fun e => Hd.mem_backs e) id
  ·exact .inl (Hd.mem_iff.2 (.inr (.inr (.inr (.inr h1)))))
 have hnew : ∀ k, Z k ∧ k ∉ H.blocks wb → k < w.heap.size → (Z k ∨ w.heap.size ≤ k) ∧ k ∉ ({ H with backs := .slice (some ⟨g, 0, none⟩) (S.trail.length + 1) cap } : Hd).blocks wb := by
  rintro k ⟨hz, hn⟩ hlt
  refine ⟨.inl hz, fun hm => ?_⟩
  rw [Hd.mem_iff] at hm hn
  simp only [not_or] at hn
  rcases hm with h1 | h1 | h1 | h1 | h1
  ·exact hn.1 h1
  ·exact hn.2.1 h1
  ·exact hn.2.2.1 h1
  ·simp only [own_slice, Option.some.injEq] at h1
   subst h1
   rcases hgf with hg | hg
   ·exact hn.2.2.2.1 hg
   ·omega
  ·rcases h1 with h1 | h1 | h1 | h1
   ·exact hn.2.2.2.2.1 h1
   ·exact hn.2.2.2.2.2.1 h1
   ·exact hn.2.2.2.2.2.2.1 h1
   ·exact hn.2.2.2.2.2.2.2 h1
 have step : ∀ v u, IsUn w wb (fun k => Z k ∧ k ∉ H.blocks wb) v u → IsUn (w2.setCell ⟨wb, 0, none⟩ (.slice (some ⟨g, 0, none⟩) (S.trail.length + 1) cap)) wb (fun k => (Z k ∨ w.heap.size ≤ k) ∧ k ∉ ({ H with backs := .slice (some ⟨g, 0, none⟩) (S.trail.length + 1) cap } : Hd).blocks wb) v u := by
  intro v u hi
  have h1 := (hi.mono (F' := fun k => (Z k ∧ k ∉ H.blocks wb) ∧ k < w.heap.size) fun k hk hlt => ⟨hk, hlt⟩).later U (fun k hk hm => hk.1.2 (hsub k hm))
  exact h1.mono fun k hk _ => hnew k hk.1 hk.2
 have no1 : ∀ k, H.shapes.ownBlock = some k → k ∉ wb :: H.backs.ownBlock.toList := fun k hk hm => by simp at hm; rcases hm with hm | hm; exact (hA.s k hk).1 hm; exact (hA.s k hk).2.2.2.1 hm
 have no2 : ∀ k, H.classes.ownBlock = some k → k ∉ wb :: H.backs.ownBlock.toList := fun k hk hm => by simp at hm; rcases hm with hm | hm; exact (hA.c k hk).1 hm; exact (hA.c k hk).2.2.2.1 hm
 have no3 : ∀ k, H.said.ownBlock = some k → k ∉ wb :: H.backs.ownBlock.toList := fun k hk hm => by simp at hm; rcases hm with hm | hm; exact (hA.d k hk).1 hm; exact (hA.d k hk).2.2.2.1 hm
 have no6 : ∀ k, H.marks.ownBlock = some k → k ∉ wb :: H.backs.ownBlock.toList := fun k hk hm => by simp at hm; rcases hm with hm | hm; exact (hA.m k hk).1 hm; exact (hA.m k hk).2.2.2.1 hm
 have no4 : H.nb ∉ wb :: H.backs.ownBlock.toList := fun hm => by simp at hm; rcases hm with hm | hm; exact hA.wn hm.symm; exact (hA.b _ hm).2.1 rfl
 have no5 : H.ab ∉ wb :: H.backs.ownBlock.toList := fun hm => by simp at hm; rcases hm with hm | hm; exact hA.wa hm.symm; exact (hA.b _ hm).2.2.1 rfl
 refine ⟨{
  lt := Nat.lt_of_lt_of_le h.lt U.size
  free := fun o => by rw [World.frozen?_setCell]; exact (U2.frozen (p := ⟨wb, o, none⟩) h.lt hwb2).trans (h.free o)
  c0 := by go_simp
  c1 := by have := (U2.cell (p := ⟨wb, 2, none⟩) h.lt hwb2).trans h.c1; go_simp
  c2 := by have := (U2.cell (p := ⟨wb, 3, none⟩) h.lt hwb2).trans h.c2; go_simp
  c3 := by have := (U2.cell (p := ⟨wb, 4, none⟩) h.lt hwb2).trans h.c3; go_simp
  c4 := by have := (U2.cell (p := ⟨wb, 5, none⟩) h.lt hwb2).trans h.c4; go_simp
  c5 := by have := (U2.cell (p := ⟨wb, 6, none⟩) h.lt hwb2).trans h.c5; go_simp
  cm := by have := (U2.cell (p := ⟨wb, 1, none⟩) h.lt hwb2).trans h.cm; go_simp
  rs := U.ownsRow h.rs no1
  rc := U.ownsRow h.rc no2
  rd := U.ownsRow h.rd no3
  rm := U.ownsRow h.rm no6
  mn := h.mn.later U no4
  ma := h.ma.later U no5
  apart := Hd.apart_backs h.apart hgn
  rb := ⟨cls ++ [v], ?_, (hall.mono step).snoc (step v u hv)⟩
  inZ := fun k hk => (hH k hk).imp (h.inZ k) id }, U.mono fun x hx _ => hsub x hx, hH⟩
 have := ((Upd.refl [wb] w2).setCell (p := ⟨wb, 0, none⟩) (by simp) (.slice (some ⟨g, 0, none⟩) (S.trail.length + 1) cap)).ownsRow hown (fun k hk hm => by simp [Value.ownBlock] at hk hm; omega)
 simpa using this
set_option maxHeartbeats 1000000 in
set_option maxRecDepth 100000 in
theorem leave_any (w : World) (wb : Nat) (H : Hd) (Z : Nat → Prop) (S : WS) (v : Value) (u : Un) (h : WebAt w wb H Z S) (hv : IsUn w wb (fun k => Z k ∧ k ∉ H.blocks wb) v u) (hb : S.trail.length ≤ 10000000) :
  Calls Tryz.prog 153 #[.pointer (some ⟨wb, 0, none⟩), v] w fun e w' => ∃ bk, e = .returned (.tuple #[]) ∧ WebAt w' wb { H with backs := bk } (fun k => Z k ∨ w.heap.size ≤ k) { S with trail := S.trail ++ [u] } ∧ Upd (H.blocks wb) w w' ∧ ∀ k ∈ ({ H with backs := bk } : Hd).blocks wb, k ∈ H.blocks wb ∨ w.heap.size ≤ k := by
 obtain ⟨f, caps, rfl⟩ := hv.func
 obtain ⟨cls, hrow, hall⟩ := h.rb
 obtain ⟨i0, hi, hz0, hz1, hz2⟩ := info_parts info_func
 have c0 := h.c0
 have hlt := h.lt
 have hfr := h.free
 have hrow1 := ((Upd.refl [] w).alloc (.cells #[.func f #[] caps] 1)).ownsRow hrow (fun _ _ => by simp)
 have hA := Hd.parts h.apart
 have Hc : Hid (∀ w3, (w.alloc (.cells #[.func f #[] caps] 1)).grownBy w3 H.backs.ownBlock → w3.cell? ⟨wb, 0, none⟩ = some H.backs ∧ ∀ o, w3.frozen? ⟨wb, o, none⟩ = false) := fun w3 hg => by
  have hn : wb ∉ H.backs.ownBlock.toList := fun hm => (hA.b wb (by simpa using hm)).1 rfl
  have U := ((Upd.refl H.backs.ownBlock.toList w).alloc (.cells #[.func f #[] caps] 1)).trans (Upd.of_grown hg)
  exact ⟨(U.cell h.lt hn).trans h.c0, fun o => (U.frozen (p := ⟨wb, o, none⟩) h.lt hn).trans (h.free o)⟩
 have Hfin : Hid (∀ g cap w3, (w.alloc (.cells #[.func f #[] caps] 1)).grownBy w3 H.backs.ownBlock → (H.backs.ownBlock = some g ∨ g = (w.alloc (.cells #[.func f #[] caps] 1)).heap.size) → w3.ownsRow 0 1 1 (.slice (some ⟨g, 0, none⟩) (S.trail.length + 1) cap) (S.trail.length + 1) (cls ++ [.func f #[] caps]) → _) :=
  fun g cap w3 hg hat hown => WebAt.grow_backs h hall hv ((Upd.refl [] w).alloc _) hg hat hown
 clear hA hall hv hrow
 go_enter Tryz.func153, Tryz.ntmps153
 go_wp2_with (at_builtin; refine wpList_append_lies _ rfl _ _ 104 rfl 0 1 i0 .nilFunc 1 8 Tryz.underlying104 hi hz0 hz1 hz2 rfl (by decide) _ _ _ rfl hrow1 ⟨w.heap.size, 0, none⟩ 1 1 [.func f #[] caps] rfl rfl (cell_one_new _ _ _) (fun x hx => by simp at hx; subst hx; rfl) (by decide) (by unfold maxLen; omega) (by omega) (Nat.zero_le _) _ rfl ?_; intro g cap w3 hown' hgrow hat hlt3; obtain ⟨k0, kf⟩ := Hc.out w3 hgrow)
 go_end0
 have := Hfin.out g cap w3 hgrow hat hown'
 exact ⟨_, rfl, this.1, this.2.1, this.2.2⟩
end Go.Proofs.YtmfkpllnmmfpiaaGreatDoor

namespace Go.Proofs.YtmfkpllnmmfpiaaGreatDoor
open Go.RowKit
theorem ret_bool {a b : Bool} (h : a = b) : Ending.returned (.bool a) = .returned (.bool b) := by rw [h]
theorem ret_int {k : IntKind} {a b : Int} (h : a = b) : Ending.returned (.int k a) = .returned (.int k b) := by rw [h]
set_option maxHeartbeats 400000 in
theorem isLetter_any (c : Int) (w : World) :
  Calls Tryz.prog 149 #[.int .u8 c] w fun e w' => e = .returned (.bool (letterB c)) ∧ w' = w := by
 by_cases h : 97 ≤ c
 ·go_enter Tryz.func149, Tryz.ntmps149
  go_wp2
  all_goals go_ret
  all_goals exact ⟨ret_bool (by simp [letterB, *]), rfl⟩
 ·have h' : c < 97 := by omega
  go_enter Tryz.func149, Tryz.ntmps149
  go_wp2
  all_goals go_ret
  all_goals exact ⟨ret_bool (by simp [letterB]; omega), rfl⟩
set_option maxHeartbeats 400000 in
theorem isDigit_any (c : Int) (w : World) :
  Calls Tryz.prog 150 #[.int .u8 c] w fun e w' => e = .returned (.bool (digitB c)) ∧ w' = w := by
 by_cases h : 48 ≤ c
 ·go_enter Tryz.func150, Tryz.ntmps150
  go_wp2
  all_goals go_ret
  all_goals exact ⟨ret_bool (by simp [digitB, *]), rfl⟩
 ·have h' : c < 48 := by omega
  go_enter Tryz.func150, Tryz.ntmps150
  go_wp2
  all_goals go_ret
  all_goals exact ⟨ret_bool (by simp [digitB]; omega), rfl⟩
theorem isLetter_is (c : Int) (b : Bool) (w : World) (h : letterB c = b) : Calls Tryz.prog 149 #[.int .u8 c] w fun e w' => e = .returned (.bool b) ∧ w' = w := h ▸ isLetter_any c w
set_option maxHeartbeats 400000 in
theorem firstKind_any (c : Int) (w : World) :
  Calls Tryz.prog 148 #[.int .u8 c] w fun e w' => e = .returned (.int .i64 (kindOf c)) ∧ w' = w := by
 cases hl : letterB c
 ·go_enter Tryz.func148, Tryz.ntmps148
  go_wp2_with (go_at_call 149; refine (isLetter_any _ _).mono ?_; rintro e w' ⟨rfl, rfl⟩)
  all_goals go_ret
  all_goals exact ⟨ret_int (by simp_all [kindOf]), rfl⟩
 ·go_enter Tryz.func148, Tryz.ntmps148
  go_wp2_with (go_at_call 149; refine (isLetter_any _ _).mono ?_; rintro e w' ⟨rfl, rfl⟩)
  all_goals go_ret
  all_goals exact ⟨ret_int (by simp_all [kindOf]), rfl⟩
end Go.Proofs.YtmfkpllnmmfpiaaGreatDoor
