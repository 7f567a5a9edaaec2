/- Row, SortLay, Plain, PlainText, Tell -/
import Derived.Test.YtmfkpllnmmfpiaaGreatDoorCards
import Derived.Test.YtmfkpllnmmfpiaaGreatDoorTie
import Derived.Test.YtmfkpllnmmfpiaaGreatDoorBookW
import Derived.ProofKit
import Derived.OpenShut
import Derived.Deep.DeepHandedRow
import Derived.Lib.LaidTab
import Derived.LaidSub
import Derived.Shelf.SlSortCmp.WholeK
import Derived.Ground.SlsfProg
import Derived.Test.YtmfkpllnmmfpiaaGreatDoorProg
import Derived.Test.YtmfkpllnmmfpiaaGreatDoorJoinLaw2W
import Derived.Test.YtmfkpllnmmfpiaaGreatDoorJoinModelW
import Derived.Lib.AppendStr
import Derived.Deep.DeepMust
import Derived.Test.YtmfkpllnmmfpiaaGreatDoorRangeW
import Derived.Laws.BytesArg
import Derived.Laws.MakeOwn
import Derived.Lib.Bytealg
import Derived.Lib.Strings
namespace Go.Proofs.YtmfkpllnmmfpiaaGreatDoor
open Go.ChangeShapes Go.WideShapes Go.ChangeAt Go.RowKit
theorem own : ownKnob Tryz.prog.godebug = none := by kernel_rfl
theorem errnos_place : Tryz.prog.globalNamed "akin/akin.errnos" = some 0 := by kernel_rfl
theorem errnos_type : (Tryz.prog.globals[0]?).map (·.type) = some 155 := by kernel_rfl
theorem errTab_of {W : World} (h : laidMetH Tryz.prog [("akin/akin.errnos", Rows.laid_akin_akin_errnos)] W) : ErrTab W := by
 have h1 : laidMet Tryz.prog [("akin/akin.errnos", Lib.tabData .i64 errZ)] W := (laidMetH_iff.1 h).1
 have ht : Lib.TabIs Tryz.prog W "akin/akin.errnos" .i64 errZ := Lib.tabIs_of_head errnos_place errnos_type Tryz.underlying155 Tryz.underlying47 (by kernel_rfl) (by kernel_rfl) h1
 have hc := fun i hi => ht.cell errnos_place i hi
 exact ⟨World.block_lt_of_cell? _ _ (hc 0 (by decide)), hc⟩
noncomputable def laidWorld (os : Os) : World :=
 { World.holding Tryz.prog os ⟨#[], #[], []⟩ with heap := (World.holding Tryz.prog os ⟨#[], #[], []⟩).heap.modify 0 fun
   | .cells _ t frozen => .cells #[.int .i64 0, .int .i64 1, .int .i64 2, .int .i64 3, .int .i64 3, .int .i64 3] t frozen
   | o => o }
end Go.Proofs.YtmfkpllnmmfpiaaGreatDoor

namespace Go.Proofs.YtmfkpllnmmfpiaaGreatDoor
open Go.Shelf
def sortT_ren : Go.Shelf.Ren := ⟨fun | 6 => 115 | 15 => 119 | 14 => 135 | 28 => 145 | 29 => 146 | 20 => 161 | 21 => 162 | 22 => 163 | 23 => 164 | 24 => 165 | 25 => 166 | 26 => 167 | 27 => 168 | 46 => 179 | 47 => 171 | 48 => 172 | 49 => 180 | 50 => 181 | 57 => 184 | n => n, fun | 22 => 137 | 24 => 147 | 25 => 192 | 3 => 3 | 39 => 195 | 0 => 0 | 53 => 220 | 55 => 222 | 4 => 4 | 46 => 214 | 45 => 213 | 50 => 189 | 5 => 5 | 9 => 9 | 66 => 240 | 70 => 244 | 76 => 251 | 77 => 252 | n => n, fun | n => n⟩
theorem sortT : Go.Proofs.SlLaysF0.n6 Tryz.prog sortT_ren := {
 mixed := by kernel_rfl
 f6 := ⟨Tryz.f115.name, by decide, Tryz.func115.trans (congrArg some (by kernel_rfl))⟩
 f14 := ⟨Tryz.f135.name, by decide, Tryz.func135.trans (congrArg some (by kernel_rfl))⟩
 f15 := Tryz.func119.trans (congrArg some (by kernel_rfl))
 f20 := ⟨Tryz.f161.name, by decide, Tryz.func161.trans (congrArg some (by kernel_rfl))⟩
 f21 := ⟨Tryz.f162.name, by decide, Tryz.func162.trans (congrArg some (by kernel_rfl))⟩
 f22 := ⟨Tryz.f163.name, by decide, Tryz.func163.trans (congrArg some (by kernel_rfl))⟩
 f23 := ⟨Tryz.f164.name, by decide, Tryz.func164.trans (congrArg some (by kernel_rfl))⟩
 f24 := ⟨Tryz.f165.name, by decide, Tryz.func165.trans (congrArg some (by kernel_rfl))⟩
 f25 := ⟨Tryz.f166.name, by decide, Tryz.func166.trans (congrArg some (by kernel_rfl))⟩
 f26 := ⟨Tryz.f167.name, by decide, Tryz.func167.trans (congrArg some (by kernel_rfl))⟩
 f27 := ⟨Tryz.f168.name, by decide, Tryz.func168.trans (congrArg some (by kernel_rfl))⟩
 f28 := Tryz.func145.trans (congrArg some (by kernel_rfl))
 f29 := Tryz.func146.trans (congrArg some (by kernel_rfl))
 f46 := ⟨Tryz.f179.name, by decide, Tryz.func179.trans (congrArg some (by kernel_rfl))⟩
 f47 := Tryz.func171.trans (congrArg some (by kernel_rfl))
 f48 := Tryz.func172.trans (congrArg some (by kernel_rfl))
 f49 := ⟨Tryz.f180.name, by decide, Tryz.func180.trans (congrArg some (by kernel_rfl))⟩
 f50 := ⟨Tryz.f181.name, by decide, Tryz.func181.trans (congrArg some (by kernel_rfl))⟩
 f57 := ⟨Tryz.f184.name, by decide, Tryz.func184.trans (congrArg some (by kernel_rfl))⟩
 t0 := Tryz.underlying0
 a0 := Tryz.isAgg0
 z0 := Tryz.sizeOf0
 v0 := Tryz.zeroValue0
 t3 := Tryz.underlying3
 a3 := Tryz.isAgg3
 z3 := Tryz.sizeOf3
 v3 := Tryz.zeroValue3
 t4 := Tryz.underlying4
 a4 := Tryz.isAgg4
 z4 := Tryz.sizeOf4
 v4 := Tryz.zeroValue4
 t5 := Tryz.underlying5
 a5 := Tryz.isAgg5
 z5 := Tryz.sizeOf5
 v5 := Tryz.zeroValue5
 t9 := Tryz.underlying9
 a9 := Tryz.isAgg9
 z9 := Tryz.sizeOf9
 v9 := Tryz.zeroValue9
 t22 := Tryz.underlying137
 a22 := Tryz.isAgg137
 z22 := Tryz.sizeOf137
 v22 := Tryz.zeroValue137
 t25 := Tryz.underlying192
 a25 := Tryz.isAgg192
 z25 := Tryz.sizeOf192
 v25 := Tryz.zeroValue192
 t39 := Tryz.underlying195
 a39 := Tryz.isAgg195
 z39 := Tryz.sizeOf195
 v39 := Tryz.zeroValue195
 t45 := Tryz.underlying213
 a45 := Tryz.isAgg213
 z45 := Tryz.sizeOf213
 v45 := Tryz.zeroValue213
 t46 := Tryz.underlying214
 a46 := Tryz.isAgg214
 z46 := Tryz.sizeOf214
 v46 := Tryz.zeroValue214
 t50 := Tryz.underlying189
 a50 := Tryz.isAgg189
 z50 := Tryz.sizeOf189
 v50 := Tryz.zeroValue189
 t53 := Tryz.underlying220
 a53 := Tryz.isAgg220
 z53 := Tryz.sizeOf220
 v53 := Tryz.zeroValue220
 t55 := Tryz.underlying222
 a55 := Tryz.isAgg222
 z55 := Tryz.sizeOf222
 v55 := Tryz.zeroValue222
 t66 := Tryz.underlying240
 a66 := Tryz.isAgg240
 z66 := Tryz.sizeOf240
 v66 := Tryz.zeroValue240
 t70 := Tryz.underlying244
 a70 := Tryz.isAgg244
 z70 := Tryz.sizeOf244
 v70 := Tryz.zeroValue244
 t76 := Tryz.underlying251
 a76 := Tryz.isAgg251
 z76 := Tryz.sizeOf251
 v76 := Tryz.zeroValue251
 t77 := Tryz.underlying252
 a77 := Tryz.isAgg252
 z77 := Tryz.sizeOf252
 v77 := Tryz.zeroValue252 }
end Go.Proofs.YtmfkpllnmmfpiaaGreatDoor

namespace Go.Proofs.YtmfkpllnmmfpiaaGreatDoor
open Go.RowKit
theorem info_byte : (Tryz.prog.info? 5).map (fun i => (i.zero, i.size, i.bytes)) = some (some (.int .u8 0), 1, 1) := by kernel_rfl
def partsTo (f : Nat → List UInt8) (s : Sh) : Nat → List UInt8
 | 0 => []
 | q + 1 => partsTo f s q ++ (if q = 0 then [40] else [44, 32]) ++ f (partAt s q)
def plainF (S : WS) : Nat → Nat → List UInt8
 | 0, _ => []
 | f + 1, i => (shapeAt S i).1.data.toList ++ if (shapeAt S i).2.1 = 0 then [] else partsTo (plainF S f) (shapeAt S i) (shapeAt S i).2.1 ++ [41]
def bytesV (l : List UInt8) : List Value := l.map fun b => .int .u8 (b.toNat : Int)
theorem bytesV_append (a b : List UInt8) : bytesV (a ++ b) = bytesV a ++ bytesV b := by simp [bytesV]
theorem strCells_bytes (s : ByteArray) : Lib.strCells s = bytesV s.data.toList := by
 simp [Lib.strCells, bytesV]
theorem Upd.of_below_list {B : Nat} {w w' : World} (h : Below B w w') : Upd ((List.range w.heap.size).filter (fun k => decide (B ≤ k))) w w' :=
 ⟨h.os, h.tape, h.output, h.size, fun k hk hn => h.block k (by
  simp only [List.mem_filter, List.mem_range, decide_eq_true_eq, not_and] at hn
  have := hn hk
  omega)⟩
theorem WebAt.below {w w' : World} {B wb : Nat} {H : Hd} {Z : Nat → Prop} {S : WS} (h : WebAt w wb H Z S) (hb : Below B w w') (hZ : ∀ k, Z k → k < B) : WebAt w' wb H Z S :=
 h.later (Upd.of_below_list hb) fun k hk hm => by
  simp only [List.mem_filter, List.mem_range, decide_eq_true_eq] at hm
  have := hZ k hk
  omega
structure Kept (w w' : World) : Prop where
 size : w.heap.size ≤ w'.heap.size
 block : ∀ k, k < w.heap.size → (∀ c fz, w.heap[k]? ≠ some (.cells c 5 fz)) → w'.heap[k]? = w.heap[k]?
theorem Kept.refl (w : World) : Kept w w := ⟨Nat.le_refl _, fun _ _ _ => rfl⟩
theorem Kept.trans {a b c : World} (h : Kept a b) (k : Kept b c) : Kept a c :=
 ⟨Nat.le_trans h.size k.size, fun i hi hn => (k.block i (Nat.lt_of_lt_of_le hi h.size) (fun c fz e => hn c fz (by rw [← h.block i hi hn]; exact e))).trans (h.block i hi hn)⟩
theorem Kept.alloc {a w : World} (h : Kept a w) (o : Obj) : Kept a (w.alloc o) := h.trans ⟨by simp, fun k hk _ => Below.heap_alloc _ _ _ hk⟩
theorem Kept.grown {a w w' : World} {B n : Nat} {v : Value} {xs : List Value} (h : Kept a w) (hr : w.ownsRow B 5 1 v n xs) (hg : w.grownBy w' v.ownBlock) : Kept a w' :=
 h.trans ⟨hg.size, fun k hk hn => hg.block k hk (fun e => by
  rcases hr.2 with ⟨hv, _⟩ | ⟨g, cap, cur, hv, _, hh, _⟩
  ·rw [hv] at e; simp [Value.ownBlock] at e
  ·rw [hv] at e
   simp only [own_slice, Option.some.injEq] at e
   subst e
   exact hn _ _ hh)⟩
structure ShBox (w : World) (A : Nat) (s : Sh) : Prop where
 box : BoxSh w A s
 kind : ∃ c fz, w.heap[A]? = some (.cells c 141 fz)
theorem ShBox.new (w : World) (s : Sh) : ShBox (w.alloc (.cells #[.string s.1, .int .i64 s.2.1, .int .i64 s.2.2.1, .int .i64 s.2.2.2.1, .int .i64 s.2.2.2.2] 141)) w.heap.size s :=
 ⟨⟨by simp, by go_simp, by go_simp, by go_simp, by go_simp, by go_simp⟩, _, _, heap_alloc_new w _⟩
theorem ShBox.kept {w w' : World} {A : Nat} {s : Sh} (h : ShBox w A s) (k : Kept w w') : ShBox w' A s := by
 obtain ⟨c, fz, hk⟩ := h.kind
 have hb : w'.heap[A]? = w.heap[A]? := k.block A h.box.1 (fun c' fz' e => by rw [hk] at e; cases e)
 have hc := fun o => World.cell?_of_block (w := w) (w' := w') (a := ⟨A, o, none⟩) hb
 exact ⟨⟨Nat.lt_of_lt_of_le h.box.1 k.size, (hc 0).trans h.box.2.1, (hc 1).trans h.box.2.2.1, (hc 2).trans h.box.2.2.2.1, (hc 3).trans h.box.2.2.2.2.1, (hc 4).trans h.box.2.2.2.2.2⟩, c, fz, hb.trans hk⟩
structure TextAt (w wk : World) (wb B : Nat) (H : Hd) (Z : Nat → Prop) (S : WS) (v : Value) (xs : List UInt8) : Prop where
 web : WebAt wk wb H Z S
 row : wk.ownsRow B 5 1 v xs.length (bytesV xs)
 below : Below B w wk
 kept : Kept w wk
theorem TextAt.put {w wk w' : World} {wb B : Nat} {H : Hd} {Z : Nat → Prop} {S : WS} {v v' : Value} {xs ys : List UInt8} (h : TextAt w wk wb B H Z S v xs) (hZ : ∀ k, Z k → k < B) (hBw : B ≤ w.heap.size) (hr : w'.ownsRow B 5 1 v' (xs.length + ys.length) (bytesV xs ++ bytesV ys)) (hg : wk.grownBy w' v.ownBlock) : TextAt w w' wb B H Z S v' (xs ++ ys) := by
 have hb : Below B wk w' := ⟨hg.os, hg.tape, hg.output, hg.size, fun k hk => hg.block k (Nat.lt_of_lt_of_le hk (Nat.le_trans hBw h.below.size)) (fun e => by have := (h.row.lt k e.symm).1; omega)⟩
 exact ⟨h.web.below hb hZ, by rw [bytesV_append, List.length_append]; exact hr, h.below.trans hb, h.kept.grown h.row hg⟩
theorem TextAt.alloc {w wk : World} {wb B : Nat} {H : Hd} {Z : Nat → Prop} {S : WS} {v : Value} {xs : List UInt8} (h : TextAt w wk wb B H Z S v xs) (hBw : B ≤ w.heap.size) (o : Obj) : TextAt w (wk.alloc o) wb B H Z S v xs :=
 ⟨h.web.later ((Upd.refl [] wk).alloc o) (fun _ _ => by simp), ((Upd.refl [] wk).alloc o).ownsRow h.row (fun _ _ => by simp), h.below.alloc (Nat.le_trans hBw h.below.size) o, h.kept.alloc o⟩
def PlainOK (f : Nat) : Prop := ∀ (w : World) (wb B : Nat) (H : Hd) (Z : Nat → Prop) (S : WS) (v : Value) (xs : List UInt8) (i : Nat), WebAt w wb H Z S → Base S → (∀ k, Z k → k < B) → B ≤ w.heap.size → i < S.shapes.length → i < f → w.ownsRow B 5 1 v xs.length (bytesV xs) →
 (∀ g j, (plainF S g j).length ≤ 1000) → xs.length + 5000 * f ≤ 10000000 →
 Calls Tryz.prog 123 #[.pointer (some ⟨wb, 0, none⟩), v, .int .i64 i] w fun e w' => ∃ v', e = .returned v' ∧ TextAt w w' wb B H Z S v' (xs ++ plainF S f i)
def sepT (q : Nat) : ByteArray := if q = 0 then ⟨#[40]⟩ else ⟨#[44, 32]⟩
theorem sepT_bytes (q : Nat) : (sepT q).data.toList = if q = 0 then [40] else [44, 32] := by unfold sepT; split <;> rfl
theorem sepT_size (q : Nat) : (sepT q).size ≤ 2 ∧ (sepT q).size = (sepT q).data.toList.length := by
 constructor
 ·unfold sepT
  split
  ·show 1 ≤ 2; omega
  ·show 2 ≤ 2; omega
 ·simp
theorem partsTo_length {f : Nat → List UInt8} (hf : ∀ j, (f j).length ≤ 1000) (s : Sh) : ∀ q, (partsTo f s q).length ≤ 1002 * q
 | 0 => by simp [partsTo]
 | q + 1 => by
  have := partsTo_length hf s q
  have := hf (partAt s q)
  simp only [partsTo, List.length_append]
  split <;> simp <;> omega
set_option maxHeartbeats 4000000 in
set_option maxRecDepth 100000 in
theorem plain_succ (f : Nat) (hF : PlainOK f) : PlainOK (f + 1) := by
 intro w wb B H Z S v xs i hweb hB hZ hBw hi hif hrow hsm hxs
 obtain ⟨i0, hi0, hz0, hz1, hz2⟩ := info_parts info_byte
 have hsh := shapeAt_some hi
 have hg := hB.good i _ hsh
 obtain ⟨g, cap, hd, hcap, hmax⟩ : ∃ g cap, H.shapes = .slice (some ⟨g, 0, none⟩) S.shapes.length cap ∧ S.shapes.length ≤ cap ∧ cap ≤ maxLen := by
  rcases ownsRow_slice hweb.rs with ⟨_, h0⟩ | hh
  ·omega
  ·exact hh
 have c1 := hweb.c1
 rw [hd] at c1
 have hrs := hweb.rs
 rw [hd] at hrs
 obtain ⟨k0, k1, k2, k3, k4⟩ := row5_cells hrs hsh
 have hi' : (i : Int) < (S.shapes.length : Int) := by omega
 have hname := hg.name
 have hpl : Hid (plainF S (f + 1) i = (shapeAt S i).1.data.toList ++ if (shapeAt S i).2.1 = 0 then [] else partsTo (plainF S f) (shapeAt S i) (shapeAt S i).2.1 ++ [41]) := rfl
 have HF := hide (fun (wk : World) (vk : Value) (ys : List UInt8) (q : Nat) (h : TextAt w wk wb B H Z S vk ys) (hq : q < i) (hy : ys.length + 5000 * f ≤ 10000000) => hF wk wb B H Z S vk ys q h.web hB hZ (Nat.le_trans hBw h.below.size) (by omega) (by omega) h.row hsm hy)
 have H0 : Hid (TextAt w (w.alloc (.cells #[.string (shapeAt S i).1, .int .i64 (shapeAt S i).2.1, .int .i64 (shapeAt S i).2.2.1, .int .i64 (shapeAt S i).2.2.2.1, .int .i64 (shapeAt S i).2.2.2.2] 141)) wb B H Z S v xs) := (⟨hweb, hrow, Below.refl _ _, Kept.refl _⟩ : TextAt w w wb B H Z S v xs).alloc hBw _
 have hbox := ShBox.new w (shapeAt S i)
 have hsml := hsm
 have Hg := hide hg
 have hcnt := hg.count
 have hrow1 := H0.out.row
 have hszn : (shapeAt S i).1.size = (shapeAt S i).1.data.toList.length := by simp
 clear hsh hrs hd hweb hrow hg hB
 generalize shapeAt S i = sh at *
 have Hszn := hide hszn
 have h63 : xs.length + sh.1.size ≤ maxLen := by unfold maxLen; omega
 have hby : xs.length + sh.1.size ≤ 140737488355328 := by omega
 clear hszn
 have hbase : B ≤ (w.alloc (.cells #[.string sh.1, .int .i64 sh.2.1, .int .i64 sh.2.2.1, .int .i64 sh.2.2.2.1, .int .i64 sh.2.2.2.2] 141)).heap.size := by simp; omega
 go_enter Tryz.func123, Tryz.ntmps123
 go_upto_region 3 with (at_builtin; go_must (refine Lib.wpList_append_own_string _ rfl _ _ 186 9 rfl B 5 i0 Tryz.underlying186 Tryz.underlying9 hi0 hz0 hz1 hz2 _ _ _ rfl hrow1 sh.1 rfl h63 hby hbase ?_); intro v2 w2 hown2 hg2 hnil2)
 have H2 := hide (H0.out.put hZ hBw (by rw [← Hszn.out, ← strCells_bytes]; exact hown2) hg2)
 have hb2 := hbox.kept (H0.out.kept.size |> fun _ => (Kept.refl _).grown hrow1 hg2)
 clear hown2 hg2 hnil2 H0 hbox hrow1 h63 hby hbase k0 k1 k2 k3 k4 c1
 obtain ⟨_, q0, q1, q2, q3, q4⟩ := hb2.box
 obtain ⟨g2, n2, cap2, hv2⟩ : ∃ (g : Option Addr) (n c : Nat), v2 = .slice g n c := by obtain ⟨g, c, e⟩ := slice_len H2.out.row; exact ⟨g, _, c, e⟩
 subst hv2
 by_cases hc : sh.2.1 = 0
 ·have hc' : ((sh.2.1 : Int) == 0) = true := by simp; omega
  have HE : Hid (plainF S (f + 1) i = sh.1.data.toList) := by show _ = _; rw [hpl.out, if_pos hc, List.append_nil]
  clear hc
  go_wp2
  go_ret
  exact ⟨_, rfl, by rw [HE.out]; exact H2.out⟩
 ·have hc' : ((sh.2.1 : Int) == 0) = false := by simp; omega
  have HE : Hid (plainF S (f + 1) i = sh.1.data.toList ++ (partsTo (plainF S f) sh sh.2.1 ++ [41])) := by show _ = _; rw [hpl.out, if_neg hc]
  have hpos : 0 < sh.2.1 := by omega
  have Hb2 := hide hb2
  have hc3 : (sh.2.1 : Int) ≤ 3 := by omega
  clear hc hb2 hpl
  go_wp2
  go_loopw [1, 8, 31] (fun v8 sg ix wr => ∃ q : Nat, q ≤ sh.2.1 ∧ ix = .int .i64 q ∧ sg = .string (sepT q) ∧ Hid (TextAt w wr wb B H Z S v8 (xs ++ sh.1.data.toList ++ partsTo (plainF S f) sh q) ∧ ShBox wr w.heap.size sh)) (fun _ _ ix _ => sh.2.1 - (intOf ix).toNat)
  case atStart => exact ⟨0, by omega, rfl, rfl, by rw [show partsTo (plainF S f) sh 0 = [] from rfl, List.append_nil]; exact H2.out, Hb2.out⟩
  case round =>
   obtain ⟨q, hq, rfl, rfl, HQ⟩ := hrel
   clear H2 Hb2 q0 q1 q2 q3 q4
   have hlen := partsTo_length (f := plainF S f) (fun j => hsml f j) sh q
   have hszn := Hszn.out
   have hxl : (xs ++ sh.1.data.toList ++ partsTo (plainF S f) sh q).length ≤ xs.length + 4100 := by simp only [List.length_append]; omega
   clear hszn
   by_cases hqc : q < sh.2.1
   ·have hqc' : (q : Int) < (sh.2.1 : Int) := by omega
    have hcq := HQ.out.2.box.part q (by omega)
    have hpq := Hg.out.part q hqc
    have hrow3 := HQ.out.1.row
    obtain ⟨z1, z2⟩ := sepT_size q
    have h63 : (xs ++ sh.1.data.toList ++ partsTo (plainF S f) sh q).length + (sepT q).size ≤ maxLen := by unfold maxLen; omega
    have hby : (xs ++ sh.1.data.toList ++ partsTo (plainF S f) sh q).length + (sepT q).size ≤ 140737488355328 := by omega
    have hbase : B ≤ wr.heap.size := Nat.le_trans hBw HQ.out.1.below.size
    have HN : Hid (partsTo (plainF S f) sh (q + 1) = partsTo (plainF S f) sh q ++ (sepT q).data.toList ++ plainF S f (partAt sh q)) := by show _ = _; rw [sepT_bytes]; rfl
    have hs1 : (⟨#[44, 32]⟩ : ByteArray) = sepT (q + 1) := rfl
    have Hs1 := hide hs1
    have Hpl := hide (hsml f (partAt sh q))
    clear hs1
    generalize hYs : xs ++ sh.1.data.toList ++ partsTo (plainF S f) sh q = ys at *
    have HYs := hide hYs
    clear hYs
    generalize sepT q = sq at *
    have Hz2 := hide z2
    clear z2
    generalize partAt sh q = pq at *
    go_upto_region 10 with (at_builtin; go_must (refine Lib.wpList_append_own_string _ rfl _ _ 186 9 rfl B 5 i0 Tryz.underlying186 Tryz.underlying9 hi0 hz0 hz1 hz2 _ _ _ rfl hrow3 sq rfl h63 hby hbase ?_); intro v3 w3 hown3 hg3 hnil3)
    have H3 := hide (HQ.out.1.put hZ hBw (by rw [← Hz2.out, ← strCells_bytes]; exact hown3) hg3)
    have Hb3 := hide (HQ.out.2.kept ((Kept.refl _).grown hrow3 hg3))
    clear hown3 hg3 hnil3
    have hl2 : sq.data.toList.length ≤ 2 := by rw [← Hz2.out]; exact z1
    have HC4 := hide (HF.out w3 v3 _ pq H3.out hpq (by simp only [List.length_append]; omega))
    clear hl2
    go_wp2_with (go_at_call 123; refine HC4.out.mono ?_; rintro e w4 ⟨v4, rfl, ht4⟩; have H4 := hide ht4; clear ht4)
    go_roundw
    case measure => simp [intOf]; omega
    case rel =>
     refine ⟨q + 1, by omega, by go_num, by rw [← Hs1.out], ?_, (Hb3.out.kept H4.out.kept)⟩
     have h4 := H4.out
     have h3 := H3.out
     have e : xs ++ sh.1.data.toList ++ partsTo (plainF S f) sh (q + 1) = ys ++ sq.data.toList ++ plainF S f pq := by rw [HN.out, ← HYs.out]; simp only [List.append_assoc]
     rw [e]
     exact ⟨h4.web, h4.row, h3.below.trans h4.below, h3.kept.trans h4.kept⟩
   ·obtain rfl : q = sh.2.1 := by omega
    have hge : ¬ (sh.2.1 : Int) < (sh.2.1 : Int) := by omega
    have H5 := hide (HQ.out.1.alloc hBw (.cells #[.int .u8 41] 5))
    have hrow5 := H5.out.row
    have hone : ∀ u ∈ ([.int .u8 41] : List Value), u.oneCell' = true := fun u hu => by
     simp at hu
     subst hu
     rfl
    have h63 : (xs ++ sh.1.data.toList ++ partsTo (plainF S f) sh sh.2.1).length + 1 ≤ maxLen := by unfold maxLen; omega
    have hby : ((xs ++ sh.1.data.toList ++ partsTo (plainF S f) sh sh.2.1).length + 1) * 1 ≤ 140737488355328 := by omega
    have hbase : B ≤ (wr.alloc (.cells #[.int .u8 41] 5)).heap.size := Nat.le_trans hBw H5.out.below.size
    have HE2 : Hid (xs ++ plainF S (f + 1) i = xs ++ sh.1.data.toList ++ partsTo (plainF S f) sh sh.2.1 ++ [41]) := by show _ = _; rw [HE.out]; simp only [List.append_assoc]
    clear HQ HE
    generalize xs ++ sh.1.data.toList ++ partsTo (plainF S f) sh sh.2.1 = ys at *
    go_wp2_with (at_builtin; go_must (refine wpList_append_lies _ rfl _ _ 186 rfl B 5 i0 (.int .u8 0) 1 1 Tryz.underlying186 hi0 hz0 hz1 hz2 rfl (by decide) _ _ _ rfl hrow5 ⟨wr.heap.size, 0, none⟩ 1 1 [.int .u8 41] rfl rfl (cell_one_new _ _ _) hone (by decide) h63 hby hbase _ rfl ?_); intro g6 cap6 w6 hown6 hg6 hat6 hlt6)
    go_ret
    refine ⟨_, rfl, ?_⟩
    rw [HE2.out]
    exact H5.out.put hZ hBw hown6 hg6
theorem plain_ok : ∀ f, PlainOK f
 | 0 => fun _ _ _ _ _ _ _ _ _ _ _ _ _ _ h => by omega
 | f + 1 => plain_succ f (plain_ok f)
end Go.Proofs.YtmfkpllnmmfpiaaGreatDoor

namespace Go.Proofs.YtmfkpllnmmfpiaaGreatDoor
open Go.RowKit
def plainT (S : WS) (i : Nat) : ByteArray := ⟨(plainF S (i + 1) i).toArray⟩
theorem convert_row {w : World} {B : Nat} {v : Value} {xs : List UInt8} (h : w.ownsRow B 5 1 v xs.length (bytesV xs)) : (convert 186 9 v).run Tryz.prog w = .ok (.string ⟨xs.toArray⟩) w := by
 rcases ownsRow_slice h with ⟨rfl, h0⟩ | ⟨g, cap, rfl, _, _⟩
 ·have : xs = [] := List.eq_nil_of_length_eq_zero h0
  subst this
  exact run_convert_bytes_nil w 186 5 Tryz.underlying186 Tryz.underlying5 0 0 9 Tryz.underlying9
 ·have hc : ∀ i, i < xs.length → w.cell? ⟨g, 0 + i, none⟩ = some (.int .u8 ((xs.map fun b => (b.toNat : Int)).getD i 0)) := fun i hi => by
   rw [Nat.zero_add, h.cellAt i (by omega)]
   simp [bytesV, List.getD, hi]
  rw [run_convert_bytes_arg w 186 5 Tryz.underlying186 Tryz.underlying5 g 0 xs.length cap (xs.map fun b => (b.toNat : Int)) (by simp) hc 9 Tryz.underlying9]
  unfold strOfNums
  rw [List.map_map]
  congr 3
  rw [List.map_congr_left (g := id) (fun b _ => by simp), List.map_id]
set_option maxHeartbeats 1000000 in
theorem plain_any (w : World) (wb : Nat) (H : Hd) (Z : Nat → Prop) (S : WS) (i : Nat) (h : WebAt w wb H Z S) (hB : Base S) (hZ : ∀ k, Z k → k < w.heap.size) (hi : i < S.shapes.length) (hn : S.shapes.length ≤ 1000) (hsm : ∀ g j, (plainF S g j).length ≤ 1000) :
  Calls Tryz.prog 88 #[.pointer (some ⟨wb, 0, none⟩), .int .i64 i] w fun e w' => e = .returned (.string (plainT S i)) ∧ Upd [] w w' := by
 have HC := hide (plain_ok (i + 1) w wb w.heap.size H Z S (.slice none 0 0) [] i h hB hZ (Nat.le_refl _) hi (by omega) (World.ownsRow_nil _ _ _ _) hsm (by simp; omega))
 clear h hB
 go_enter Tryz.func88, Tryz.ntmps88
 go_wp2_with (go_at_call 123; refine HC.out.mono ?_; rintro e w2 ⟨v2, rfl, ht⟩; have hcv := convert_row ht.row; have Hb := hide ht.below; clear ht)
 go_ret
 refine ⟨rfl, Upd.of_below Hb.out⟩
def signB (b : Bool) : ByteArray := if b then ⟨#[61]⟩ else ⟨#[33, 61]⟩
set_option maxHeartbeats 400000 in
theorem signString_any (k : Nat) (w : World) (hk : k ≤ 1) :
  Calls Tryz.prog 89 #[.int .i64 k] w fun e w' => e = .returned (.string (signB (k == 0))) ∧ w' = w := by
 by_cases h0 : k = 0
 ·subst h0
  go_enter Tryz.func89, Tryz.ntmps89
  go_wp2
  go_ret
  exact ⟨rfl, rfl⟩
 ·obtain rfl : k = 1 := by omega
  go_enter Tryz.func89, Tryz.ntmps89
  go_wp2
  go_ret
  exact ⟨rfl, rfl⟩
end Go.Proofs.YtmfkpllnmmfpiaaGreatDoor

namespace Go.Proofs.YtmfkpllnmmfpiaaGreatDoor
open Go.RowKit Go.Shelf Go.Sort
set_option maxHeartbeats 400000 in
set_option maxRecDepth 100000 in
theorem cmpString_any (a b : ByteArray) (w : World) :
  Calls Tryz.prog 136 #[.string a, .string b] w fun e w' => e = .returned (.int .i64 (Lib.compareBytes a.data.toList b.data.toList)) ∧ w' = w := by
 go_enter Tryz.func136, Tryz.ntmps136
 go_wp2
 rw [run_callFunc_extern Tryz.func169 (by kernel_rfl) (by kernel_rfl) (by kernel_rfl) (e := Extern.BytealgCompare.compare) (by kernel_rfl), Lib.run_compareString]
 simp only [Result.andThen]
 rw [Oper.upon_value]
 go_wp2
 go_ret
 exact ⟨rfl, rfl⟩
set_option maxHeartbeats 400000 in
theorem stringsCompare_any (a b : ByteArray) (w : World) :
  Calls Tryz.prog 117 #[.string a, .string b] w fun e w' => e = .returned (.int .i64 (Lib.compareBytes a.data.toList b.data.toList)) ∧ w' = w := by
 have HC := hide (cmpString_any a b w)
 go_enter Tryz.func117, Tryz.ntmps117
 go_wp2_with (go_at_call 136; refine HC.out.mono ?_; rintro e w' ⟨rfl, hw⟩; rw [hw]; clear hw w')
 go_ret
 exact ⟨rfl, rfl⟩
abbrev TN := ByteArray × Nat
def encT (x : TN) : List Value := [.string x.1, .int .i64 x.2]
def cmpT (x y : TN) : Int := Lib.compareBytes x.1.data.toList y.1.data.toList
set_option maxHeartbeats 400000 in
theorem cmpText_any (x y : TN) (W : World) : Calls Tryz.prog 116 #[.agg #[.string x.1, .int .i64 x.2], .agg #[.string y.1, .int .i64 y.2]] W fun e w' => e = .returned (.int .i64 (cmpT x y)) ∧ ∃ q os', w' = grow (W.drewN q) os' := by
 have HC := hide (fun W' => stringsCompare_any x.1 y.1 W')
 unfold cmpT
 generalize Lib.compareBytes x.1.data.toList y.1.data.toList = r at *
 go_enter Tryz.func116, Tryz.ntmps116
 go_wp2_with (go_at_call 117; refine (HC.out _).mono ?_; rintro e w' ⟨rfl, hw⟩; rw [hw]; clear hw w')
 go_ret
 exact ⟨rfl, 0, _, by rw [alloc_eq_grow, alloc_eq_grow, grow_grow]; rfl⟩
theorem cmpLays_text (blk off size : Nat) (w : World) : CmpLays Tryz.prog 116 #[] encT 2 cmpT blk off size w := fun _ _ _ _ x y => cmpText_any x y _
theorem cmpB_cons (a b : UInt8) (l m : List UInt8) : Lib.compareBytes (a :: l) (b :: m) = if a < b then -1 else if b < a then 1 else Lib.compareBytes l m := rfl
theorem cmpB_lt : ∀ a b : List UInt8, (Lib.compareBytes a b < 0 ↔ a < b) ∧ (Lib.compareBytes a b = 0 ↔ a = b)
 | [], [] => by simp [Lib.compareBytes]
 | [], b :: m => by simp [Lib.compareBytes]
 | a :: l, [] => by simp [Lib.compareBytes]
 | a :: l, b :: m => by
  obtain ⟨h1, h2⟩ := cmpB_lt l m
  rw [cmpB_cons, List.cons_lt_cons_iff]
  by_cases hab : a < b
  ·rw [if_pos hab]
   refine ⟨by simp [hab], by simp; rintro rfl; exact absurd hab (UInt8.lt_irrefl a)⟩
  ·rw [if_neg hab]
   by_cases hba : b < a
   ·rw [if_pos hba]
    have hne : a ≠ b := fun e => by subst e; exact UInt8.lt_irrefl a hba
    refine ⟨by simp [hab, hne], by simp [hne]⟩
   ·rw [if_neg hba]
    have he : a = b := UInt8.toNat_inj.1 (by
     have g1 : ¬ a.toNat < b.toNat := hab
     have g2 : ¬ b.toNat < a.toNat := hba
     omega)
    subst he
    refine ⟨by simp [hab, h1], by simp [h2]⟩
def ltT : TN → TN → Bool := ltOf cmpT
theorem ltT_iff (x y : TN) : ltT x y = true ↔ x.1.data.toList < y.1.data.toList := by
 unfold ltT ltOf cmpT
 rw [decide_eq_true_eq]
 exact (cmpB_lt _ _).1
theorem swoT : SWO (ltOf cmpT) where
 irrefl x := by
  have h : ¬ ltT x x = true := fun h => List.lt_irrefl _ ((ltT_iff x x).1 h)
  simpa [ltT] using h
 trans x y z h1 h2 := (ltT_iff x z).2 (List.lt_trans ((ltT_iff x y).1 h1) ((ltT_iff y z).1 h2))
 ntrans x y z h1 h2 := by
  have g1 : ¬ x.1.data.toList < y.1.data.toList := fun h => by have := (ltT_iff x y).2 h; unfold ltT at this; rw [h1] at this; cases this
  have g2 : ¬ y.1.data.toList < z.1.data.toList := fun h => by have := (ltT_iff y z).2 h; unfold ltT at this; rw [h2] at this; cases this
  have g3 : ¬ ltT x z = true := fun h => List.not_lt.2 (List.le_trans (List.not_lt.1 g2) (List.not_lt.1 g1)) ((ltT_iff x z).1 h)
  simpa [ltT] using g3
end Go.Proofs.YtmfkpllnmmfpiaaGreatDoor
