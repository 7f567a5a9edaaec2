/- Plain, WebTerm -/
import Derived.Test.YtmfkpllnmmfpiaaGreatDoorJoinLaw2H
import Derived.Test.YtmfkpllnmmfpiaaGreatDoorJoinLawH
import Derived.Lib.AppendStr
import Derived.Deep.DeepMust
import Derived.Test.YtmfkpllnmmfpiaaGreatDoorWebHeapH
import Derived.Test.YtmfkpllnmmfpiaaGreatDoorSay2H
namespace Go.Proofs.YtmfkpllnmmfpiaaGreatDoor
open Go.RowKit
theorem info_byte : (Tryz.prog.info? 5).map (fun i => (i.zero, i.size, i.bytes)) = some (some (.int .u8 0), 1, 1) := by kernel_rfl
def partsTo (f : Nat → List UInt8) (s : Sh) : Nat → List UInt8
 | 0 => []
 | q + 1 => partsTo f s q ++ (if q = 0 then [40] else [44, 32]) ++ f (partAt s q)
def plainF (S : WS) : Nat → Nat → List UInt8
 | 0, _ => []
 | f + 1, i => (shapeAt S i).1.data.toList ++ if (shapeAt S i).2.1 = 0 then [] else partsTo (plainF S f) (shapeAt S i) (shapeAt S i).2.1 ++ [41]
def bytesV (l : List UInt8) : List Value := l.map fun b => .int .u8 (b.toNat : Int)
theorem bytesV_append (a b : List UInt8) : bytesV (a ++ b) = bytesV a ++ bytesV b := by simp [bytesV]
theorem strCells_bytes (s : ByteArray) : Lib.strCells s = bytesV s.data.toList := by
 simp [Lib.strCells, bytesV]
theorem Upd.of_below_list {B : Nat} {w w' : World} (h : Below B w w') : Upd ((List.range w.heap.size).filter (fun k => decide (B ≤ k))) w w' :=
 ⟨h.os, h.tape, h.output, h.size, fun k hk hn => h.block k (by
  simp only [List.mem_filter, List.mem_range, decide_eq_true_eq, not_and] at hn
  have := hn hk
  omega)⟩
theorem WebAt.below {w w' : World} {B wb : Nat} {H : Hd} {Z : Nat → Prop} {S : WS} (h : WebAt w wb H Z S) (hb : Below B w w') (hZ : ∀ k, Z k → k < B) : WebAt w' wb H Z S :=
 h.later (Upd.of_below_list hb) fun k hk hm => by
  simp only [List.mem_filter, List.mem_range, decide_eq_true_eq] at hm
  have := hZ k hk
  omega
structure Kept (w w' : World) : Prop where
 size : w.heap.size ≤ w'.heap.size
 block : ∀ k, k < w.heap.size → (∀ c fz, w.heap[k]? ≠ some (.cells c 5 fz)) → w'.heap[k]? = w.heap[k]?
theorem Kept.refl (w : World) : Kept w w := ⟨Nat.le_refl _, fun _ _ _ => rfl⟩
theorem Kept.trans {a b c : World} (h : Kept a b) (k : Kept b c) : Kept a c :=
 ⟨Nat.le_trans h.size k.size, fun i hi hn => (k.block i (Nat.lt_of_lt_of_le hi h.size) (fun c fz e => hn c fz (by rw [← h.block i hi hn]; exact e))).trans (h.block i hi hn)⟩
theorem Kept.alloc {a w : World} (h : Kept a w) (o : Obj) : Kept a (w.alloc o) := h.trans ⟨by simp, fun k hk _ => Below.heap_alloc _ _ _ hk⟩
theorem Kept.grown {a w w' : World} {B n : Nat} {v : Value} {xs : List Value} (h : Kept a w) (hr : w.ownsRow B 5 1 v n xs) (hg : w.grownBy w' v.ownBlock) : Kept a w' :=
 h.trans ⟨hg.size, fun k hk hn => hg.block k hk (fun e => by
  rcases hr.2 with ⟨hv, _⟩ | ⟨g, cap, cur, hv, _, hh, _⟩
  ·rw [hv] at e; simp [Value.ownBlock] at e
  ·rw [hv] at e
   simp only [own_slice, Option.some.injEq] at e
   subst e
   exact hn _ _ hh)⟩
structure ShBox (w : World) (A : Nat) (s : Sh) : Prop where
 box : BoxSh w A s
 kind : ∃ c fz, w.heap[A]? = some (.cells c 141 fz)
theorem ShBox.new (w : World) (s : Sh) : ShBox (w.alloc (.cells #[.string s.1, .int .i64 s.2.1, .int .i64 s.2.2.1, .int .i64 s.2.2.2.1, .int .i64 s.2.2.2.2] 141)) w.heap.size s :=
 ⟨⟨by simp, by go_simp, by go_simp, by go_simp, by go_simp, by go_simp⟩, _, _, heap_alloc_new w _⟩
theorem ShBox.kept {w w' : World} {A : Nat} {s : Sh} (h : ShBox w A s) (k : Kept w w') : ShBox w' A s := by
 obtain ⟨c, fz, hk⟩ := h.kind
 have hb : w'.heap[A]? = w.heap[A]? := k.block A h.box.1 (fun c' fz' e => by rw [hk] at e; cases e)
 have hc := fun o => World.cell?_of_block (w := w) (w' := w') (a := ⟨A, o, none⟩) hb
 exact ⟨⟨Nat.lt_of_lt_of_le h.box.1 k.size, (hc 0).trans h.box.2.1, (hc 1).trans h.box.2.2.1, (hc 2).trans h.box.2.2.2.1, (hc 3).trans h.box.2.2.2.2.1, (hc 4).trans h.box.2.2.2.2.2⟩, c, fz, hb.trans hk⟩
structure TextAt (w wk : World) (wb B : Nat) (H : Hd) (Z : Nat → Prop) (S : WS) (v : Value) (xs : List UInt8) : Prop where
 web : WebAt wk wb H Z S
 row : wk.ownsRow B 5 1 v xs.length (bytesV xs)
 below : Below B w wk
 kept : Kept w wk
theorem TextAt.put {w wk w' : World} {wb B : Nat} {H : Hd} {Z : Nat → Prop} {S : WS} {v v' : Value} {xs ys : List UInt8} (h : TextAt w wk wb B H Z S v xs) (hZ : ∀ k, Z k → k < B) (hBw : B ≤ w.heap.size) (hr : w'.ownsRow B 5 1 v' (xs.length + ys.length) (bytesV xs ++ bytesV ys)) (hg : wk.grownBy w' v.ownBlock) : TextAt w w' wb B H Z S v' (xs ++ ys) := by
 have hb : Below B wk w' := ⟨hg.os, hg.tape, hg.output, hg.size, fun k hk => hg.block k (Nat.lt_of_lt_of_le hk (Nat.le_trans hBw h.below.size)) (fun e => by have := (h.row.lt k e.symm).1; omega)⟩
 exact ⟨h.web.below hb hZ, by rw [bytesV_append, List.length_append]; exact hr, h.below.trans hb, h.kept.grown h.row hg⟩
theorem TextAt.alloc {w wk : World} {wb B : Nat} {H : Hd} {Z : Nat → Prop} {S : WS} {v : Value} {xs : List UInt8} (h : TextAt w wk wb B H Z S v xs) (hBw : B ≤ w.heap.size) (o : Obj) : TextAt w (wk.alloc o) wb B H Z S v xs :=
 ⟨h.web.later ((Upd.refl [] wk).alloc o) (fun _ _ => by simp), ((Upd.refl [] wk).alloc o).ownsRow h.row (fun _ _ => by simp), h.below.alloc (Nat.le_trans hBw h.below.size) o, h.kept.alloc o⟩
def PlainOK (f : Nat) : Prop := ∀ (w : World) (wb B : Nat) (H : Hd) (Z : Nat → Prop) (S : WS) (v : Value) (xs : List UInt8) (i : Nat), WebAt w wb H Z S → Base S → (∀ k, Z k → k < B) → B ≤ w.heap.size → i < S.shapes.length → i < f → w.ownsRow B 5 1 v xs.length (bytesV xs) →
 (∀ g j, (plainF S g j).length ≤ 1000) → xs.length + 5000 * f ≤ 10000000 →
 Calls Tryz.prog 123 #[.pointer (some ⟨wb, 0, none⟩), v, .int .i64 i] w fun e w' => ∃ v', e = .returned v' ∧ TextAt w w' wb B H Z S v' (xs ++ plainF S f i)
def sepT (q : Nat) : ByteArray := if q = 0 then ⟨#[40]⟩ else ⟨#[44, 32]⟩
theorem sepT_bytes (q : Nat) : (sepT q).data.toList = if q = 0 then [40] else [44, 32] := by unfold sepT; split <;> rfl
theorem sepT_size (q : Nat) : (sepT q).size ≤ 2 ∧ (sepT q).size = (sepT q).data.toList.length := by
 constructor
 ·unfold sepT
  split
  ·show 1 ≤ 2; omega
  ·show 2 ≤ 2; omega
 ·simp
theorem partsTo_length {f : Nat → List UInt8} (hf : ∀ j, (f j).length ≤ 1000) (s : Sh) : ∀ q, (partsTo f s q).length ≤ 1002 * q
 | 0 => by simp [partsTo]
 | q + 1 => by
  have := partsTo_length hf s q
  have := hf (partAt s q)
  simp only [partsTo, List.length_append]
  split <;> simp <;> omega
set_option maxHeartbeats 4000000 in
set_option maxRecDepth 100000 in
theorem plain_succ (f : Nat) (hF : PlainOK f) : PlainOK (f + 1) := by
 intro w wb B H Z S v xs i hweb hB hZ hBw hi hif hrow hsm hxs
 obtain ⟨i0, hi0, hz0, hz1, hz2⟩ := info_parts info_byte
 have hsh := shapeAt_some hi
 have hg := hB.good i _ hsh
 obtain ⟨g, cap, hd, hcap, hmax⟩ : ∃ g cap, H.shapes = .slice (some ⟨g, 0, none⟩) S.shapes.length cap ∧ S.shapes.length ≤ cap ∧ cap ≤ maxLen := by
  rcases ownsRow_slice hweb.rs with ⟨_, h0⟩ | hh
  ·omega
  ·exact hh
 have c1 := hweb.c1
 rw [hd] at c1
 have hrs := hweb.rs
 rw [hd] at hrs
 obtain ⟨k0, k1, k2, k3, k4⟩ := row5_cells hrs hsh
 have hi' : (i : Int) < (S.shapes.length : Int) := by omega
 have hname := hg.name
 have hpl : Hid (plainF S (f + 1) i = (shapeAt S i).1.data.toList ++ if (shapeAt S i).2.1 = 0 then [] else partsTo (plainF S f) (shapeAt S i) (shapeAt S i).2.1 ++ [41]) := rfl
 have HF := hide (fun (wk : World) (vk : Value) (ys : List UInt8) (q : Nat) (h : TextAt w wk wb B H Z S vk ys) (hq : q < i) (hy : ys.length + 5000 * f ≤ 10000000) => hF wk wb B H Z S vk ys q h.web hB hZ (Nat.le_trans hBw h.below.size) (by omega) (by omega) h.row hsm hy)
 have H0 : Hid (TextAt w (w.alloc (.cells #[.string (shapeAt S i).1, .int .i64 (shapeAt S i).2.1, .int .i64 (shapeAt S i).2.2.1, .int .i64 (shapeAt S i).2.2.2.1, .int .i64 (shapeAt S i).2.2.2.2] 141)) wb B H Z S v xs) := (⟨hweb, hrow, Below.refl _ _, Kept.refl _⟩ : TextAt w w wb B H Z S v xs).alloc hBw _
 have hbox := ShBox.new w (shapeAt S i)
 have hsml := hsm
 have Hg := hide hg
 have hcnt := hg.count
 have hrow1 := H0.out.row
 have hszn : (shapeAt S i).1.size = (shapeAt S i).1.data.toList.length := by simp
 clear hsh hrs hd hweb hrow hg hB
 generalize shapeAt S i = sh at *
 have Hszn := hide hszn
 have h63 : xs.length + sh.1.size ≤ maxLen := by unfold maxLen; omega
 have hby : xs.length + sh.1.size ≤ 140737488355328 := by omega
 clear hszn
 have hbase : B ≤ (w.alloc (.cells #[.string sh.1, .int .i64 sh.2.1, .int .i64 sh.2.2.1, .int .i64 sh.2.2.2.1, .int .i64 sh.2.2.2.2] 141)).heap.size := by simp; omega
 go_enter Tryz.func123, Tryz.ntmps123
 go_upto_region 3 with (at_builtin; go_must (refine Lib.wpList_append_own_string _ rfl _ _ 186 9 rfl B 5 i0 Tryz.underlying186 Tryz.underlying9 hi0 hz0 hz1 hz2 _ _ _ rfl hrow1 sh.1 rfl h63 hby hbase ?_); intro v2 w2 hown2 hg2 hnil2)
 have H2 := hide (H0.out.put hZ hBw (by rw [← Hszn.out, ← strCells_bytes]; exact hown2) hg2)
 have hb2 := hbox.kept (H0.out.kept.size |> fun _ => (Kept.refl _).grown hrow1 hg2)
 clear hown2 hg2 hnil2 H0 hbox hrow1 h63 hby hbase k0 k1 k2 k3 k4 c1
 obtain ⟨_, q0, q1, q2, q3, q4⟩ := hb2.box
 obtain ⟨g2, n2, cap2, hv2⟩ : ∃ (g : Option Addr) (n c : Nat), v2 = .slice g n c := by obtain ⟨g, c, e⟩ := slice_len H2.out.row; exact ⟨g, _, c, e⟩
 subst hv2
 by_cases hc : sh.2.1 = 0
 ·have hc' : ((sh.2.1 : Int) == 0) = true := by simp; omega
  have HE : Hid (plainF S (f + 1) i = sh.1.data.toList) := by show _ = _; rw [hpl.out, if_pos hc, List.append_nil]
  clear hc
  go_wp2
  go_ret
  exact ⟨_, rfl, by rw [HE.out]; exact H2.out⟩
 ·have hc' : ((sh.2.1 : Int) == 0) = false := by simp; omega
  have HE : Hid (plainF S (f + 1) i = sh.1.data.toList ++ (partsTo (plainF S f) sh sh.2.1 ++ [41])) := by show _ = _; rw [hpl.out, if_neg hc]
  have hpos : 0 < sh.2.1 := by omega
  have Hb2 := hide hb2
  have hc3 : (sh.2.1 : Int) ≤ 3 := by omega
  clear hc hb2 hpl
  go_wp2
  go_loopw [1, 8, 31] (fun v8 sg ix wr => ∃ q : Nat, q ≤ sh.2.1 ∧ ix = .int .i64 q ∧ sg = .string (sepT q) ∧ Hid (TextAt w wr wb B H Z S v8 (xs ++ sh.1.data.toList ++ partsTo (plainF S f) sh q) ∧ ShBox wr w.heap.size sh)) (fun _ _ ix _ => sh.2.1 - (intOf ix).toNat)
  case atStart => exact ⟨0, by omega, rfl, rfl, by rw [show partsTo (plainF S f) sh 0 = [] from rfl, List.append_nil]; exact H2.out, Hb2.out⟩
  case round =>
   obtain ⟨q, hq, rfl, rfl, HQ⟩ := hrel
   clear H2 Hb2 q0 q1 q2 q3 q4
   have hlen := partsTo_length (f := plainF S f) (fun j => hsml f j) sh q
   have hszn := Hszn.out
   have hxl : (xs ++ sh.1.data.toList ++ partsTo (plainF S f) sh q).length ≤ xs.length + 4100 := by simp only [List.length_append]; omega
   clear hszn
   by_cases hqc : q < sh.2.1
   ·have hqc' : (q : Int) < (sh.2.1 : Int) := by omega
    have hcq := HQ.out.2.box.part q (by omega)
    have hpq := Hg.out.part q hqc
    have hrow3 := HQ.out.1.row
    obtain ⟨z1, z2⟩ := sepT_size q
    have h63 : (xs ++ sh.1.data.toList ++ partsTo (plainF S f) sh q).length + (sepT q).size ≤ maxLen := by unfold maxLen; omega
    have hby : (xs ++ sh.1.data.toList ++ partsTo (plainF S f) sh q).length + (sepT q).size ≤ 140737488355328 := by omega
    have hbase : B ≤ wr.heap.size := Nat.le_trans hBw HQ.out.1.below.size
    have HN : Hid (partsTo (plainF S f) sh (q + 1) = partsTo (plainF S f) sh q ++ (sepT q).data.toList ++ plainF S f (partAt sh q)) := by show _ = _; rw [sepT_bytes]; rfl
    have hs1 : (⟨#[44, 32]⟩ : ByteArray) = sepT (q + 1) := rfl
    have Hs1 := hide hs1
    have Hpl := hide (hsml f (partAt sh q))
    clear hs1
    generalize hYs : xs ++ sh.1.data.toList ++ partsTo (plainF S f) sh q = ys at *
    have HYs := hide hYs
    clear hYs
    generalize sepT q = sq at *
    have Hz2 := hide z2
    clear z2
    generalize partAt sh q = pq at *
    go_upto_region 10 with (at_builtin; go_must (refine Lib.wpList_append_own_string _ rfl _ _ 186 9 rfl B 5 i0 Tryz.underlying186 Tryz.underlying9 hi0 hz0 hz1 hz2 _ _ _ rfl hrow3 sq rfl h63 hby hbase ?_); intro v3 w3 hown3 hg3 hnil3)
    have H3 := hide (HQ.out.1.put hZ hBw (by rw [← Hz2.out, ← strCells_bytes]; exact hown3) hg3)
    have Hb3 := hide (HQ.out.2.kept ((Kept.refl _).grown hrow3 hg3))
    clear hown3 hg3 hnil3
    have hl2 : sq.data.toList.length ≤ 2 := by rw [← Hz2.out]; exact z1
    have HC4 := hide (HF.out w3 v3 _ pq H3.out hpq (by simp only [List.length_append]; omega))
    clear hl2
    go_wp2_with (go_at_call 123; refine HC4.out.mono ?_; rintro e w4 ⟨v4, rfl, ht4⟩; have H4 := hide ht4; clear ht4)
    go_roundw
    case measure => simp [intOf]; omega
    case rel =>
     refine ⟨q + 1, by omega, by go_num, by rw [← Hs1.out], ?_, (Hb3.out.kept H4.out.kept)⟩
     have h4 := H4.out
     have h3 := H3.out
     have e : xs ++ sh.1.data.toList ++ partsTo (plainF S f) sh (q + 1) = ys ++ sq.data.toList ++ plainF S f pq := by rw [HN.out, ← HYs.out]; simp only [List.append_assoc]
     rw [e]
     exact ⟨h4.web, h4.row, h3.below.trans h4.below, h3.kept.trans h4.kept⟩
   ·obtain rfl : q = sh.2.1 := by omega
    have hge : ¬ (sh.2.1 : Int) < (sh.2.1 : Int) := by omega
    have H5 := hide (HQ.out.1.alloc hBw (.cells #[.int .u8 41] 5))
    have hrow5 := H5.out.row
    have hone : ∀ u ∈ ([.int .u8 41] : List Value), u.oneCell' = true := fun u hu => by
     simp at hu
     subst hu
     rfl
    have h63 : (xs ++ sh.1.data.toList ++ partsTo (plainF S f) sh sh.2.1).length + 1 ≤ maxLen := by unfold maxLen; omega
    have hby : ((xs ++ sh.1.data.toList ++ partsTo (plainF S f) sh sh.2.1).length + 1) * 1 ≤ 140737488355328 := by omega
    have hbase : B ≤ (wr.alloc (.cells #[.int .u8 41] 5)).heap.size := Nat.le_trans hBw H5.out.below.size
    have HE2 : Hid (xs ++ plainF S (f + 1) i = xs ++ sh.1.data.toList ++ partsTo (plainF S f) sh sh.2.1 ++ [41]) := by show _ = _; rw [HE.out]; simp only [List.append_assoc]
    clear HQ HE
    generalize xs ++ sh.1.data.toList ++ partsTo (plainF S f) sh sh.2.1 = ys at *
    go_wp2_with (at_builtin; go_must (refine wpList_append_lies _ rfl _ _ 186 rfl B 5 i0 (.int .u8 0) 1 1 Tryz.underlying186 hi0 hz0 hz1 hz2 rfl (by decide) _ _ _ rfl hrow5 ⟨wr.heap.size, 0, none⟩ 1 1 [.int .u8 41] rfl rfl (cell_one_new _ _ _) hone (by decide) h63 hby hbase _ rfl ?_); intro g6 cap6 w6 hown6 hg6 hat6 hlt6)
    go_ret
    refine ⟨_, rfl, ?_⟩
    rw [HE2.out]
    exact H5.out.put hZ hBw hown6 hg6
theorem plain_ok : ∀ f, PlainOK f
 | 0 => fun _ _ _ _ _ _ _ _ _ _ _ _ _ _ h => by omega
 | f + 1 => plain_succ f (plain_ok f)
end Go.Proofs.YtmfkpllnmmfpiaaGreatDoor

namespace Go.Proofs.YtmfkpllnmmfpiaaGreatDoor
open Go.RowKit
def partsL (s : Sh) : List Nat := (List.range s.2.1).map (partAt s)
def termTm (S : WS) : (f : Nat) → Nat → Tm (f + 2)
 | 0, i => Tm.mk (shapeAt S i).1 0 ((partsL (shapeAt S i)).map fun _ => (Tm.mk ⟨#[]⟩ 0 [] : Tm 1))
 | f + 1, i => Tm.mk (shapeAt S i).1 0 ((partsL (shapeAt S i)).map (termTm S f))
theorem info_readTerm : (Tryz.prog.info? 98).map (fun i => (i.zero, i.size, i.bytes)) = some (some (.agg #[.string ⟨#[]⟩, .int .i64 0, .slice none 0 0]), 3, 48) := by kernel_rfl
def PartTerm (wb : Nat) (n : Nat) (g : Nat → Tm n) (w0 : World) (k : Nat) : Prop :=
 ∀ w : World, Upd [] w0 w → Calls Tryz.prog 130 #[.pointer (some ⟨wb, 0, none⟩), .int .i64 k] w fun e w' => ∃ (a : ByteArray) (p : Int) (gq : Option Addr) (l cc : Nat), e = .returned (.agg #[.string a, .int .i64 p, .slice gq l cc]) ∧ Upd [] w w' ∧ IsTm w' (fun j => w.heap.size ≤ j) n (.string a, .int .i64 p, .slice gq l cc) (g k)
theorem own_geT {w : World} {base e size n k : Nat} {v : Value} {xs : List Value} (h : w.ownsRow base e size v n xs) (hk : v.ownBlock = some k) : base ≤ k := by
 rcases h.2 with ⟨hv, _⟩ | ⟨g, cap, cur, hv, hg, _⟩
 ·rw [hv] at hk; simp [Value.ownBlock] at hk
 ·rw [hv] at hk
  simp only [own_slice, Option.some.injEq] at hk
  subst hk
  exact hg
theorem own_base0 {w : World} {base e size n : Nat} {v : Value} {xs : List Value} (h : w.ownsRow base e size v n xs) : w.ownsRow 0 e size v n xs := ownsRow_base h fun _ _ => Nat.zero_le _
structure Terming (w wr : World) (s : Sh) (n : Nat) (g : Nat → Tm n) (v : Value) (j : Nat) : Prop where
 box : BoxSh wr (w.heap.size + 1) s
 r0 : ∀ o, o < 3 → ∃ u, wr.cell? ⟨w.heap.size, o, none⟩ = some u
 rf : ∀ o, wr.frozen? ⟨w.heap.size, o, none⟩ = false
 t0 : wr.cell? ⟨w.heap.size + 2, 0, none⟩ = some (.string s.1)
 t1 : wr.cell? ⟨w.heap.size + 2, 1, none⟩ = some (.int .i64 0)
 t2 : wr.cell? ⟨w.heap.size + 2, 2, none⟩ = some v
 tf : ∀ o, wr.frozen? ⟨w.heap.size + 2, o, none⟩ = false
 row : ∃ cs : List V3, wr.ownsRow (w.heap.size + 3) 98 3 v j (flat3 cs) ∧ AllIs (IsTm wr (fun k => w.heap.size + 3 ≤ k ∧ v.ownBlock ≠ some k) n) cs (((partsL s).take j).map g)
 upd : Upd [] w wr
 size : w.heap.size + 3 ≤ wr.heap.size
theorem Terming.next {w wr w2 w3 : World} {s : Sh} {n j g' cap : Nat} {g : Nat → Tm n} {v : Value} {cs : List V3} {c : V3} {X : Obj} {k : Nat} (h : Terming w wr s n g v j) (hk : (partsL s)[j]? = some k) (hrow : wr.ownsRow (w.heap.size + 3) 98 3 v j (flat3 cs)) (hall : AllIs (IsTm wr (fun k => w.heap.size + 3 ≤ k ∧ v.ownBlock ≠ some k) n) cs (((partsL s).take j).map g))
  (hu2 : Upd [] wr w2) (hc : IsTm w2 (fun k => wr.heap.size ≤ k) n c (g k))
  (hown : w3.ownsRow (w.heap.size + 3) 98 3 (.slice (some ⟨g', 0, none⟩) (j + 1) cap) (j + 1) (flat3 cs ++ [c.1, c.2.1, c.2.2])) (hgrow : (w2.alloc X).grownBy w3 v.ownBlock) (hat : v.ownBlock = some g' ∨ g' = (w2.alloc X).heap.size) :
  Terming w (w3.setCell ⟨w.heap.size + 2, 2, none⟩ (.slice (some ⟨g', 0, none⟩) (j + 1) cap)) s n g (.slice (some ⟨g', 0, none⟩) (j + 1) cap) (j + 1) := by
 have hsz := h.size
 have hge : ∀ q, v.ownBlock = some q → w.heap.size + 3 ≤ q ∧ q < wr.heap.size := fun q hq => ⟨by
  rcases hrow.2 with ⟨hv, _⟩ | ⟨g, cap, cur, hv, hg, _⟩
  ·rw [hv] at hq; simp [Value.ownBlock] at hq
  ·rw [hv] at hq; cases hq; exact hg, ownsRow_lt hrow hq⟩
 have U1 : Upd v.ownBlock.toList w2 w3 := ((Upd.refl v.ownBlock.toList w2).alloc X).trans (Upd.of_grown hgrow)
 have U : Upd v.ownBlock.toList wr w3 := (hu2.mono (fun x hx _ => by cases hx)).trans U1
 have no : ∀ q, q < w.heap.size + 3 → q ∉ v.ownBlock.toList := fun q hq hm => by
  have := hge q (by simpa using hm)
  omega
 have hg3 : w.heap.size + 3 ≤ g' := by
  rcases hown.2 with ⟨hv, _⟩ | ⟨g, cap, cur, hv, hg, _⟩
  ·cases hv
  ·cases hv; exact hg
 have US : Upd [w.heap.size + 2] w3 (w3.setCell ⟨w.heap.size + 2, 2, none⟩ (.slice (some ⟨g', 0, none⟩) (j + 1) cap)) := (Upd.refl _ w3).setCell (by simp) _
 have h3l : w.heap.size + 2 < w3.heap.size := by have := U.size; omega
 have a0 := (U.cell (p := ⟨w.heap.size + 2, 0, none⟩) (by show w.heap.size + 2 < _; omega) (no (w.heap.size + 2) (by omega))).trans h.t0
 have a1 := (U.cell (p := ⟨w.heap.size + 2, 1, none⟩) (by show w.heap.size + 2 < _; omega) (no (w.heap.size + 2) (by omega))).trans h.t1
 have a2 := (U.cell (p := ⟨w.heap.size + 2, 2, none⟩) (by show w.heap.size + 2 < _; omega) (no (w.heap.size + 2) (by omega))).trans h.t2
 refine ⟨(h.box.later U (no _ (by omega))).later US (by simp), fun o ho => ?_, fun o => ?_, by go_simp, by go_simp, by go_simp, fun o => ?_, ⟨cs ++ [c], ?_, ?_⟩, ?_, ?_⟩
 ·obtain ⟨u, hu⟩ := h.r0 o ho
  exact ⟨u, ((US.cell (p := ⟨w.heap.size, o, none⟩) (by show w.heap.size < _; omega) (by simp)).trans ((U.cell (p := ⟨w.heap.size, o, none⟩) (by show w.heap.size < _; omega) (no w.heap.size (by omega))).trans hu))⟩
 ·exact (US.frozen (p := ⟨w.heap.size, o, none⟩) (by show w.heap.size < _; omega) (by simp)).trans ((U.frozen (p := ⟨w.heap.size, o, none⟩) (by show w.heap.size < _; omega) (no w.heap.size (by omega))).trans (h.rf o))
 ·rw [World.frozen?_setCell]
  exact (U.frozen (p := ⟨w.heap.size + 2, o, none⟩) (by show w.heap.size + 2 < _; omega) (no (w.heap.size + 2) (by omega))).trans (h.tf o)
 ·rw [flat3_append]
  exact US.ownsRow hown (fun q hq hm => by simp only [own_slice, Option.some.injEq] at hq; simp only [List.mem_singleton] at hm; omega)
 ·have hlt := (List.getElem?_eq_some_iff.1 hk).1
  rw [List.getElem?_eq_getElem hlt] at hk
  rw [List.take_succ_eq_append_getElem hlt, Option.some.inj hk, List.map_append]
  have hz2 := hu2.size
  have hfr : ∀ q, (w.heap.size + 3 ≤ q ∧ v.ownBlock ≠ some q) ∧ q < wr.heap.size → w.heap.size + 3 ≤ q ∧ (Value.slice (some ⟨g', 0, none⟩) (j + 1) cap).ownBlock ≠ some q := fun q hq => ⟨hq.1.1, fun e => by
   simp only [own_slice, Option.some.injEq] at e
   subst e
   rcases hat with hat | hat
   ·exact hq.1.2 hat
   ·simp at hat; omega⟩
  refine AllIs.snoc ?_ ?_
  ·have h1 : IsTm w2 (fun k => wr.heap.size ≤ k ∧ k < w2.heap.size) n c (g k) := hc.mono fun q hq hl => ⟨hq, hl⟩
   have h2 := h1.later U1 (fun q hq hm => by have := hge q (by simpa using hm); omega)
   refine (h2.later US (fun q hq hm => by simp only [List.mem_singleton] at hm; omega)).mono (fun q hq _ => ⟨by omega, fun e => ?_⟩)
   simp only [own_slice, Option.some.injEq] at e
   subst e
   rcases hat with hat | hat
   ·have := hge _ hat; omega
   ·simp at hat; omega
  ·refine hall.mono fun a b hab => ?_
   have h1 : IsTm wr (fun k => (w.heap.size + 3 ≤ k ∧ v.ownBlock ≠ some k) ∧ k < wr.heap.size) n a b := hab.mono fun q hq hl => ⟨hq, hl⟩
   have h2 := h1.later U (fun q hq hm => hq.1.2 (by simpa using hm))
   exact (h2.later US (fun q hq hm => by simp only [List.mem_singleton] at hm; omega)).mono (fun q hq _ => hfr q hq)
 ·refine (h.upd.trans' U (fun x hx hl => ?_)).setCell (.inr (by show w.heap.size ≤ w.heap.size + 2; omega)) _
  have := hge x (by simpa using hx)
  omega
 ·have := U.size
  simp [World.setCell]
  omega
theorem partsL_get {s : Sh} {q : Nat} (h : q < s.2.1) : (partsL s)[q]? = some (partAt s q) := by
 unfold partsL
 rw [List.getElem?_map, List.getElem?_range h]
 rfl
theorem partsL_length (s : Sh) : (partsL s).length = s.2.1 := by simp [partsL]
set_option maxHeartbeats 4000000 in
set_option maxRecDepth 100000 in
theorem term_step (w : World) (wb : Nat) (H : Hd) (Z : Nat → Prop) (S : WS) (i n : Nat) (g : Nat → Tm n) (h : WebAt w wb H Z S) (hB : Base S) (hi : i < S.shapes.length) (hT : ∀ k, k < i → PartTerm wb n g w k) :
  Calls Tryz.prog 130 #[.pointer (some ⟨wb, 0, none⟩), .int .i64 i] w fun e w' => ∃ (a : ByteArray) (p : Int) (gq : Option Addr) (l cc : Nat), e = .returned (.agg #[.string a, .int .i64 p, .slice gq l cc]) ∧ Upd [] w w' ∧ IsTm w' (fun j => w.heap.size ≤ j) (n + 1) (.string a, .int .i64 p, .slice gq l cc) (Tm.mk (shapeAt S i).1 0 ((partsL (shapeAt S i)).map g)) := by
 obtain ⟨i0, hi0, hz0, hz1, hz2⟩ := info_parts info_readTerm
 have hsh := shapeAt_some hi
 have hg := hB.good i _ hsh
 obtain ⟨gs, cap, hd, hcap, hmax⟩ : ∃ g cap, H.shapes = .slice (some ⟨g, 0, none⟩) S.shapes.length cap ∧ S.shapes.length ≤ cap ∧ cap ≤ maxLen := by
  rcases ownsRow_slice h.rs with ⟨_, h0⟩ | hh
  ·omega
  ·exact hh
 have c1 := h.c1
 rw [hd] at c1
 have hrs := h.rs
 rw [hd] at hrs
 obtain ⟨k0, k1, k2, k3, k4⟩ := row5_cells hrs hsh
 have hgl : gs < w.heap.size := ownsRow_lt hrs rfl
 have UR := (Upd.refl [] w).alloc (.cells #[.string ⟨#[]⟩, .int .i64 0, .slice none 0 0] 98)
 have c1' := (UR.cell (p := ⟨wb, 2, none⟩) h.lt (by simp)).trans c1
 have k0' := (UR.cell (p := ⟨gs, i * 5, none⟩) hgl (by simp)).trans k0
 have k1' := (UR.cell (p := ⟨gs, i * 5 + 1, none⟩) hgl (by simp)).trans k1
 have k2' := (UR.cell (p := ⟨gs, i * 5 + 2, none⟩) hgl (by simp)).trans k2
 have k3' := (UR.cell (p := ⟨gs, i * 5 + 3, none⟩) hgl (by simp)).trans k3
 have k4' := (UR.cell (p := ⟨gs, i * 5 + 4, none⟩) hgl (by simp)).trans k4
 have hi' : (i : Int) < (S.shapes.length : Int) := by omega
 have hcnt := hg.count
 have hc3 : ((shapeAt S i).2.1 : Int) ≤ 3 := by omega
 have HT := hide hT
 have Hg := hide hg
 clear hsh hrs hd h hB hg hT k0 k1 k2 k3 k4 c1 UR
 generalize shapeAt S i = s at *
 have hstart : Terming w (((w.alloc (.cells #[.string ⟨#[]⟩, .int .i64 0, .slice none 0 0] 98)).alloc (.cells #[.string s.1, .int .i64 s.2.1, .int .i64 s.2.2.1, .int .i64 s.2.2.2.1, .int .i64 s.2.2.2.2] 141)).alloc (.cells #[.string s.1, .int .i64 0, .slice none 0 0] 98)) s n g (.slice none 0 0) 0 := by
  have U3 := (((Upd.refl [] w).alloc (.cells #[.string ⟨#[]⟩, .int .i64 0, .slice none 0 0] 98)).alloc (.cells #[.string s.1, .int .i64 s.2.1, .int .i64 s.2.2.1, .int .i64 s.2.2.2.1, .int .i64 s.2.2.2.2] 141)).alloc (.cells #[.string s.1, .int .i64 0, .slice none 0 0] 98)
  refine ⟨⟨by simp, by go_simp, by go_simp, by go_simp, by go_simp, by go_simp⟩, fun o ho => ?_, fun o => by go_simp, by go_simp, by go_simp, by go_simp, fun o => by go_simp, ⟨[], World.ownsRow_nil _ _ _ _, trivial⟩, U3, by simp⟩
  match o, ho with
  | 0, _ => exact ⟨.string ⟨#[]⟩, by go_simp⟩
  | 1, _ => exact ⟨.int .i64 0, by go_simp⟩
  | 2, _ => exact ⟨.slice none 0 0, by go_simp⟩
  | o + 3, ho => omega
 go_enter Tryz.func130, Tryz.ntmps130
 go_wp2
 generalize ((w.alloc (.cells #[.string ⟨#[]⟩, .int .i64 0, .slice none 0 0] 98)).alloc (.cells #[.string s.1, .int .i64 s.2.1, .int .i64 s.2.2.1, .int .i64 s.2.2.2.1, .int .i64 s.2.2.2.2] 141)).alloc (.cells #[.string s.1, .int .i64 0, .slice none 0 0] 98) = W1 at hstart ⊢
 go_loopw [24] (fun ix wr => ∃ q : Nat, q ≤ s.2.1 ∧ ix = .int .i64 q ∧ Hid (∃ v, Terming w wr s n g v q)) (fun ix _ => s.2.1 - (intOf ix).toNat)
 case atStart => exact ⟨0, Nat.zero_le _, rfl, _, hstart⟩
 case round =>
  obtain ⟨q, hq, rfl, HQ⟩ := hrel
  clear hstart c1' k0' k1' k2' k3' k4'
  obtain ⟨v, ht⟩ := HQ.out
  clear HQ
  obtain ⟨cs, hrow, hall⟩ := ht.row
  obtain ⟨gv, capv, hv⟩ := slice_len hrow
  by_cases hqc : q < s.2.1
  ·have hqc' : (q : Int) < (s.2.1 : Int) := by omega
   have hcq := ht.box.part q (by omega)
   have hpq := Hg.out.part q hqc
   have HC := hide (HT.out _ hpq)
   have Hk := hide (partsL_get hqc)
   generalize partAt s q = pq at *
   have t2 := ht.t2
   have tf := ht.tf
   have hsz := ht.size
   subst hv
   have HK : Hid (∀ w2, Upd [] wr.drew w2 → ∀ X : Obj, w2.cell? ⟨w.heap.size + 2, 2, none⟩ = some (.slice gv q capv) ∧ (w2.alloc X).cell? ⟨w.heap.size + 2, 2, none⟩ = some (.slice gv q capv) ∧ (w2.alloc X).ownsRow (w.heap.size + 3) 98 3 (.slice gv q capv) q (flat3 cs) ∧ w.heap.size + 3 ≤ (w2.alloc X).heap.size ∧ (∀ w3, (w2.alloc X).grownBy w3 (Value.slice gv q capv).ownBlock → w3.cell? ⟨w.heap.size + 2, 2, none⟩ = some (.slice gv q capv) ∧ ∀ o, w3.frozen? ⟨w.heap.size + 2, o, none⟩ = false)) := fun w2 hu2 X => by
    have U : Upd [] wr w2 := (Upd.refl [] wr).drew.trans hu2
    have hl : w.heap.size + 2 < wr.heap.size := by omega
    have e1 := (U.cell (p := ⟨w.heap.size + 2, 2, none⟩) hl (by simp)).trans t2
    have e2 := ((U.alloc X).cell (p := ⟨w.heap.size + 2, 2, none⟩) hl (by simp)).trans t2
    refine ⟨e1, e2, (U.alloc X).ownsRow hrow (fun _ _ => by simp), Nat.le_trans hsz (U.alloc X).size, fun w3 hgr => ?_⟩
    have UG : Upd (Value.slice gv q capv).ownBlock.toList wr w3 := ((U.alloc X).mono (fun x hx _ => by cases hx)).trans (Upd.of_grown hgr)
    have hn : w.heap.size + 2 ∉ (Value.slice gv q capv).ownBlock.toList := fun hm => by
     have hm' : (Value.slice gv q capv).ownBlock = some (w.heap.size + 2) := by simpa using hm
     rcases hrow.2 with ⟨hv, _⟩ | ⟨g, cap, cur, hv, hg, _⟩
     ·rw [hv] at hm'; simp [Value.ownBlock] at hm'
     ·rw [hv] at hm'; simp only [own_slice, Option.some.injEq] at hm'; omega
    exact ⟨(UG.cell (p := ⟨w.heap.size + 2, 2, none⟩) hl hn).trans t2, fun o => (UG.frozen (p := ⟨w.heap.size + 2, o, none⟩) hl hn).trans (tf o)⟩
   have Ht := hide ht
   have Hrow := hide hrow
   have Hall := hide hall
   have hup := ht.upd
   have HCw := hide (HC.out wr.drew hup.drew)
   have hlm : q + 1 ≤ maxLen := by unfold maxLen; omega
   have hlb : (q + 1) * 48 ≤ 140737488355328 := by omega
   clear ht hrow hall hup HC
   go_wp2_with fail
   go_region_law (first
    | (refine step_append_lies _ (by rfl) _ _ 96 (by rfl) (w.heap.size + 3) 98 i0 (.agg #[.string ⟨#[]⟩, .int .i64 0, .slice none 0 0]) 3 48 Tryz.underlying96 hi0 hz0 hz1 hz2 (by rfl) (by decide) (.slice gv q capv) q (flat3 cs) (by rfl) m3 ⟨w2.heap.size, 0, none⟩ 1 1 [.string a2, .int .i64 p2, .slice g2 l2 d2] (by rfl) (by rfl) mnews mone (by decide) hlm hlb m4 _ (by rfl) ?_; intro g6 cap6 w6 hown6 hgrow6 hat6 hlt6; obtain ⟨n1, n2⟩ := Hm5.out w6 hgrow6)
    | (go_simp; go_at_call 130; refine HCw.out.mono ?_; rintro e w2 ⟨a2, p2, g2, l2, d2, rfl, hu2, hc2⟩; obtain ⟨m1, m2, m3, m4, m5⟩ := HK.out w2 hu2 (.cells #[.string a2, .int .i64 p2, .slice g2 l2 d2] 98); have Hm5 := hide m5; have Hu2 := hide hu2; have Hc2 := hide hc2; have mnews : ∀ j u, [Value.string a2, .int .i64 p2, .slice g2 l2 d2][j]? = some u → (w2.alloc (.cells #[.string a2, .int .i64 p2, .slice g2 l2 d2] 98)).cell? ((⟨w2.heap.size, 0, none⟩ : Addr).add j) = some u := World.news_of_block (heap_alloc_new w2 _); have mone : ∀ u ∈ [Value.string a2, .int .i64 p2, .slice g2 l2 d2], u.oneCell' = true := (by intro u hu'; simp at hu'; rcases hu' with rfl | rfl | rfl <;> rfl); clear m5 hu2 hc2))
   all_goals (
    go_wp2
    refine ⟨⟨q + 1, by omega, by go_num, _, Ht.out.next Hk.out Hrow.out Hall.out ((Upd.refl [] wr).drew.trans Hu2.out) Hc2.out hown6 hgrow6 hat6⟩, by simp [intOf]; omega⟩)
  ·obtain rfl : q = s.2.1 := by omega
   have hge : ¬ ((s.2.1 : Nat) : Int) < (s.2.1 : Int) := by omega
   obtain ⟨z0, r0⟩ := ht.r0 0 (by omega)
   obtain ⟨z1, r1⟩ := ht.r0 1 (by omega)
   obtain ⟨z2, r2⟩ := ht.r0 2 (by omega)
   have rf := ht.rf
   have t0 := ht.t0
   have t1 := ht.t1
   have t2 := ht.t2
   have hsz := ht.size
   have Ht := hide ht
   have Hrow := hide hrow
   have Hall := hide hall
   subst hv
   clear ht hrow hall
   go_wp2
   have U3 : Upd [w.heap.size] wr (((wr.setCell ⟨w.heap.size, 0, none⟩ (.string s.1)).setCell ⟨w.heap.size, 1, none⟩ (.int .i64 0)).setCell ⟨w.heap.size, 2, none⟩ (.slice gv s.2.1 capv)) := (((Upd.refl [w.heap.size] wr).setCell (p := ⟨w.heap.size, 0, none⟩) (by simp) _).setCell (p := ⟨w.heap.size, 1, none⟩) (by simp) _).setCell (p := ⟨w.heap.size, 2, none⟩) (by simp) _
   refine bodyPost_ret (v := .agg #[.string s.1, .int .i64 0, .slice gv s.2.1 capv]) (by simp [results, Tryz.results130, go_sem, r0, r1, r2]) rfl ⟨_, _, _, _, _, rfl, Ht.out.upd.trans' U3 (fun x hx hl => by simp only [List.mem_singleton] at hx; omega), rfl, rfl, cs, ?_, ?_, ?_⟩
   ·have hr := U3.ownsRow Hrow.out (fun k hk hm => by
     have := own_geT Hrow.out hk
     simp only [List.mem_singleton] at hm
     omega)
    have e : (Tm.mk s.1 0 (List.map g (partsL s))).parts.length = s.2.1 := by show (List.map g (partsL s)).length = _; rw [List.length_map, partsL_length]
    rw [e]
    exact own_base0 hr
   ·intro k hk
    have := own_geT Hrow.out hk
    omega
   ·have ha := Hall.out
    rw [List.take_of_length_le (by rw [partsL_length]; exact Nat.le_refl _)] at ha
    refine ha.mono fun a b hab => (hab.later U3 (fun k hk hm => ?_)).mono (fun k hk _ => ?_)
    ·simp only [List.mem_singleton] at hm
     omega
    ·have := hk.1
     omega
theorem webTerm_ok (S : WS) (wb : Nat) (H : Hd) (Z : Nat → Prop) (hB : Base S) : ∀ (f i : Nat), i ≤ f → i < S.shapes.length → ∀ w, WebAt w wb H Z S → PartTerm wb (f + 2) (termTm S f) w i
 | 0, i, hif, hi, w, hw => fun W hu => by
  obtain rfl : i = 0 := by omega
  exact term_step W wb H Z S 0 1 _ (hw.later hu (fun _ _ => by simp)) hB hi (fun k hk => by omega)
 | f + 1, i, hif, hi, w, hw => fun W hu => by
  have hW := hw.later hu (fun _ _ => by simp)
  exact term_step W wb H Z S i (f + 2) (termTm S f) hW hB hi (fun k hk => webTerm_ok S wb H Z hB f k (by omega) (by omega) W hW)
end Go.Proofs.YtmfkpllnmmfpiaaGreatDoor
