/- RefLaid, RefClasses -/
import Derived.Test.YtmfkpllnmmfpiaaGreatDoorRefClassLawH
import Derived.Test.YtmfkpllnmmfpiaaGreatDoorLawSaidH
import Derived.Sort.Walk0
import Derived.OwnWalk
import Derived.Deep.CutBlock
namespace Go.Proofs.YtmfkpllnmmfpiaaGreatDoor
open Go.RowKit
theorem less_is (a b : ByteArray) : Op.bytesLess a.toList b.toList = decide (bLt a b) := by
 rw [bytesLess_eq]
 unfold bLt
 simp [ByteArray.toList_eq]
theorem takeWhile_len {α : Type} {p : α → Bool} : ∀ {l : List α} {j : Nat}, (∀ q x, q < j → l[q]? = some x → p x = true) → (j = l.length ∨ ∃ x, l[j]? = some x ∧ p x = false) → l.takeWhile p = l.take j ∧ l.dropWhile p = l.drop j
 | [], j, _, h => by
  rcases h with rfl | ⟨x, hx, _⟩
  ·simp
  ·simp at hx
 | a :: l, 0, _, h => by
  rcases h with h | ⟨x, hx, hp⟩
  ·simp at h
  ·simp at hx
   subst hx
   simp [hp]
 | a :: l, j + 1, hq, h => by
  have ha := hq 0 a (by omega) (by simp)
  obtain ⟨e1, e2⟩ := takeWhile_len (p := p) (l := l) (j := j) (fun q x hlt hx => hq (q + 1) x (by omega) (by simpa using hx)) (by
   rcases h with h | ⟨x, hx, hp⟩
   ·left; simpa using h
   ·right; exact ⟨x, by simpa using hx, hp⟩)
  simp [ha, e1, e2]
theorem laidR_at {l : List ByteArray} {s : ByteArray} {j : Nat} (h1 : ∀ q x, q < j → l[q]? = some x → bLt x s) (h2 : j = l.length ∨ ∃ x, l[j]? = some x ∧ ¬ bLt x s) : laidR l s = l.take j ++ s :: l.drop j := by
 obtain ⟨e1, e2⟩ := takeWhile_len (p := fun x => decide (bLt x s)) (l := l) (j := j) (fun q x hq hx => by simpa using h1 q x hq hx) (h2.imp id fun ⟨x, hx, hp⟩ => ⟨x, hx, by simpa using hp⟩)
 unfold laidR
 rw [e1, e2]
theorem append_emptyS (a : Option Addr) (cap : Nat) (ty : TypeId) (W : World) : (Builtin.append_ #[50, 50] ty #[.slice none 0 0, .slice a 0 cap]).run Tryz.prog W = .ok (.slice none 0 0) W := by
 obtain ⟨i0, hi, hz0, hz1, hz2⟩ := info_parts info_str
 cases a with
 | none => simp [Builtin.append_, run_underlying Tryz.underlying50, sizeOf, typeInfo, hi, Builtin.lenOf, Builtin.firstCells]
 | some a => simp [Builtin.append_, run_underlying Tryz.underlying50, sizeOf, typeInfo, hi, Builtin.lenOf, Builtin.firstCells, loadCells, loadCellsFrom]
theorem wpList_append_emptyS {w : World} {ops : Array Oper} {rest : List Oper} {o : Oper} {a : Act} {Q : Exit → Act → World → Prop} (hgd : o.guard = none) (s x : Operand)
  (ho : o.op = .call { callee := .builtin .append, args := #[s, x], argTypes := #[50, 50] }) (ad : Option Addr) (cap : Nat)
  (hs : a.eval s = .slice none 0 0) (hx : a.eval x = .slice ad 0 cap)
  (h : wpList Tryz.prog ops Q rest (a.put o.dst (.slice none 0 0)) w) : wpList Tryz.prog ops Q (o :: rest) a w := by
 refine wpList_plain hgd fun K hK => ?_
 have hrun := append_emptyS ad cap o.type w
 unfold Oper.wp
 simp [execOp, ho, resolve, invoke, builtin, hs, hx, hrun, Result.andThen]
 exact hK _ _ h
theorem strRow_form2 {w : World} {base : Nat} {v : Value} {l : List ByteArray} (h : StrRow w base v l) : ∃ a cap, v = .slice a l.length cap ∧ l.length ≤ cap ∧ cap ≤ maxLen ∧ (a = none → cap = 0) ∧ (0 < l.length → ∃ g, a = some ⟨g, 0, none⟩ ∧ g < w.heap.size ∧ ∀ (i : Nat) (t : ByteArray), l[i]? = some t → w.cell? ⟨g, i, none⟩ = some (.string t)) := by
 rcases ownsRow_slice h with ⟨h1, h2⟩ | ⟨g, cap, h1, h2, h3⟩
 ·rw [h2]
  exact ⟨none, 0, h1, Nat.le_refl _, by simp [maxLen], fun _ => rfl, fun h => absurd h (Nat.lt_irrefl _)⟩
 ·subst h1
  refine ⟨_, cap, rfl, h2, h3, fun e => (by cases e), fun _ => ⟨g, rfl, ownsRow_lt h rfl, fun i t ht => ?_⟩⟩
  have hi := (List.getElem?_eq_some_iff.1 ht).1
  have := h.cellAt i (by omega)
  rw [this]
  simp [ht]
set_option maxHeartbeats 4000000 in
set_option maxRecDepth 100000 in
theorem refLaid_any (w : World) (B : Nat) (v : Value) (l : List ByteArray) (s : ByteArray) (h : StrRow w B v l) (hl : l.length ≤ 100000) :
  Calls Tryz.prog 102 #[v, .string s] w fun e w' => ∃ v', e = .returned v' ∧ Upd [] w w' ∧ StrRow w' w.heap.size v' (laidR l s) := by
 obtain ⟨i0, hi, hz0, hz1, hz2⟩ := info_parts info_str
 obtain ⟨a, cap, hv, hc1, hc2, hnil, hform⟩ := strRow_form2 h
 have Hnil := hide hnil
 subst hv
 obtain ⟨n, hn⟩ : ∃ n, l.length = n := ⟨_, rfl⟩
 rw [hn] at hc1 hform hl ⊢
 have Hn := hide hn
 have Hform := hide hform
 unfold maxLen at hc2
 clear h hn hform hnil
 go_enter Tryz.func102, Tryz.ntmps102
 go_upto_block 0 with fail
 go_cut [5] (fun p wx => ∃ j : Nat, j ≤ n ∧ p = .int .i64 j ∧ wx = w ∧ Hid (laidR l s = l.take j ++ s :: l.drop j))
 case first =>
  go_wp2_with fail
  go_loopw [5] (fun i wr => ∃ j : Nat, j ≤ n ∧ i = .int .i64 j ∧ wr = w ∧ Hid (∀ q x, q < j → l[q]? = some x → bLt x s)) (fun i _ => n - (intOf i).toNat)
  case atStart => exact ⟨0, Nat.zero_le _, rfl, rfl, fun q x hq => by omega⟩
  case round =>
   obtain ⟨j, hj, rfl, rfl, HJ⟩ := hrel
   by_cases hjn : j < n
   ·have hjI : (j : Int) < (n : Int) := by omega
    obtain ⟨x, hx⟩ : ∃ x, l[j]? = some x := ⟨_, List.getElem?_eq_getElem (by rw [Hn.out]; exact hjn)⟩
    obtain ⟨g, rfl, _, hg3⟩ := Hform.out (by omega)
    have q0 := hg3 j x hx
    have hls := less_is x s
    by_cases hb : bLt x s
    ·have hls2 : Op.bytesLess x.toList s.toList = true := by rw [hls]; simpa using hb
     have HN : Hid (∀ q y, q < j + 1 → l[q]? = some y → bLt y s) := fun q y hq hy => by
      by_cases e : q < j
      ·exact HJ.out q y e hy
      ·obtain rfl : q = j := by omega
       rw [hx] at hy
       obtain rfl := Option.some.inj hy
       exact hb
     clear hls hg3 hx hb
     go_wp2
     refine ⟨⟨j + 1, by omega, by simp, trivial, HN⟩, ?_⟩
     simp [intOf]
     omega
    ·have hls2 : Op.bytesLess x.toList s.toList = false := by rw [hls]; simpa using hb
     have HL : Hid (laidR l s = l.take j ++ s :: l.drop j) := laidR_at HJ.out (.inr ⟨x, hx, hb⟩)
     clear hls hg3 hx hb
     go_wp2_with fail
     go_meet
     case rel => exact ⟨j, by omega, rfl, rfl, HL.out⟩
   ·have hjI : ¬ (j : Int) < (n : Int) := by omega
    have HL : Hid (laidR l s = l.take j ++ s :: l.drop j) := laidR_at HJ.out (.inl (by rw [Hn.out]; omega))
    go_wp2_with fail
    go_meet
    case rel => exact ⟨j, by omega, rfl, rfl, HL.out⟩
 case rest =>
  obtain ⟨j, hj, rfl, hwc, HL⟩ := hcut
  rw [hwc]
  clear hwc wc
  have hjl : (l.take j).length = j := by rw [List.length_take, Hn.out]; omega
  have Hjl := hide hjl
  clear hjl
  go_upto_region 5 with fail
  go_cut [6] (fun mv wx => Hid (StrRow wx w.heap.size mv (l.take j) ∧ Upd [] w wx))
  case first =>
   by_cases hj0 : j = 0
   ·subst hj0
    go_wp2_with (at_builtin; refine wpList_append_emptyS rfl _ _ rfl _ _ rfl rfl ?_)
    go_meet
    case rel => exact ⟨⟨rfl, .inl ⟨rfl, rfl⟩⟩, Upd.refl _ _⟩
   ·have hpos : 0 < j := by omega
    obtain ⟨g0, rfl, hg1, hg3⟩ := Hform.out (by omega)
    have hnews0 : Hid (∀ q u, ((l.take j).map Value.string)[q]? = some u → w.cell? ((⟨g0, 0, none⟩ : Addr).add q) = some u) := fun q u hu => by
     rw [List.getElem?_map] at hu
     obtain ⟨c, hc, rfl⟩ := Option.map_eq_some_iff.1 hu
     have hqj : q < j := by have := (List.getElem?_eq_some_iff.1 hc).1; rw [Hjl.out] at this; exact this
     rw [List.getElem?_take_of_lt hqj] at hc
     have := hg3 q c hc
     cases q <;> simpa [Addr.add] using this
    have hone0 : Hid (∀ u ∈ (l.take j).map Value.string, u.oneCell' = true) := fun u hu => by
     obtain ⟨c, _, rfl⟩ := List.mem_map.1 hu
     rfl
    have hlen0 : Hid (((l.take j).map Value.string).length = j * 1) := by show _ = _; rw [List.length_map, Hjl.out]; omega
    have Hrow0 : Hid (w.ownsRow w.heap.size 9 1 (.slice none 0 0) 0 []) := ⟨rfl, .inl ⟨rfl, rfl⟩⟩
    have hlm0 : 0 + j ≤ maxLen := by unfold maxLen; omega
    have hlb0 : (0 + j) * 16 ≤ 140737488355328 := by omega
    have hcap0 : ¬ cap = 0 := by omega
    clear hg3 hg1
    go_wp2_with (at_builtin; go_must (refine wpList_append_lies _ rfl _ _ 50 rfl w.heap.size 9 i0 (.string ⟨#[]⟩) 1 16 Tryz.underlying50 hi hz0 hz1 hz2 rfl (by decide) _ _ _ rfl Hrow0.out ⟨g0, 0, none⟩ j cap ((l.take j).map Value.string) rfl hlen0.out hnews0.out hone0.out hpos hlm0 hlb0 (Nat.le_refl _) _ rfl ?_); intro g1 cap1 w1 hown1 hgrow1 hat1 hlt1)
    go_meet
    case rel =>
     refine ⟨?_, Upd.of_grown hgrow1⟩
     unfold StrRow
     rw [Hjl.out]
     simpa using hown1
  case rest =>
   obtain ⟨hown, hU⟩ := hcut.out
   have hs3 := hU.size
   have hrw := ((Upd.refl [] wc).alloc (.cells #[.string s] 9)).ownsRow hown (fun _ _ => by simp)
   rw [Hjl.out] at hrw
   have Hrw := hide hrw
   have Hnews : Hid (∀ q u, [Value.string s][q]? = some u → (wc.alloc (.cells #[.string s] 9)).cell? ((⟨wc.heap.size, 0, none⟩ : Addr).add q) = some u) := World.news_of_block (heap_alloc_new _ _)
   have hone : Hid (∀ u ∈ [Value.string s], u.oneCell' = true) := (fun u hu' => by simp at hu'; subst hu'; rfl)
   have Hfin : Hid (∀ g cp w3, (wc.alloc (.cells #[.string s] 9)).grownBy w3 u6.ownBlock → w3.ownsRow w.heap.size 9 1 (.slice (some ⟨g, 0, none⟩) (j + 1) cp) (j + 1) ((l.take j).map Value.string ++ [.string s]) → Upd [] w w3 ∧ w3.ownsRow w.heap.size 9 1 (.slice (some ⟨g, 0, none⟩) (j + 1) cp) (j + 1) ((l.take j ++ [s]).map Value.string)) := fun g cp w3 hg ho => by
    refine ⟨(hU.alloc _).trans' (Upd.of_grown hg) (fun k hk hl => ?_), by simpa using ho⟩
    have := own_geT hown (show u6.ownBlock = some k by simpa using hk)
    omega
   have hlm : j + 1 ≤ maxLen := by unfold maxLen; omega
   have hlb : (j + 1) * 16 ≤ 140737488355328 := by omega
   clear hcut hrw hU hown
   go_upto_region 7 with (at_builtin; go_must (refine wpList_append_lies _ rfl _ _ 50 rfl w.heap.size 9 i0 (.string ⟨#[]⟩) 1 16 Tryz.underlying50 hi hz0 hz1 hz2 rfl (by decide) _ _ _ rfl Hrw.out ⟨wc.heap.size, 0, none⟩ 1 1 [.string s] rfl rfl Hnews.out hone.out (by decide) hlm hlb (by simp; omega) _ rfl ?_); intro g3 cap3 w3 hown3 hgrow3 hat3 hlt3)
   obtain ⟨hu3, ho3⟩ := Hfin.out g3 cap3 w3 hgrow3 hown3
   have Hu3 := hide hu3
   have Ho3 := hide ho3
   have hk3 : j + 1 ≤ cap3 := by
    rcases ownsRow_slice ho3 with ⟨x, _⟩ | ⟨_, _, x, y, _⟩
    ·cases x
    ·cases x; exact y
   clear hu3 ho3 hown3 hgrow3 hat3 hlt3 Hfin Hrw Hnews hone
   by_cases hjn : j < n
   ·obtain ⟨g0, rfl, hg1, hg3⟩ := Hform.out (by omega)
    have hdl : (l.drop j).length = n - j := by rw [List.length_drop, Hn.out]
    have hnews0 : Hid (∀ q u, ((l.drop j).map Value.string)[q]? = some u → w3.cell? ((⟨g0, j, none⟩ : Addr).add q) = some u) := fun q u hu => by
     rw [List.getElem?_map] at hu
     obtain ⟨c, hc, rfl⟩ := Option.map_eq_some_iff.1 hu
     rw [List.getElem?_drop] at hc
     have := (Hu3.out.cell (p := ⟨g0, j + q, none⟩) hg1 (by simp)).trans (hg3 (j + q) c hc)
     cases q <;> simpa [Addr.add] using this
    have hone0 : Hid (∀ u ∈ (l.drop j).map Value.string, u.oneCell' = true) := fun u hu => by
     obtain ⟨c, _, rfl⟩ := List.mem_map.1 hu
     rfl
    have hlen0 : Hid (((l.drop j).map Value.string).length = (n - j) * 1) := by show _ = _; rw [List.length_map, hdl]; omega
    have hlm0 : j + 1 + (n - j) ≤ maxLen := by unfold maxLen; omega
    have hlb0 : (j + 1 + (n - j)) * 16 ≤ 140737488355328 := by omega
    have hcj : ¬ cap = j := by omega
    have hpos : 0 < n - j := by omega
    have hs03 := Hu3.out.size
    have hjI : (j : Int) ≤ (n : Int) := by omega
    have HR : Hid (∀ g cp w4, w3.grownBy w4 (some g3) → w4.ownsRow w.heap.size 9 1 (.slice (some ⟨g, 0, none⟩) (j + 1 + (n - j)) cp) (j + 1 + (n - j)) ((l.take j ++ [s]).map Value.string ++ (l.drop j).map Value.string) → Upd [] w w4 ∧ StrRow w4 w.heap.size (.slice (some ⟨g, 0, none⟩) (j + 1 + (n - j)) cp) (laidR l s)) := fun g cp w4 hg ho => by
     refine ⟨Hu3.out.trans' (Upd.of_grown hg) (fun k hk hl => ?_), ?_⟩
     ·have := own_geT Ho3.out (show (Value.slice (some ⟨g3, 0, none⟩) (j + 1) cap3).ownBlock = some k by simp at hk; rw [hk]; rfl)
      omega
     ·unfold StrRow
      rw [HL.out, List.length_append, List.length_cons, hdl, Hjl.out]
      have e : j + (n - j + 1) = j + 1 + (n - j) := by omega
      rw [e]
      simpa using ho
    clear hg3 hg1 hdl
    go_wp2_with (at_builtin; go_must (refine wpList_append_lies _ rfl _ _ 50 rfl w.heap.size 9 i0 (.string ⟨#[]⟩) 1 16 Tryz.underlying50 hi hz0 hz1 hz2 rfl (by decide) _ _ _ rfl Ho3.out ⟨g0, j, none⟩ (n - j) (cap - j) ((l.drop j).map Value.string) rfl hlen0.out hnews0.out hone0.out hpos hlm0 hlb0 (by omega) _ rfl ?_); intro g4 cap4 w4 hown4 hgrow4 hat4 hlt4)
    go_ret
    obtain ⟨r1, r2⟩ := HR.out g4 cap4 w4 hgrow4 hown4
    exact ⟨_, rfl, r1, r2⟩
   ·have hjn2 : j = n := by omega
    have hdl : l.drop j = [] := List.drop_eq_nil_of_le (by rw [Hn.out]; omega)
    have HR : Hid (∀ w4, w3.grownBy w4 (some g3) → w4.ownsRow w.heap.size 9 1 (.slice (some ⟨g3, 0, none⟩) (j + 1 + 0) cap3) (j + 1 + 0) ((l.take j ++ [s]).map Value.string ++ []) → Upd [] w w4 ∧ StrRow w4 w.heap.size (.slice (some ⟨g3, 0, none⟩) (j + 1) cap3) (laidR l s)) := fun w4 hg ho => by
     refine ⟨Hu3.out.trans' (Upd.of_grown hg) (fun k hk hl => ?_), ?_⟩
     ·have h1 := Hu3.out.size
      have := own_geT Ho3.out (show (Value.slice (some ⟨g3, 0, none⟩) (j + 1) cap3).ownBlock = some k by simp at hk; rw [hk]; rfl)
      omega
     ·unfold StrRow
      rw [HL.out, hdl, List.length_append, List.length_singleton, Hjl.out]
      simpa using ho
    have HnA : Hid (a = none → 0 = 0 ∧ cap - j = 0) := fun e => by have := Hnil.out e; omega
    have HnB : Hid (a.map (fun x => x.add j) = none → 0 = 0 ∧ cap - j = 0) := fun e => by have := Hnil.out (by simpa using e); omega
    subst hjn2
    clear hdl hjn
    by_cases hcj : cap = j
    ·go_wp2_with (at_builtin; go_must (refine wpList_append_fits_any _ rfl _ _ 50 rfl w.heap.size 9 i0 1 Tryz.underlying50 hi hz1 g3 (j + 1) cap3 ((l.take j ++ [s]).map Value.string) rfl Ho3.out _ 0 _ [] rfl rfl (by first | exact HnA.out | (rw [← hcj]; simp) | simp) (fun _ _ q u hu => by simp at hu) (fun u hu => by cases hu) hk3 ?_); intro w4 hown4 hgrow4)
     go_ret
     obtain ⟨r1, r2⟩ := HR.out w4 hgrow4 hown4
     exact ⟨_, rfl, r1, r2⟩
    ·go_wp2_with (at_builtin; go_must (refine wpList_append_fits_any _ rfl _ _ 50 rfl w.heap.size 9 i0 1 Tryz.underlying50 hi hz1 g3 (j + 1) cap3 ((l.take j ++ [s]).map Value.string) rfl Ho3.out _ 0 _ [] rfl rfl HnB.out (fun _ _ q u hu => by simp at hu) (fun u hu => by cases hu) hk3 ?_); intro w4 hown4 hgrow4)
     go_ret
     obtain ⟨r1, r2⟩ := HR.out w4 hgrow4 hown4
     exact ⟨_, rfl, r1, r2⟩
end Go.Proofs.YtmfkpllnmmfpiaaGreatDoor

namespace Go.Proofs.YtmfkpllnmmfpiaaGreatDoor
open Go.RowKit
structure LRead (w : World) (B : Nat) (v : Value) (rs : List Value) (ls : List (List ByteArray)) : Prop where
 row : w.ownsRow B 50 1 v ls.length rs
 len : rs.length = ls.length
 all : ∀ (p : Nat) (r : Value) (l : List ByteArray), rs[p]? = some r → ls[p]? = some l → StrRow w B r l
 out : ∀ (p : Nat) (r : Value), rs[p]? = some r → ∀ k, r.ownBlock = some k → v.ownBlock ≠ some k
theorem LRead.empty (w : World) (B : Nat) : LRead w B (.slice none 0 0) [] [] := ⟨⟨rfl, .inl ⟨rfl, rfl⟩⟩, rfl, fun p r l h => by simp at h, fun p r h => by simp at h⟩
theorem LRead.later {w w' : World} {B : Nat} {v : Value} {rs : List Value} {ls : List (List ByteArray)} (h : LRead w B v rs ls) (hu : Upd [] w w') : LRead w' B v rs ls :=
 ⟨hu.ownsRow h.row (fun _ _ => by simp), h.len, fun p r l hr hl => hu.ownsRow (h.all p r l hr hl) (fun _ _ => by simp), h.out⟩
theorem LRead.snoc {w w2 w3 : World} {B B2 g cap : Nat} {v r : Value} {rs : List Value} {ls : List (List ByteArray)} {l : List ByteArray} (h : LRead w B v rs ls) (hl : StrRow w B2 r l) (hB : B ≤ B2) (hr : ∀ k, r.ownBlock = some k → v.ownBlock ≠ some k) (hu : Upd [] w w2) (hg : w2.grownBy w3 v.ownBlock) (hat : v.ownBlock = some g ∨ g = w2.heap.size)
  (hown : w3.ownsRow B 50 1 (.slice (some ⟨g, 0, none⟩) (ls.length + 1) cap) (ls.length + 1) (rs ++ [r])) : LRead w3 B (.slice (some ⟨g, 0, none⟩) (ls.length + 1) cap) (rs ++ [r]) (ls ++ [l]) := by
 have U : Upd v.ownBlock.toList w w3 := (hu.mono (fun x hx _ => by cases hx)).trans (Upd.of_grown hg)
 have hs := hu.size
 have hl2 : StrRow w B r l := ownsRow_base hl fun k hk => Nat.le_trans hB (own_geT hl hk)
 have key : ∀ (p : Nat) (r' : Value) (l' : List ByteArray), (rs ++ [r])[p]? = some r' → (ls ++ [l])[p]? = some l' → StrRow w B r' l' ∧ ∀ k, r'.ownBlock = some k → v.ownBlock ≠ some k := fun p r' l' h1 h2 => by
  by_cases hp : p < ls.length
  ·rw [List.getElem?_append_left (by rw [h.len]; exact hp)] at h1
   rw [List.getElem?_append_left hp] at h2
   exact ⟨h.all p r' l' h1 h2, h.out p r' h1⟩
  ·have hp2 : p = ls.length := by
    have := (List.getElem?_eq_some_iff.1 h2).1
    simp at this
    omega
   subst hp2
   rw [← h.len, List.getElem?_concat_length] at h1
   rw [List.getElem?_concat_length] at h2
   obtain rfl := Option.some.inj h1
   obtain rfl := Option.some.inj h2
   exact ⟨hl2, hr⟩
 refine ⟨by simpa using hown, by simp [h.len], fun p r' l' h1 h2 => ?_, fun p r' h1 k hk e => ?_⟩
 ·obtain ⟨a, b⟩ := key p r' l' h1 h2
  exact U.ownsRow a (fun k hk hm => b k hk (by simpa using hm))
 ·have hpl : p < (ls ++ [l]).length := by
   have := (List.getElem?_eq_some_iff.1 h1).1
   simp [h.len] at this ⊢
   exact this
  obtain ⟨a, b⟩ := key p r' _ h1 (List.getElem?_eq_getElem hpl)
  simp only [own_slice, Option.some.injEq] at e
  subst e
  rcases hat with hat | hat
  ·exact b g hk hat
  ·have := ownsRow_lt a hk
   omega
theorem RWB.reader {w0 w : World} {wb : Nat} {l : List Trm} {cl : List Nat} (h : RWB w0 w wb l cl) (hcl : cl.length = l.length) : ∃ av capv au capu, w.cell? ⟨wb, 0, none⟩ = some (.slice av l.length capv) ∧ w.cell? ⟨wb, 1, none⟩ = some (.slice au l.length capu) ∧ l.length ≤ capv ∧ capv ≤ maxLen ∧ l.length ≤ capu ∧ capu ≤ maxLen ∧ wb < w.heap.size ∧
  (0 < l.length → ∃ gv gu, av = some ⟨gv, 0, none⟩ ∧ au = some ⟨gu, 0, none⟩ ∧ gv < w.heap.size ∧ gu < w.heap.size ∧ ∀ (i : Nat) (t : Trm), l[i]? = some t → ∃ tb, tb < w.heap.size ∧ w.cell? ⟨gv, i, none⟩ = some (.pointer (some ⟨tb, 0, none⟩)) ∧ w.cell? ⟨gu, i, none⟩ = some (.int .i64 (clsAt cl i)) ∧ w.cell? ⟨tb, 2, none⟩ = some (.string t.text)) := by
 by_cases hp : 0 < l.length
 ·obtain ⟨gv, capv, gu, capu, cw, hw, a1, a2, b1, b2⟩ := h.at hp hcl
  refine ⟨_, capv, _, capu, hw.c0, hw.c1, a1, a2, b1, b2, hw.lt, fun _ => ⟨gv, gu, rfl, rfl, ownsRow_lt hw.rowL rfl, ownsRow_lt hw.rowC rfl, fun i t ht => ?_⟩⟩
  have hi := (List.getElem?_eq_some_iff.1 ht).1
  obtain ⟨tb, htb⟩ : ∃ tb, cw[i]? = some tb := ⟨_, List.getElem?_eq_getElem (by rw [hw.len]; exact hi)⟩
  have hk := hw.kids i tb t htb ht
  refine ⟨tb, hk.lt, ?_, hw.class_at (by rw [hcl]; exact hi) hcl.symm, hk.text⟩
  rw [hw.rowL.cellAt i (by omega)]
  simp [ptrs, htb]
 ·have h0 : l.length = 0 := by omega
  obtain ⟨_, v, u, cs, hw⟩ := h
  obtain ⟨av, capv, hv⟩ := slice_len hw.rowL
  obtain ⟨au, capu, hu⟩ := slice_len hw.rowC
  have e1 := hw.c0
  have e2 := hw.c1
  rw [hv] at e1
  rw [hu, hcl] at e2
  refine ⟨av, capv, au, capu, e1, e2, by omega, ?_, by omega, ?_, hw.lt, fun hh => absurd hh hp⟩
  ·rcases ownsRow_slice hw.rowL with ⟨x, _⟩ | ⟨_, _, x, _, y⟩
   ·rw [hv] at x; simp only [Value.slice.injEq] at x; rw [x.2.2]; simp [maxLen]
   ·rw [hv] at x; simp only [Value.slice.injEq] at x; rw [x.2.2]; exact y
  ·rcases ownsRow_slice hw.rowC with ⟨x, _⟩ | ⟨_, _, x, _, y⟩
   ·rw [hu] at x; simp only [Value.slice.injEq] at x; rw [x.2.2]; simp [maxLen]
   ·rw [hu] at x; simp only [Value.slice.injEq] at x; rw [x.2.2]; exact y
end Go.Proofs.YtmfkpllnmmfpiaaGreatDoor
