/- Filled, Pair, WebSents, RangeLaw, Backward, Reverse, WhyHeap, WhyOther -/
import Derived.Test.YtmfkpllnmmfpiaaGreatDoorRawW
import Derived.Test.YtmfkpllnmmfpiaaGreatDoorBookTellW
import Derived.Test.YtmfkpllnmmfpiaaGreatDoorRefHoldW
import Derived.Test.YtmfkpllnmmfpiaaGreatDoorSaidW
import Derived.RangeFuncNested
import Derived.RangeFuncBound
import Derived.RangeFuncCalls
import Derived.RangeFuncLeaves
import Derived.Test.YtmfkpllnmmfpiaaGreatDoorMapHeapW
import Derived.Test.YtmfkpllnmmfpiaaGreatDoorWithW
import Derived.Shelf.Abstract
import Derived.Shelf.RegionOpen
import Derived.OwnWalkIn
import Derived.TacticsInMore
import Derived.LoopNIn
import Derived.LoopIn
import Derived.Test.YtmfkpllnmmfpiaaGreatDoorTwinsW
namespace Go.Proofs.YtmfkpllnmmfpiaaGreatDoor
open Go.RowKit
theorem One.look {w wk w' : World} {bb : Nat} {S : WS} (h : One w wk bb S) (U : Upd [] wk w') : One w w' bb S := h.next (h.book.wider U) ⟨[], fun k hk => (by cases hk), U⟩
set_option maxHeartbeats 4000000 in
set_option maxRecDepth 100000 in
theorem filled_any (ao : Option Addr) (zs : List Int) (cap : Nat) (w : World) (hE : ErrTab w) (hR : RawIs w ao zs) :
  Calls Tryz.prog 14 #[.slice ao zs.length cap] w fun e w' => ∃ bb, e = .returned (.pointer (some ⟨bb, 0, none⟩)) ∧ One w w' bb (fillM noWS (zs.take 12)) := by
 have HOp := hide (opened_any w hE)
 have h0 := hE.1
 have HE := hide hE
 have HR := hide hR
 clear hE hR
 go_enter Tryz.func14, Tryz.ntmps14
 go_upto_region 2 with (go_at_call 42; refine HOp.out.mono ?_; rintro e w1 ⟨bb, rfl, hb1, hu1⟩; have H1 := hide (⟨HE.out.later hu1 (by simp), hb1, hu1, h0⟩ : One w w1 bb noWS); clear hb1 hu1)
 clear HOp HE
 go_wp2
 go_loopw [4] (fun i wr => ∃ j : Nat, j ≤ 12 ∧ j ≤ zs.length ∧ i = .int .i64 j ∧ Hid (One w wr bb (fillM noWS (zs.take j)))) (fun i _ => 12 - (intOf i).toNat)
 case atStart => exact ⟨0, by omega, by omega, rfl, H1.out⟩
 case round =>
  obtain ⟨j, hj, hjl, rfl, HO⟩ := hrel
  clear H1
  by_cases hgo : j < zs.length ∧ j < 12
  ·have hg1 : (j : Int) < (zs.length : Int) := by omega
   have hg2 : (j : Int) < 12 := by omega
   obtain ⟨rb, ro, rfl, hz⟩ := HR.out.cells j hgo.1
   have hzf : Fits64 (zs.getD j 0) := HR.out.fits j
   have hrl : rb < w.heap.size := World.block_lt_of_cell? _ _ hz
   have hzr : wr.cell? ⟨rb, ro + j, none⟩ = some (.int .i64 (zs.getD j 0)) := (HO.out.upd.cell (p := ⟨rb, ro + j, none⟩) hrl (by simp)).trans hz
   have htk : zs.take (j + 1) = zs.take j ++ [zs.getD j 0] := by
    rw [List.take_succ_eq_append_getElem hgo.1, List.getD_eq_getElem?_getD, List.getElem?_eq_getElem hgo.1]
    rfl
   have hW := fillM_w3 (zs.take j) noWS 0 W3.none (by simp; omega)
   have hlj : 0 + (zs.take j).length = j := by simp; omega
   rw [hlj] at hW
   have hS := hW.say (by omega) (s3Of_ok (zs.getD j 0))
   have HN : Hid (fillM noWS (zs.take (j + 1)) = (sayOf (fillM noWS (zs.take j)) (s3Of (zs.getD j 0)).text).2) := by show _ = _; rw [htk, fillM_snoc]
   have HSe := hide (fun w' : World => keepSentence_any (zs.getD j 0) w' hzf)
   have hsz := S3.size (s3Of_ok (zs.getD j 0))
   have HSay := hide (fun (w5 : World) (h : One w w5 bb (fillM noWS (zs.take j))) => say_any (s3Of (zs.getD j 0)).text w5 bb _ _ (by unfold maxLen; omega) h.book h.err)
   rw [hS.1] at HSay
   simp only [Int.natCast_zero] at HSay
   generalize zs.getD j 0 = z at *
   generalize fillM noWS (zs.take j) = S at *
   generalize (sayOf S (s3Of z).text).2 = S' at *
   generalize (s3Of z).text = t at *
   clear hz hzf hrl htk hW hS hlj
   go_wp2_with (first
    | (go_at_call 43; refine (HSe.out _).mono ?_; rintro e w2 ⟨rfl, hu2⟩; have H2 := hide (HO.out.look hu2); clear hu2)
    | (go_at_call 25; refine (HSay.out _ H2.out).mono ?_; rintro e w3 ⟨rfl, hb3, hL3⟩; have H3 := hide (H2.out.next hb3 hL3); clear hb3 hL3))
   refine ⟨⟨j + 1, by omega, by omega, by go_num, ?_⟩, by simp [intOf]; omega⟩
   rw [HN.out]
   exact H3.out
  ·have htk : zs.take 12 = zs.take j := by
    by_cases h1 : j < zs.length
    ·obtain rfl : j = 12 := by omega
     rfl
    ·rw [List.take_of_length_le (by omega), List.take_of_length_le (by omega)]
   have HT : Hid (fillM noWS (zs.take 12) = fillM noWS (zs.take j)) := by show _ = _; rw [htk]
   clear htk
   by_cases h1 : j < zs.length
   ·have hg1 : (j : Int) < (zs.length : Int) := by omega
    have hg2 : ¬ (j : Int) < 12 := by omega
    clear hgo
    go_wp2
    go_ret
    refine ⟨bb, rfl, ?_⟩
    rw [HT.out]
    exact HO.out
   ·have hg1 : ¬ (j : Int) < (zs.length : Int) := by omega
    clear hgo
    go_wp2
    go_ret
    refine ⟨bb, rfl, ?_⟩
    rw [HT.out]
    exact HO.out
end Go.Proofs.YtmfkpllnmmfpiaaGreatDoor

namespace Go.Proofs.YtmfkpllnmmfpiaaGreatDoor
open Go.RowKit
structure Pair (w0 w : World) (b x : Nat) (Sb Sx : WS) : Prop where
 ex : ∃ Zb Zx, BookAt w b Zb Sb ∧ BookAt w x Zx Sx ∧ (∀ k, Zb k → ¬ Zx k) ∧ ∀ k, Zb k ∨ Zx k → w0.heap.size ≤ k
 err : ErrTab w
 upd : Upd [] w0 w
 pos : 0 < w0.heap.size
theorem Pair.look {w0 w w' : World} {b x : Nat} {Sb Sx : WS} (h : Pair w0 w b x Sb Sx) (U : Upd [] w w') : Pair w0 w' b x Sb Sx := by
 obtain ⟨Zb, Zx, h1, h2, h3, h4⟩ := h.ex
 exact ⟨⟨Zb, Zx, h1.later U (fun _ _ => by simp), h2.later U (fun _ _ => by simp), h3, h4⟩, h.err.later U (by simp), h.upd.trans U, h.pos⟩
theorem Pair.step {w0 w : World} {b x : Nat} {Sb Sx Sb' : WS} (h : Pair w0 w b x Sb Sx) {f : Nat} {args : Array Value} {E : Ending} (hc : ∀ Z, BookAt w b Z Sb → Calls Tryz.prog f args w fun e w' => e = E ∧ BookAt w' b (fun k => (Z k ∨ w.heap.size ≤ k) ∧ k < w'.heap.size) Sb' ∧ ∃ L, (∀ k ∈ L, Z k) ∧ Upd L w w') :
  Calls Tryz.prog f args w fun e w' => e = E ∧ Pair w0 w' b x Sb' Sx := by
 obtain ⟨Zb, Zx, h1, h2, h3, h4⟩ := h.ex
 refine (hc Zb h1).mono fun e w' hw => ?_
 obtain ⟨he, hb, L, hL, U⟩ := hw
 have h5 := h.upd.size
 have h6 := h.pos
 refine ⟨he, ⟨_, Zx, hb, h2.later U (fun k hk hm => h3 k (hL k hm) hk), fun k hk hx => ?_, fun k hk => ?_⟩, h.err.later U (fun hm => ?_), h.upd.trans' U (fun k hk hlt => ?_), h.pos⟩
 ·rcases hk.1 with h7 | h7
  ·exact h3 k h7 hx
  ·have := h2.low k hx
   omega
 ·rcases hk with hk | hk
  ·rcases hk.1 with h7 | h7
   ·exact h4 k (.inl h7)
   ·omega
  ·exact h4 k (.inr hk)
 ·have := h4 0 (.inl (hL 0 hm))
  omega
 ·have := h4 k (.inl (hL k hk))
  omega
theorem Pair.book {w0 w : World} {b x : Nat} {Sb Sx : WS} (h : Pair w0 w b x Sb Sx) : ∃ Z, BookAt w b Z Sb := let ⟨Z, _, h1, _⟩ := h.ex; ⟨Z, h1⟩
theorem Pair.begin {w w1 w2 : World} {b x : Nat} {S : WS} (h1 : One w w1 b S) (h2 : One w1 w2 x S) : Pair w w2 b x S S := by
 have s1 := h1.upd.size
 have s2 := h2.upd.size
 refine ⟨⟨_, _, h1.book.later h2.upd (fun _ _ => by simp), h2.book, fun k hk hx => by omega, fun k hk => by omega⟩, h2.err, h1.upd.trans h2.upd, h1.pos⟩
structure Good (S : WS) (k : Nat) (m : List Nat) : Prop where
 w3 : W3 S k
 text : TextOK S
 tag : TagOK S
 marks : S.marks = m
theorem Good.none : Good noWS 0 [] := ⟨W3.none, TextOK.none, fun x hx => by simp [noWS] at hx, rfl⟩
theorem Good.say {S : WS} {k : Nat} {m : List Nat} (h : Good S k m) (hk : k ≤ 23) {s : S3} (hs : s.ok) : (sayOf S s.text).1 = (k, 0, 0) ∧ Good (sayOf S s.text).2 (k + 1) m ∧ ∀ S0, Goes S0 S → Goes S0 (sayOf S s.text).2 := by
 obtain ⟨h1, h2, h3⟩ := h.w3.say hk hs
 exact ⟨h1, ⟨h2, h.w3.texts hk h.text hs, h.w3.tags hk h.tag hs, ((h3 S (Goes.refl S)).marks).trans h.marks⟩, h3⟩
theorem Good.fill : ∀ (l : List Int) (S : WS) (k : Nat) (m : List Nat), Good S k m → k + l.length ≤ 24 → Good (fillM S l) (k + l.length) m ∧ ∀ S0, Goes S0 S → Goes S0 (fillM S l)
 | [], _, _, _, h, _ => ⟨h, fun _ hg => hg⟩
 | c :: l, S, k, m, h, hk => by
  simp only [List.length_cons] at hk
  obtain ⟨_, h1, h2⟩ := h.say (by omega) (s3Of_ok c)
  obtain ⟨h3, h4⟩ := Good.fill l _ _ _ h1 (by omega)
  have e : k + (c :: l).length = k + 1 + l.length := by simp; omega
  rw [e]
  exact ⟨h3, fun S0 hg => h4 S0 (h2 S0 hg)⟩
end Go.Proofs.YtmfkpllnmmfpiaaGreatDoor

namespace Go.Proofs.YtmfkpllnmmfpiaaGreatDoor
open Go.RowKit
theorem flat7_append (a b : List V7) : flat7 (a ++ b) = flat7 a ++ flat7 b := by
 induction a with
 | nil => rfl
 | cons c a ih => simp [flat7, ih]
structure Senting (w wr : World) (wb : Nat) (H : Hd) (Z : Nat → Prop) (S : WS) (v : Value) (j : Nat) : Prop where
 web : WebAt wr wb H Z S
 row : ∃ cs : List V7, wr.ownsRow w.heap.size 101 7 v j (flat7 cs) ∧ AllIs (IsX wr (fun k => w.heap.size ≤ k ∧ v.ownBlock ≠ some k)) cs ((sentsX S).take j)
 upd : Upd [] w wr
theorem Senting.next {w wr w2 w3 : World} {wb j g' cap : Nat} {H : Hd} {Z : Nat → Prop} {S : WS} {v : Value} {cs : List V7} {c : V7} {x : SntX} {X : Obj} (h : Senting w wr wb H Z S v j) (hZ : ∀ k, Z k → k < w.heap.size) (hx : (sentsX S)[j]? = some x)
  (hrow : wr.ownsRow w.heap.size 101 7 v j (flat7 cs)) (hall : AllIs (IsX wr (fun k => w.heap.size ≤ k ∧ v.ownBlock ≠ some k)) cs ((sentsX S).take j))
  (hu2 : Upd [] wr w2) (hc : IsX w2 (fun k => wr.heap.size ≤ k) c x)
  (hown : w3.ownsRow w.heap.size 101 7 (.slice (some ⟨g', 0, none⟩) (j + 1) cap) (j + 1) (flat7 cs ++ v7 c)) (hgrow : (w2.alloc X).grownBy w3 v.ownBlock) (hat : v.ownBlock = some g' ∨ g' = (w2.alloc X).heap.size) :
  Senting w w3 wb H Z S (.slice (some ⟨g', 0, none⟩) (j + 1) cap) (j + 1) := by
 have hge : ∀ q, v.ownBlock = some q → w.heap.size ≤ q ∧ q < wr.heap.size := fun q hq => ⟨own_ge hrow hq, ownsRow_lt hrow hq⟩
 have U1 : Upd v.ownBlock.toList w2 w3 := ((Upd.refl v.ownBlock.toList w2).alloc X).trans (Upd.of_grown hgrow)
 have U : Upd v.ownBlock.toList wr w3 := (hu2.mono (fun x hx _ => by cases hx)).trans U1
 have hz2 := hu2.size
 refine ⟨h.web.later U (fun k hk hm => ?_), ⟨cs ++ [c], ?_, ?_⟩, h.upd.trans' U (fun k hk hl => ?_)⟩
 ·have := (hge k (by simpa using hm)).1
  have := hZ k hk
  omega
 ·rw [flat7_append]
  simpa [flat7] using hown
 ·have hlt := (List.getElem?_eq_some_iff.1 hx).1
  rw [List.getElem?_eq_getElem hlt] at hx
  rw [List.take_succ_eq_append_getElem hlt, Option.some.inj hx]
  have hfr : ∀ q, (w.heap.size ≤ q ∧ v.ownBlock ≠ some q) ∧ q < wr.heap.size → w.heap.size ≤ q ∧ (Value.slice (some ⟨g', 0, none⟩) (j + 1) cap).ownBlock ≠ some q := fun q hq => ⟨hq.1.1, fun e => by
   simp only [own_slice, Option.some.injEq] at e
   subst e
   rcases hat with hat | hat
   ·exact hq.1.2 hat
   ·simp at hat; omega⟩
  refine AllIs.snoc ?_ ?_
  ·have h1 : IsX w2 (fun k => wr.heap.size ≤ k ∧ k < w2.heap.size) c x := hc.mono fun q hq hl => ⟨hq, hl⟩
   have h2 := h1.later U1 (fun q hq hm => by have := hge q (by simpa using hm); omega)
   have hs := h.upd.size
   refine h2.mono (fun q hq _ => ⟨by omega, fun e => ?_⟩)
   simp only [own_slice, Option.some.injEq] at e
   subst e
   rcases hat with hat | hat
   ·have := hge _ hat; omega
   ·simp at hat; omega
  ·refine hall.mono fun a b hab => ?_
   have h1 : IsX wr (fun k => (w.heap.size ≤ k ∧ v.ownBlock ≠ some k) ∧ k < wr.heap.size) a b := hab.mono fun q hq hl => ⟨hq, hl⟩
   have h2 := h1.later U (fun q hq hm => hq.1.2 (by simpa using hm))
   exact h2.mono (fun q hq _ => hfr q hq)
 ·have := (hge k (by simpa using hk)).1
  omega
end Go.Proofs.YtmfkpllnmmfpiaaGreatDoor

namespace Go.Proofs.YtmfkpllnmmfpiaaGreatDoor
open Go.RowKit
end Go.Proofs.YtmfkpllnmmfpiaaGreatDoor

namespace Go.Proofs.YtmfkpllnmmfpiaaGreatDoor
open Go.RowKit Go.Shelf
attribute [local go_sem] Oper.semAt_some
structure RowRead (Bs : Nat) (g : Option Addr) (N cap : Nat) (c : Nat → V7) (W : World) : Prop where
 box : W.cell? ⟨Bs, 0, none⟩ = some (.slice g N cap)
 cells : ∀ i, i < N → ∃ b, g = some ⟨b, 0, none⟩ ∧ ∀ o, o < 7 → W.cell? ⟨b, i * 7 + o, none⟩ = (v7 (c i))[o]?
end Go.Proofs.YtmfkpllnmmfpiaaGreatDoor

namespace Go.Proofs.YtmfkpllnmmfpiaaGreatDoor
open Go.RowKit
end Go.Proofs.YtmfkpllnmmfpiaaGreatDoor

namespace Go.Proofs.YtmfkpllnmmfpiaaGreatDoor
open Go.RowKit
structure WhyAt (w3 W : World) (ob : Nat) (Mn : Nat → Prop) (T : WS) : Prop where
 other : ∃ Ho, WebAt W ob Ho (fun k => w3.heap.size ≤ k ∧ ¬ Mn k) T
 mn : ∀ k, Mn k → k < W.heap.size
 upd : Upd [] w3 W
theorem WhyAt.step {w3 W W' : World} {ob : Nat} {Mn Mn' : Nat → Prop} {T : WS} {L : List Nat} (h : WhyAt w3 W ob Mn T) (U : Upd L W W') (hL : ∀ k ∈ L, w3.heap.size ≤ k ∧ Mn k) (hM : ∀ k, Mn' k → k < W'.heap.size ∧ (Mn k ∨ W.heap.size ≤ k)) : WhyAt w3 W' ob Mn' T := by
 obtain ⟨Ho, hw⟩ := h.other
 refine ⟨⟨Ho, ((hw.mono (Z' := fun k => (w3.heap.size ≤ k ∧ ¬ Mn k) ∧ k < W.heap.size) (fun k hk hl => ⟨hk, hl⟩)).later U (fun k hk hm => hk.1.2 (hL k hm).2)).mono (fun k hk _ => ⟨hk.1.1, fun hm => ?_⟩)⟩, fun k hk => (hM k hk).1, h.upd.trans' U (fun x hx hl => by have := (hL x hx).1; omega)⟩
 rcases (hM k hm).2 with h1 | h1
 ·exact hk.1.2 h1
 ·have := hk.2
  omega
theorem WhyAt.call {w3 W W' : World} {ob : Nat} {Mn : Nat → Prop} {T T' : WS} {Ho Ho' : Hd} (h : WhyAt w3 W ob Mn T) (hw : WebAt W ob Ho (fun k => w3.heap.size ≤ k ∧ ¬ Mn k) T) (hw' : WebAt W' ob Ho' (fun k => (w3.heap.size ≤ k ∧ ¬ Mn k) ∨ W.heap.size ≤ k) T') (U : Upd (Ho.blocks ob) W W') : WhyAt w3 W' ob Mn T' := by
 have hs := h.upd.size
 refine ⟨⟨Ho', hw'.mono (fun k hk _ => ?_)⟩, fun k hk => Nat.lt_of_lt_of_le (h.mn k hk) U.size, h.upd.trans' U (fun x hx hl => by have := (hw.inZ x hx).1; omega)⟩
 rcases hk with hk | hk
 ·exact hk
 ·exact ⟨by omega, fun hm => by have := h.mn k hm; omega⟩
def trailsTo (c : SntX) (xs : List SntX) (j : Nat) : List Nat := (List.range xs.length).map fun i => if i < j then (otherM c xs i).trail.length else 0
theorem trailsTo_length (c : SntX) (xs : List SntX) (j : Nat) : (trailsTo c xs j).length = xs.length := by simp [trailsTo]
theorem trailsTo_get (c : SntX) (xs : List SntX) (j i : Nat) (h : i < xs.length) : (trailsTo c xs j)[i]? = some (if i < j then (otherM c xs i).trail.length else 0) := by
 unfold trailsTo
 rw [List.getElem?_map, List.getElem?_range h]
 rfl
theorem trailsTo_succ (c : SntX) (xs : List SntX) (j : Nat) (hj : j < xs.length) : trailsTo c xs (j + 1) = (trailsTo c xs j).set j (otherM c xs j).trail.length := by
 refine List.ext_getElem? fun i => ?_
 by_cases h : i < xs.length
 ·rw [trailsTo_get c xs (j + 1) i h, List.getElem?_set, trailsTo_length, trailsTo_get c xs j i h]
  by_cases e : j = i
  ·subst e
   rw [if_pos rfl, if_pos hj, if_pos (by omega)]
  ·rw [if_neg e]
   by_cases hij : i < j
   ·rw [if_pos hij, if_pos (by omega)]
   ·rw [if_neg hij, if_neg (by omega)]
 ·rw [List.getElem?_eq_none (by rw [trailsTo_length]; omega), List.getElem?_eq_none (by simp [trailsTo_length]; omega)]
structure WhySt (w3 W : World) (ob B7 B8 Bp B11 B12 Bs : Nat) (Q : List Nat) (v3 : Value) (c : SntX) (xs : List SntX) (nv ev : Value) (ns : List Nat) (es : List SntX) (T : WS) : Prop where
 why : WhyAt w3 W ob (fun k => k ∈ Q ∨ nv.ownBlock = some k ∨ ev.ownBlock = some k) T
 c7 : W.cell? ⟨B7, 0, none⟩ = some (.pointer (some ⟨ob, 0, none⟩))
 c8 : W.cell? ⟨B8, 0, none⟩ = some (.slice (some ⟨Bp, 0, none⟩) xs.length xs.length)
 pl : W.ownsRow w3.heap.size 3 1 (.slice (some ⟨Bp, 0, none⟩) xs.length xs.length) xs.length (intsOf (trailsTo c xs xs.length))
 c11 : W.cell? ⟨B11, 0, none⟩ = some nv
 f11 : W.frozen? ⟨B11, 0, none⟩ = false
 c12 : W.cell? ⟨B12, 0, none⟩ = some ev
 f12 : W.frozen? ⟨B12, 0, none⟩ = false
 cs : W.cell? ⟨Bs, 0, none⟩ = some v3
 nr : W.ownsRow w3.heap.size 3 1 nv ns.length (intsOf ns)
 er : ∃ ds, W.ownsRow w3.heap.size 101 7 ev es.length (flat7 ds) ∧ AllIs (IsX W (fun k => k < w3.heap.size)) ds es
 inQ : ∀ k ∈ [B7, B8, Bp, B11, B12, Bs], k ∈ Q
 nodup : [B7, B8, Bp, B11, B12, Bs].Nodup
 nQ : ∀ k, nv.ownBlock = some k → k ∉ Q
 eQ : ∀ k, ev.ownBlock = some k → k ∉ Q
 ne : ∀ k, nv.ownBlock = some k → ev.ownBlock ≠ some k
 low : ∀ k ∈ Q, w3.heap.size ≤ k
theorem WhySt.lt {w3 W : World} {ob B7 B8 Bp B11 B12 Bs : Nat} {Q : List Nat} {v3 : Value} {c : SntX} {xs : List SntX} {nv ev : Value} {ns : List Nat} {es : List SntX} {T : WS} (h : WhySt w3 W ob B7 B8 Bp B11 B12 Bs Q v3 c xs nv ev ns es T) {k : Nat} (hk : k ∈ Q) : k < W.heap.size := h.why.mn k (.inl hk)
theorem WhySt.keep {w3 W W' : World} {ob B7 B8 Bp B11 B12 Bs : Nat} {Q Q' : List Nat} {v3 : Value} {c : SntX} {xs : List SntX} {nv ev : Value} {ns : List Nat} {es : List SntX} {T T' : WS} {L : List Nat} (h : WhySt w3 W ob B7 B8 Bp B11 B12 Bs Q v3 c xs nv ev ns es T) (U : Upd L W W') (hL : ∀ k ∈ L, w3.heap.size ≤ k ∧ k ∉ [B7, B8, Bp, B11, B12, Bs] ∧ nv.ownBlock ≠ some k ∧ ev.ownBlock ≠ some k)
  (hw : WhyAt w3 W' ob (fun k => k ∈ Q' ∨ nv.ownBlock = some k ∨ ev.ownBlock = some k) T') (hQ : ∀ k ∈ [B7, B8, Bp, B11, B12, Bs], k ∈ Q') (hQ2 : ∀ k ∈ Q', k ∈ Q ∨ W.heap.size ≤ k) : WhySt w3 W' ob B7 B8 Bp B11 B12 Bs Q' v3 c xs nv ev ns es T' := by
 have no : ∀ k ∈ [B7, B8, Bp, B11, B12, Bs], k ∉ L := fun k hk hm => (hL k hm).2.1 hk
 have lt : ∀ k ∈ [B7, B8, Bp, B11, B12, Bs], k < W.heap.size := fun k hk => h.lt (h.inQ k hk)
 have cell : ∀ k ∈ [B7, B8, Bp, B11, B12, Bs], ∀ o, W'.cell? ⟨k, o, none⟩ = W.cell? ⟨k, o, none⟩ := fun k hk o => U.cell (p := ⟨k, o, none⟩) (lt k hk) (no k hk)
 have froz : ∀ k ∈ [B7, B8, Bp, B11, B12, Bs], ∀ o, W'.frozen? ⟨k, o, none⟩ = W.frozen? ⟨k, o, none⟩ := fun k hk o => U.frozen (p := ⟨k, o, none⟩) (lt k hk) (no k hk)
 obtain ⟨ds, hr, ha⟩ := h.er
 have hs := h.why.upd.size
 refine ⟨hw, (cell B7 (by simp) 0).trans h.c7, (cell B8 (by simp) 0).trans h.c8, U.ownsRow h.pl (fun k hk => ?_), (cell B11 (by simp) 0).trans h.c11, (froz B11 (by simp) 0).trans h.f11, (cell B12 (by simp) 0).trans h.c12, (froz B12 (by simp) 0).trans h.f12, (cell Bs (by simp) 0).trans h.cs, U.ownsRow h.nr (fun k hk hm => (hL k hm).2.2.1 hk), ⟨ds, U.ownsRow hr (fun k hk hm => (hL k hm).2.2.2 hk), ha.mono fun a b hab => hab.later U (fun k hk hm => by have := (hL k hm).1; omega)⟩, hQ, h.nodup, fun k hk hm => ?_, fun k hk hm => ?_, h.ne, fun k hk => ?_⟩
 ·simp only [own_slice, Option.some.injEq] at hk
  subst hk
  exact no Bp (by simp)
 ·rcases hQ2 k hm with h1 | h1
  ·exact h.nQ k hk h1
  ·have := ownsRow_lt h.nr hk
   omega
 ·rcases hQ2 k hm with h1 | h1
  ·exact h.eQ k hk h1
  ·have := ownsRow_lt hr hk
   omega
 ·rcases hQ2 k hk with h1 | h1
  ·exact h.low k h1
  ·omega
theorem WhySt.alloc {w3 W : World} {ob B7 B8 Bp B11 B12 Bs : Nat} {Q : List Nat} {v3 : Value} {c : SntX} {xs : List SntX} {nv ev : Value} {ns : List Nat} {es : List SntX} {T : WS} (h : WhySt w3 W ob B7 B8 Bp B11 B12 Bs Q v3 c xs nv ev ns es T) (X : Obj) : WhySt w3 (W.alloc X) ob B7 B8 Bp B11 B12 Bs (W.heap.size :: Q) v3 c xs nv ev ns es T := by
 have U := (Upd.refl [] W).alloc X
 refine h.keep U (fun k hk => by cases hk) (h.why.step U (fun k hk => by cases hk) (fun k hk => ?_)) (fun k hk => by simp [h.inQ k hk]) (fun k hk => ?_)
 ·rcases hk with hk | hk
  ·simp only [List.mem_cons] at hk
   rcases hk with rfl | hk
   ·exact ⟨by simp, .inr (Nat.le_refl _)⟩
   ·have := h.lt hk
    exact ⟨by simp; omega, .inl (.inl hk)⟩
  ·have := h.why.mn k (.inr hk)
   exact ⟨by simp; omega, .inl (.inr hk)⟩
 ·simp only [List.mem_cons] at hk
  rcases hk with rfl | hk
  ·exact .inr (Nat.le_refl _)
  ·exact .inl hk
theorem upd_putObj (W : World) (l : Nat) (o : Obj) : Upd [l] W (W.putObj l o) := Upd.of_grown (row := some l) (grownBy_putObj' W l o)
theorem WhySt.put {w3 W : World} {ob B7 B8 Bp B11 B12 Bs : Nat} {Q : List Nat} {v3 : Value} {c : SntX} {xs : List SntX} {nv ev : Value} {ns : List Nat} {es : List SntX} {T : WS} (h : WhySt w3 W ob B7 B8 Bp B11 B12 Bs Q v3 c xs nv ev ns es T) {l : Nat} (hl : l ∈ Q) (hl2 : l ∉ [B7, B8, Bp, B11, B12, Bs]) (o : Obj) : WhySt w3 (W.putObj l o) ob B7 B8 Bp B11 B12 Bs Q v3 c xs nv ev ns es T := by
 have U := upd_putObj W l o
 have hlow := h.low l hl
 have hs := U.size
 refine h.keep U (fun k hk => ?_) (h.why.step U (fun k hk => ?_) (fun k hk => ?_)) h.inQ (fun k hk => .inl hk)
 ·simp only [List.mem_singleton] at hk
  subst hk
  exact ⟨hlow, hl2, fun e => h.nQ k e hl, fun e => h.eQ k e hl⟩
 ·simp only [List.mem_singleton] at hk
  subst hk
  exact ⟨hlow, .inl hl⟩
 ·have := h.why.mn k hk
  exact ⟨by omega, .inl hk⟩
theorem WhySt.less {w3 W : World} {ob B7 B8 Bp B11 B12 Bs B : Nat} {Q : List Nat} {v3 : Value} {c : SntX} {xs : List SntX} {nv ev : Value} {ns : List Nat} {es : List SntX} {T : WS} (h : WhySt w3 W ob B7 B8 Bp B11 B12 Bs (B :: Q) v3 c xs nv ev ns es T) (hQ : ∀ k ∈ [B7, B8, Bp, B11, B12, Bs], k ∈ Q) : WhySt w3 W ob B7 B8 Bp B11 B12 Bs Q v3 c xs nv ev ns es T := by
 refine h.keep (Upd.refl [] W) (fun k hk => by cases hk) (h.why.step (Upd.refl [] W) (fun k hk => by cases hk) (fun k hk => ?_)) hQ (fun k hk => .inl (by simp [hk]))
 have hk' : k ∈ B :: Q ∨ nv.ownBlock = some k ∨ ev.ownBlock = some k := hk.imp (fun h => by simp [h]) id
 exact ⟨h.why.mn k hk', .inl hk'⟩
theorem WhySt.call {w3 W W' : World} {ob B7 B8 Bp B11 B12 Bs : Nat} {Q : List Nat} {v3 : Value} {c : SntX} {xs : List SntX} {nv ev : Value} {ns : List Nat} {es : List SntX} {T T' : WS} {Ho Ho' : Hd} (h : WhySt w3 W ob B7 B8 Bp B11 B12 Bs Q v3 c xs nv ev ns es T) (hw : WebAt W ob Ho (fun k => w3.heap.size ≤ k ∧ ¬ (k ∈ Q ∨ nv.ownBlock = some k ∨ ev.ownBlock = some k)) T) (hw' : WebAt W' ob Ho' (fun k => (w3.heap.size ≤ k ∧ ¬ (k ∈ Q ∨ nv.ownBlock = some k ∨ ev.ownBlock = some k)) ∨ W.heap.size ≤ k) T') (U : Upd (Ho.blocks ob) W W') : WhySt w3 W' ob B7 B8 Bp B11 B12 Bs Q v3 c xs nv ev ns es T' := by
 refine h.keep U (fun k hk => ?_) (h.why.call hw hw' U) h.inQ (fun k hk => .inl hk)
 have hz := hw.inZ k hk
 exact ⟨hz.1, fun hm => hz.2 (.inl (h.inQ k hm)), fun e => hz.2 (.inr (.inl e)), fun e => hz.2 (.inr (.inr e))⟩
theorem WhySt.later {w3 W W' : World} {ob B7 B8 Bp B11 B12 Bs : Nat} {Q : List Nat} {v3 : Value} {c : SntX} {xs : List SntX} {nv ev : Value} {ns : List Nat} {es : List SntX} {T : WS} (h : WhySt w3 W ob B7 B8 Bp B11 B12 Bs Q v3 c xs nv ev ns es T) (U : Upd [] W W') : WhySt w3 W' ob B7 B8 Bp B11 B12 Bs Q v3 c xs nv ev ns es T :=
 h.keep U (fun k hk => by cases hk) (h.why.step U (fun k hk => by cases hk) (fun k hk => ⟨Nat.lt_of_lt_of_le (h.why.mn k hk) U.size, .inl hk⟩)) h.inQ (fun k hk => .inl hk)
end Go.Proofs.YtmfkpllnmmfpiaaGreatDoor

namespace Go.Proofs.YtmfkpllnmmfpiaaGreatDoor
open Go.RowKit
structure OtherOK (c : SntX) (xs : List SntX) : Prop where
 fine : ∀ j, Fine (otherM c xs j)
 len : ∀ j, (otherM c xs j).shapes.length ≤ 250
 said : ∀ j, j ≤ xs.length → (otherM c xs j).said.length = j + 1
 succ : ∀ (j : Nat) (hj : j < xs.length), otherM c xs (j + 1) = sayM (otherM c xs j) xs[j].2 ∧ Goes (otherM c xs j) (otherM c xs (j + 1))
 room : ∀ j (ys : List SntX), (∀ y ∈ ys, y ∈ xs) → RoomX (otherM c xs j) ys ∧ allOf NarrowX ys
 narrow : ∀ y ∈ xs, NarrowX y ∧ sizeX y ≤ 150
 first : NarrowX c ∧ sizeX c ≤ 150
theorem Holds.said_len {S : WS} {L : List ST} (h : Holds S L) : S.said.length = L.length := h.said.length
theorem Under.other {B : WS} {K : List ST} (h : Under B K) {c : SntX} {xs : List SntX} (hc : SubX K c) (hx : ∀ x ∈ xs, SubX K x) : OtherOK c xs := by
 have key : ∀ j, Holds (otherM c xs j) ([] ++ [eraseX c] ++ (xs.take j).map eraseX) ∧ ∀ t, known ([] ++ [eraseX c] ++ (xs.take j).map eraseX) t → known K t := fun j => by
  obtain ⟨_, h1, h2⟩ := h.say Holds.none (fun t ⟨s, hs, _⟩ => by cases hs) hc
  obtain ⟨_, h3, _, h4⟩ := h.sayAll (xs.take j) h1 h2 (fun x hm => hx x (List.mem_of_mem_take hm))
  exact ⟨h3, h4⟩
 have hlen : ∀ j, (otherM c xs j).shapes.length ≤ 250 := fun j => by
  have := h.holds.fewer (key j).1 (key j).2
  have := h.few
  omega
 refine ⟨fun j => (key j).1.fine, hlen, fun j hj => ?_, fun j hj => ?_, fun j ys hy => ?_, fun y hy => ⟨(hx y hy).1, (hx y hy).2.1⟩, ⟨hc.1, hc.2.1⟩⟩
 ·rw [(key j).1.said_len]
  simp
  omega
 ·have e : otherM c xs (j + 1) = sayM (otherM c xs j) xs[j].2 := by
   unfold otherM
   rw [List.take_succ_eq_append_getElem hj, sayAll_snoc]
  have hxj := hx xs[j] (List.getElem_mem hj)
  have E := sayM_end (key j).1.fine.web hxj.1 (by have := hlen j; have : sizeX xs[j] ≤ 150 := hxj.2.1; unfold sizeX at this; omega)
  exact ⟨e, by rw [e]; exact E.goes _ (Goes.refl _)⟩
 ·obtain ⟨h1, _, h3, _⟩ := h.sayAll ys (key j).1 (key j).2 (fun y hm => hx y (hy y hm))
  exact ⟨h1, h3⟩
end Go.Proofs.YtmfkpllnmmfpiaaGreatDoor
