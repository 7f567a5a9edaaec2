/- Worlds -/
import Derived.Test.YtmfkpllnmmfpiaaGreatDoorValueW
import Derived.Test.YtmfkpllnmmfpiaaGreatDoorWhyOtherW
import Derived.Deep.RegionHeld3
namespace Go.Proofs.YtmfkpllnmmfpiaaGreatDoor
open Go.RowKit
theorem BookAt.widen {w : World} {bb : Nat} {Z Z' : Nat → Prop} {S : WS} (h : BookAt w bb Z S) (hm : ∀ k, Z k → Z' k) (hl : ∀ k, Z' k → k < w.heap.size) : BookAt w bb Z' S := by
 obtain ⟨wb, H, hc, hw⟩ := h.ex
 exact ⟨h.lt, h.self, ⟨wb, H, hc, hw.mono fun k hk _ => ⟨hm k hk.1, hk.2⟩⟩, hm _ h.own, hl, h.fine, h.terms, h.saids⟩
theorem strs_form {w : World} {base : Nat} {v : Value} {l : List ByteArray} (h : StrRow w base v l) : ∃ a cap, v = .slice a l.length cap ∧ l.length ≤ cap ∧ cap ≤ maxLen ∧ (0 < l.length → ∃ g, a = some ⟨g, 0, none⟩ ∧ g < w.heap.size ∧ ∀ (i : Nat) (t : ByteArray), l[i]? = some t → w.cell? ⟨g, i, none⟩ = some (.string t)) := by
 rcases ownsRow_slice h with ⟨h1, h2⟩ | ⟨g, cap, h1, h2, h3⟩
 ·rw [h2]
  exact ⟨none, 0, h1, Nat.le_refl _, by simp [maxLen], fun h => absurd h (Nat.lt_irrefl _)⟩
 ·subst h1
  refine ⟨_, cap, rfl, h2, h3, fun _ => ⟨g, rfl, ownsRow_lt h rfl, fun i t ht => ?_⟩⟩
  have hi := (List.getElem?_eq_some_iff.1 ht).1
  have := h.cellAt i (by omega)
  rw [this]
  simp [ht]
structure Asking (w w1 w5 wr : World) (bb : Nat) (S : WS) : Prop where
 book : BookAt wr bb (fun k => ((w.heap.size ≤ k ∧ k < w1.heap.size) ∨ w5.heap.size ≤ k) ∧ k < wr.heap.size) S
 err : ErrTab wr
 upd : Upd (List.range w1.heap.size) w5 wr
 all : Upd [] w wr
 pos : 0 < w.heap.size
theorem Asking.begin {w w1 w5 : World} {bb : Nat} {S : WS} (h : One w w1 bb S) (U : Upd [] w1 w5) : Asking w w1 w5 w5 bb S := by
 have hb := h.book.later U (fun _ _ => by simp)
 refine ⟨hb.widen (fun k hk => ⟨.inl hk, Nat.lt_of_lt_of_le hk.2 U.size⟩) (fun k hk => hk.2), h.err.later U (by simp), Upd.refl _ _, h.upd.trans U, h.pos⟩
theorem Asking.next {w w1 w5 wr w' : World} {bb : Nat} {S : WS} (h : Asking w w1 w5 wr bb S) (h15 : w1.heap.size ≤ w5.heap.size) (hw1 : w.heap.size ≤ w1.heap.size)
  (hb : BookAt w' bb (fun k => ((((w.heap.size ≤ k ∧ k < w1.heap.size) ∨ w5.heap.size ≤ k) ∧ k < wr.heap.size) ∨ wr.heap.size ≤ k) ∧ k < w'.heap.size) S) (hL : ∃ L, (∀ k ∈ L, ((w.heap.size ≤ k ∧ k < w1.heap.size) ∨ w5.heap.size ≤ k) ∧ k < wr.heap.size) ∧ Upd L wr w') : Asking w w1 w5 w' bb S := by
 obtain ⟨L, hL, U⟩ := hL
 have h1 := h.pos
 have h5 := h.upd.size
 refine ⟨hb.widen (fun k hk => ⟨?_, hk.2⟩) (fun k hk => hk.2), h.err.later U (fun hm => by have := (hL 0 hm).1; omega), h.upd.trans' U (fun x hx hl => ?_), h.all.trans' U (fun x hx hl => ?_), h1⟩
 ·rcases hk.1 with h2 | h2
  ·exact h2.1
  ·exact .inr (by omega)
 ·have := (hL x hx).1
  rw [List.mem_range]
  omega
 ·have := (hL x hx).1
  omega
theorem Asking.look {w w1 w5 wr w' : World} {bb : Nat} {S : WS} (h : Asking w w1 w5 wr bb S) (h15 : w1.heap.size ≤ w5.heap.size) (hw1 : w.heap.size ≤ w1.heap.size) (U : Upd [] wr w') : Asking w w1 w5 w' bb S :=
 h.next h15 hw1 (h.book.wider U) ⟨[], fun k hk => (by cases hk), U⟩
theorem RowsIn.kept {w w' : World} {g m : Nat} {xs : List RX} (h : RowsIn w g xs) (hu : Upd (List.range m) w w') (hg : m ≤ g) (ha : ∀ x ∈ xs, ∀ k, x.2.ownBlock = some k → m ≤ k) : RowsIn w' g xs := by
 have hn : g ∉ List.range m := by rw [List.mem_range]; omega
 refine ⟨⟨Nat.lt_of_lt_of_le h.rows.lt hu.size, fun i x hx => ⟨(hu.cell (p := ⟨g, i * 3, none⟩) h.rows.lt hn).trans (h.rows.cell i x hx).1, (hu.cell (p := ⟨g, i * 3 + 1, none⟩) h.rows.lt hn).trans (h.rows.cell i x hx).2.1, (hu.cell (p := ⟨g, i * 3 + 2, none⟩) h.rows.lt hn).trans (h.rows.cell i x hx).2.2⟩, fun o ho => (hu.frozen (p := ⟨g, o, none⟩) h.rows.lt hn).trans (h.rows.free o ho)⟩, fun x hx => (h.args x hx).later hu (fun k hk hm => by have := ha x hx k hk; rw [List.mem_range] at hm; omega)⟩
theorem told_fix {w5 : World} {base m cap b i : Nat} {v : Value} {rs : List Value} {ls : List (List ByteArray)} {l : List ByteArray} (h : ListsAt w5 base v rs ls) (hm : m ≤ base) (hv : v = .slice (some ⟨b, 0, none⟩) ls.length cap) (hi : ls[i]? = some l) (hne : l ≠ []) :
  ∃ d cr, l.length ≤ 9223372036854775807 ∧ ∀ wr, Upd (List.range m) w5 wr → wr.cell? ⟨b, i, none⟩ = some (.slice (some ⟨d, 0, none⟩) l.length cr) ∧ ∀ (q : Nat) (t : ByteArray), l[q]? = some t → wr.cell? ⟨d, q, none⟩ = some (.string t) := by
 have hlt := (List.getElem?_eq_some_iff.1 hi).1
 obtain ⟨r, hr⟩ : ∃ r, rs[i]? = some r := ⟨_, List.getElem?_eq_getElem (by rw [h.len]; exact hlt)⟩
 have hs := h.all i r l hr hi
 rcases ownsRow_slice hs with ⟨_, h0⟩ | ⟨d, c2, h1, h2, h3⟩
 ·exact absurd (List.length_eq_zero_iff.1 h0) hne
 ·subst h1
  refine ⟨d, c2, by unfold maxLen at h3; omega, fun wr U => ?_⟩
  have hl := h.later U (fun k hk => .inl (by rw [List.mem_range] at hk; omega))
  have hrow := hl.row
  rw [hv] at hrow
  have hs' := hl.all i _ l hr hi
  refine ⟨by rw [hrow.cellAt i (by omega), hr], fun q t hq => ?_⟩
  have hql := (List.getElem?_eq_some_iff.1 hq).1
  unfold StrRow at hs'
  rw [hs'.cellAt q (by omega), List.getElem?_map, hq]
  rfl
theorem ask_text (t u : T3) : t.bytes ++ (⟨#[32, 61, 32]⟩ : ByteArray) ++ u.bytes = s3T t true u := by
 show (⟨t.txt.toArray⟩ : ByteArray) ++ (⟨([32, 61, 32] : List UInt8).toArray⟩ : ByteArray) ++ ⟨u.txt.toArray⟩ = _
 rw [bytes_append, bytes_append]
 simp [s3T]
set_option maxHeartbeats 4000000 in
set_option maxRecDepth 100000 in
theorem worlds_clash (ao : Option Addr) (zs : List Int) (cap : Nat) (w : World) (hE : ErrTab w) (hR : RawIs w ao zs) (hc : clashM (fillM noWS (zs.take 12)) = true) :
  Calls Tryz.prog 8 #[.slice ao zs.length cap] w fun e w' => e = .returned (.bool true) ∧ Upd [] w w' := by
 have HF1 := hide (filled_any ao zs cap w hE hR)
 have HW := hide (fun (w5 : World) (bb : Nat) (h : One w w5 bb (fillM noWS (zs.take 12))) => bookWorld_clash w5 bb _ _ h.book hc)
 have HC := hide (fun (w5 : World) (bb : Nat) (h : One w w5 bb (fillM noWS (zs.take 12))) => clash_any w5 bb _ _ h.book)
 rw [hc] at HC
 clear hc hE hR
 generalize fillM noWS (zs.take 12) = S at *
 go_enter Tryz.func8, Tryz.ntmps8
 go_wp2_with (first
  | (go_at_call 14; refine HF1.out.mono ?_; rintro e w1 ⟨bb, rfl, h1⟩; have H1 := hide h1; clear h1)
  | (go_at_call 15; refine (HW.out _ bb H1.out).mono ?_; rintro e w2 ⟨rfl, hu2⟩; have H2 := hide (H1.out.look hu2); clear hu2)
  | (go_at_call 16; refine (HC.out _ bb H2.out).mono ?_; rintro e w3 ⟨rfl, hu3⟩; have H3 := hide (H2.out.look hu3); clear hu3))
 go_ret
 exact ⟨rfl, H3.out.upd⟩
set_option maxHeartbeats 16000000 in
set_option maxRecDepth 100000 in
theorem worlds_open (ao : Option Addr) (zs : List Int) (cap : Nat) (w : World) (hE : ErrTab w) (hR : RawIs w ao zs) (hc : clashM (fillM noWS (zs.take 12)) = false) :
  Calls Tryz.prog 8 #[.slice ao zs.length cap] w fun e w' => e = .returned (.bool true) ∧ Upd [] w w' := by
 have hl12 : (zs.take 12).length ≤ 12 := by simp; omega
 obtain ⟨hbk, hgd⟩ := fill_ok (zs.take 12) (by omega)
 have hB := both_fill (zs.take 12) hl12
 have HF1 := hide (filled_any ao zs cap w hE hR)
 have HW := hide (fun (w5 : World) (bb : Nat) (h : One w w5 bb (fillM noWS (zs.take 12))) => bookWorld_any w5 bb _ _ h.book hgd.text hc)
 have HC := hide (fun (w5 : World) (bb : Nat) (h : One w w5 bb (fillM noWS (zs.take 12))) => clash_any w5 bb _ _ h.book)
 rw [hc] at HC
 have HSd := hide (fun (w5 : World) (bb : Nat) (h : One w w5 bb (fillM noWS (zs.take 12))) => bookSaid_any w5 bb _ _ h.book hgd.tag hgd.text)
 have HCs := hide (fun (w5 : World) (bb : Nat) (h : One w w5 bb (fillM noWS (zs.take 12))) => bookClasses_any w5 bb _ _ h.book hgd.text)
 have hsd : saidOf (fillM noWS (zs.take 12)) = (zs.take 12).map (fun z => (s3Of z).text) := by
  rw [hB.holds.texts, List.map_map]
  exact List.map_congr_left fun z _ => S3.st_text (s3Of z)
 have HAt : Hid (∀ (j : Nat) (z : Int), (zs.take 12)[j]? = some z → ((s3Of z).l.small ∧ (s3Of z).r.small) ∧ (known ((zs.take 12).map stOf) (trmOf (s3Of z).l) ∧ known ((zs.take 12).map stOf) (trmOf (s3Of z).r)) ∧ (vOf (fillM noWS (zs.take 12)) (s3Of z).l = vOf (fillM noWS (zs.take 12)) (s3Of z).r ↔ (s3Of z).b = true)) := fun j z hz => by
  have ho := s3Of_ok z
  have hm : stOf z ∈ (zs.take 12).map stOf := List.mem_map_of_mem (List.mem_of_getElem? hz)
  exact ⟨⟨⟨ho.l, ho.dl⟩, ⟨ho.r, ho.dr⟩⟩, ⟨⟨_, hm, .inl (.self _)⟩, ⟨_, hm, .inr (.self _)⟩⟩, hB.said_v hc hm⟩
 have HAsk := hide (fun (t u : T3) (ht : t.small) (hu : u.small) kt ku (f : Bool) hf (wr : World) (bb : Nat) (Z : Nat → Prop) (h : BookAt wr bb Z (fillM noWS (zs.take 12))) (he : ErrTab wr) => keepFollows_any (s3T t true u) wr bb Z _ (by have := S3.size (s := ⟨t, true, u⟩) ⟨ht.ok, hu.ok, ht.deep, hu.deep⟩; show (S3.text ⟨t, true, u⟩).size ≤ _; unfold maxLen; omega) h he (fill_ask (zs.take 12) hl12 ht hu kt ku hc (f := f) hf))
 have HCl := hide (fun (i : Nat) (c : List ByteArray) h => class_at (l := zs.take 12) hl12 (i := i) (c := c) h)
 have HTl := hide (fun (rs : List RowP) (hw : WorldIs (fillM noWS (zs.take 12)) rs) (t : T3) k => hB.tells hw t k)
 have hwpos := hE.1
 rw [hsd] at HSd
 have hlc : (classesOf (fillM noWS (zs.take 12))).length ≤ 1000 := by
  have h1 : (classesOf (fillM noWS (zs.take 12))).length = (firstsOf (allCls (fillM noWS (zs.take 12)))).length := by unfold classesOf listsTo; rw [List.length_map]; rfl
  have h2 := firsts_length (allCls (fillM noWS (zs.take 12)))
  have h3 : (allCls (fillM noWS (zs.take 12))).length ≤ (fillM noWS (zs.take 12)).shapes.length := by
   unfold allCls clsTo
   rw [List.length_map, List.length_take, sortedT_length]
   omega
  have := hB.terms
  omega
 clear hbk hgd hB hsd hE hR hc
 generalize fillM noWS (zs.take 12) = S at *
 obtain ⟨ls, hls⟩ : ∃ ls, classesOf S = ls := ⟨_, rfl⟩
 rw [hls] at HCs HCl hlc
 clear hls
 obtain ⟨K, hK⟩ : ∃ K, (zs.take 12).length = K := ⟨_, rfl⟩
 rw [hK] at hl12
 have HK := hide hK
 have hKz : K = zs.length ∨ K = 12 := by rw [← hK, List.length_take]; omega
 clear hK
 go_enter Tryz.func8, Tryz.ntmps8
 go_upto_region 10 with (first
  | (go_at_call 14; refine HF1.out.mono ?_; rintro e w1 ⟨bb, rfl, h1⟩; have H1 := hide h1; clear h1)
  | (go_at_call 15; refine (HW.out _ bb H1.out).mono ?_; rintro e w2 ⟨v2, xs, rfl, hu2, ha2, hi2⟩; have HU2 := hide hu2; have H2 := hide (H1.out.look hu2); have HA2 := hide ha2; have HI2 := hide hi2; clear hu2 ha2 hi2)
  | (go_at_call 16; refine (HC.out _ bb H2.out).mono ?_; rintro e w3 ⟨rfl, hu3⟩; have H3 := hide (H2.out.look hu3); have HU3 := hide (HU2.out.trans hu3); have HU3x := hide hu3; clear hu3)
  | (go_at_call 17; refine (HSd.out _ bb H3.out).mono ?_; rintro e w4 ⟨v4, rfl, hu4, hr4⟩; have H4 := hide (H3.out.look hu4); have HU4 := hide (HU3.out.trans hu4); have HR4 := hide hr4; have HU24 := hide (HU3x.out.trans hu4); clear hu4 hr4))
 obtain ⟨g, capg, hv2, hx1, hx2, hg, hra⟩ := HA2.out.sl
 obtain ⟨N, hN⟩ : ∃ N, xs.length = N := ⟨_, rfl⟩
 rw [hN] at hv2 hx1
 subst hv2
 have HR2 : Hid (RowsIn w2 g xs) := ⟨hra, HA2.out.args⟩
 have Hlow : Hid (∀ x ∈ xs, ∀ k, x.2.ownBlock = some k → w1.heap.size ≤ k) := fun x hx k hk => own_geT (HA2.out.own x hx) hk
 have HVal : Hid (∀ (t : T3) (wr : World), t.small → known ((zs.take 12).map stOf) (trmOf t) → RowsIn wr g xs → Calls Tryz.prog 19 #[.slice (some ⟨g, 0, none⟩) N capg, .string t.bytes] wr fun e w' => e = .returned (.int .i64 (vOf S t)) ∧ Upd [] wr w') := fun t wr ht kt hr => value_any t wr g capg N xs (vOf S) ht (HTl.out _ HI2.out t kt) hr hN hx1 hx2
 obtain ⟨a4, cap4, hv4, c1, c2, f4⟩ := strs_form HR4.out
 rw [List.length_map, HK.out] at hv4 c1 f4
 subst hv4
 have F4 := hide f4
 have Hg := hide hg
 obtain ⟨ZL, hZL⟩ : ∃ ZL, zs.length = ZL := ⟨_, rfl⟩
 rw [hZL] at hKz ⊢
 unfold maxLen at hx2 c2
 clear f4 hra hN hg HF1 HW HC HSd H2 H3 HU2 HU3 HU3x HA2 HR4 HI2 HTl hZL
 go_cut [55] (fun cv wx => cv = .bool false ∧ wx = w4)
 case first =>
  by_cases e : K = ZL
  ·subst e
   go_wp2_with fail
   go_meet
   case rel => exact ⟨rfl, rfl⟩
  ·obtain rfl : K = 12 := by omega
   have eb : ((12 : Int) == (ZL : Int)) = false := by rw [beq_eq_false_iff_ne]; omega
   go_wp2_with fail
   go_meet
   case rel => exact ⟨rfl, rfl⟩
 case rest =>
  obtain ⟨rfl, hwc⟩ := hcut
  rw [hwc]
  clear hwc
  go_wp2_with fail
  go_loopw [7] (fun iv wr => ∃ j : Nat, j ≤ K ∧ iv = .int .i64 j ∧ Hid (Upd [] w4 wr)) (fun iv _ => K - (intOf iv).toNat)
  case atStart => exact ⟨0, Nat.zero_le _, rfl, Upd.refl _ _⟩
  case round =>
   obtain ⟨j, hj, rfl, HUr⟩ := hrel
   by_cases hjK : j < K
   ·have hjI : (j : Int) < (K : Int) := by omega
    obtain ⟨z, hz⟩ : ∃ z, (zs.take 12)[j]? = some z := ⟨_, List.getElem?_eq_getElem (by rw [HK.out]; exact hjK)⟩
    obtain ⟨⟨hsl, hsr⟩, ⟨kl, kr⟩, hiff⟩ := HAt.out j z hz
    obtain ⟨g4, rfl, hg4, hc4⟩ := F4.out (by omega)
    have k4 : wr.cell? ⟨g4, j, none⟩ = some (.string (s3Of z).text) := (HUr.out.cell (p := ⟨g4, j, none⟩) hg4 (by simp)).trans (hc4 j _ (by rw [List.getElem?_map, hz]; rfl))
    have HSi := hide (fun w' : World => sides_any (s3Of z) (s3Of_ok z) w')
    have HVl := hide (fun (w' : World) (hu : Upd [] w4 w') => HVal.out (s3Of z).l w' hsl kl (HR2.out.later (HU24.out.trans hu)))
    have HVr := hide (fun (w' : World) (hu : Upd [] w4 w') => HVal.out (s3Of z).r w' hsr kr (HR2.out.later (HU24.out.trans hu)))
    generalize (s3Of z).text = tx at *
    generalize (s3Of z).l.bytes = lb at *
    generalize (s3Of z).r.bytes = rb at *
    generalize vOf S (s3Of z).l = p at *
    generalize vOf S (s3Of z).r = q at *
    generalize (s3Of z).b = b at *
    have hp0 : ¬ (p : Int) < 0 := by omega
    have hq0 : ¬ (q : Int) < 0 := by omega
    clear hc4 hz hsl hsr kl kr hg4
    cases b with
    | true =>
     have hpq : p = q := hiff.2 rfl
     subst hpq
     clear hiff
     go_wp2_with (first
      | (go_at_call 18; refine (HSi.out _).mono ?_; rintro e w6 ⟨rfl, hu6⟩; have H6 := hide (HUr.out.trans hu6); clear hu6)
      | (go_at_call_of 19 (Value.string lb); refine (HVl.out _ H6.out).mono ?_; rintro e w7 ⟨rfl, hu7⟩; have H7 := hide (H6.out.trans hu7); clear hu7)
      | (go_at_call_of 19 (Value.string rb); refine (HVr.out _ H7.out).mono ?_; rintro e w8 ⟨rfl, hu8⟩; have H8 := hide (H7.out.trans hu8); clear hu8))
     exact ⟨⟨j + 1, by omega, by go_num, H8.out⟩, by simp [intOf]; omega⟩
    | false =>
     have hpq : ((p : Int) == (q : Int)) = false := by
      rw [beq_eq_false_iff_ne]
      intro e
      have := hiff.1 (by omega)
      cases this
     clear hiff
     go_wp2_with (first
      | (go_at_call 18; refine (HSi.out _).mono ?_; rintro e w6 ⟨rfl, hu6⟩; have H6 := hide (HUr.out.trans hu6); clear hu6)
      | (go_at_call_of 19 (Value.string lb); refine (HVl.out _ H6.out).mono ?_; rintro e w7 ⟨rfl, hu7⟩; have H7 := hide (H6.out.trans hu7); clear hu7)
      | (go_at_call_of 19 (Value.string rb); refine (HVr.out _ H7.out).mono ?_; rintro e w8 ⟨rfl, hu8⟩; have H8 := hide (H7.out.trans hu8); clear hu8))
     exact ⟨⟨j + 1, by omega, by go_num, H8.out⟩, by simp [intOf]; omega⟩
   ·have hjI : ¬ (j : Int) < (K : Int) := by omega
    go_upto_region 21 with (go_at_call 20; refine (HCs.out _ bb (H4.out.look HUr.out)).mono ?_; rintro e w5 ⟨v5, rs, rfl, hu5, hl5⟩; have HU5 := hide (HUr.out.trans hu5); have HL5 := hide hl5; clear hu5 hl5)
    have H5 := hide (Asking.begin H1.out (HU4.out.trans HU5.out))
    have HR5 := hide (HR2.out.later (HU24.out.trans HU5.out))
    have hs45 : w1.heap.size ≤ w5.heap.size := (HU4.out.trans HU5.out).size
    have hs01 : w.heap.size ≤ w1.heap.size := H1.out.upd.size
    have HRk : Hid (∀ wr, Upd (List.range w1.heap.size) w5 wr → RowsIn wr g xs) := fun wr hu => HR5.out.kept hu Hg.out Hlow.out
    obtain ⟨n, hn⟩ : ∃ n, ls.length = n := ⟨_, rfl⟩
    have hrow5 := HL5.out.row
    rw [hn] at hrow5 hlc
    have Hn := hide hn
    have hbase : w1.heap.size ≤ wr.heap.size := Nat.le_trans HU4.out.size HUr.out.size
    obtain ⟨g5, cap5, hv5⟩ := slice_len hrow5
    have hcap5 : n ≤ cap5 ∧ cap5 ≤ 9223372036854775807 := by
     rcases ownsRow_slice hrow5 with ⟨h1, h2⟩ | ⟨gq, cq, h1, h2, h3⟩
     ·rw [hv5] at h1; cases h1; omega
     ·rw [hv5] at h1; cases h1; unfold maxLen at h3; exact ⟨h2, by omega⟩
    have HFix : Hid (∀ (i : Nat) (c : List ByteArray), ls[i]? = some c → ∃ b d cr, g5 = some ⟨b, 0, none⟩ ∧ c.length ≤ 9223372036854775807 ∧ ∀ wr, Upd (List.range w1.heap.size) w5 wr → wr.cell? ⟨b, i, none⟩ = some (.slice (some ⟨d, 0, none⟩) c.length cr) ∧ ∀ (q : Nat) (t : ByteArray), c[q]? = some t → wr.cell? ⟨d, q, none⟩ = some (.string t)) := fun i c hc => by
     have hil := (List.getElem?_eq_some_iff.1 hc).1
     rw [Hn.out] at hil
     rcases ownsRow_slice hrow5 with ⟨_, h2⟩ | ⟨gq, cq, h1, _, _⟩
     ·omega
     ·have hge : g5 = some ⟨gq, 0, none⟩ := by rw [hv5] at h1; cases h1; rfl
      obtain ⟨d, cr, e1, e2⟩ := told_fix HL5.out hbase (by rw [Hn.out]; exact h1) hc (HCl.out i c hc).1
      exact ⟨gq, d, cr, hge, e1, e2⟩
    subst hv5
    clear hrow5 hn HL5 HCs H4 HU5 HR5 HR2 F4 HAt
    go_wp2_with fail
    go_loopw [14] (fun iv wr => ∃ i : Nat, i ≤ n ∧ iv = .int .i64 i ∧ Hid (Asking w w1 w5 wr bb S)) (fun iv _ => n - (intOf iv).toNat)
    case atStart => exact ⟨0, Nat.zero_le _, rfl, H5.out⟩
    case round =>
     obtain ⟨i, hi, rfl, HAi⟩ := hrel
     by_cases hin : i < n
     ·have hiI : (i : Int) < (n : Int) := by omega
      obtain ⟨c, hc⟩ : ∃ c, ls[i]? = some c := ⟨_, List.getElem?_eq_getElem (by rw [Hn.out]; exact hin)⟩
      obtain ⟨hne, hall⟩ := HCl.out i c hc
      have Hall := hide hall
      obtain ⟨b5, d, cr, rfl, hcl, hfix⟩ := HFix.out i c hc
      have Hfix := hide hfix
      obtain ⟨lc, hlc'⟩ : ∃ lc, c.length = lc := ⟨_, rfl⟩
      rw [hlc'] at Hfix hcl
      have Hlc := hide hlc'
      have hlc0 : 0 < lc := by rw [← hlc']; exact List.length_pos_iff.2 hne
      obtain ⟨y0, hy0⟩ : ∃ y0, c[0]? = some y0 := ⟨_, List.getElem?_eq_getElem (by rw [hlc']; exact hlc0)⟩
      obtain ⟨t0, e0, s0, k0, v0⟩ := hall y0 (List.mem_of_getElem? hy0)
      have hy0sz : y0.size ≤ 20 := by rw [e0, T3.size]; exact (cut_is s0).2.2.2.2
      have E0 := hide e0
      have V0 := hide v0
      have S0 := hide s0
      have K0 := hide k0
      clear e0 v0 s0 k0
      have Hy0 := hide hy0
      obtain ⟨w0, hw0⟩ : ∃ w0, w0 = wr := ⟨_, rfl⟩
      subst hw0
      clear hfix hall hc hlc' hne hy0
      go_wp2_with fail
      go_loopw [15] (fun kv wr => ∃ k : Nat, k ≤ lc ∧ kv = .int .i64 k ∧ Hid (Asking w w1 w5 wr bb S)) (fun kv _ => lc - (intOf kv).toNat)
      case atStart => exact ⟨0, Nat.zero_le _, rfl, HAi.out⟩
      case round =>
       obtain ⟨k, hk, rfl, HAk⟩ := hrel
       have z0 := (Hfix.out wr HAk.out.upd).1
       by_cases hkl : k < lc
       ·have hkI : (k : Int) < (lc : Int) := by omega
        obtain ⟨y, hy⟩ : ∃ y, c[k]? = some y := ⟨_, List.getElem?_eq_getElem (by rw [Hlc.out]; exact hkl)⟩
        obtain ⟨t, ey, sy, ky, vy⟩ := Hall.out y (List.mem_of_getElem? hy)
        have z1 := (Hfix.out wr HAk.out.upd).2 k y hy
        have HV := hide (HVal.out t wr sy ky (HRk.out wr HAk.out.upd))
        rw [vy, ← ey] at HV
        have hysz : y.size ≤ 20 := by rw [ey, T3.size]; exact (cut_is sy).2.2.2.2
        have HQ : Hid (∀ w', Asking w w1 w5 w' bb S → Calls Tryz.prog 21 #[.pointer (some ⟨bb, 0, none⟩), .string (y ++ ⟨#[32, 61, 32]⟩ ++ y0)] w' fun e w'' => e = .returned (.tuple #[.bool true, .bool true]) ∧ Asking w w1 w5 w'' bb S) := fun w' hA => by
         rw [ey, E0.out, ask_text]
         refine (HAsk.out t t0 sy S0.out ky K0.out true (by rw [vy, V0.out]; simp) w' bb _ hA.book hA.err).mono ?_
         rintro e w'' ⟨he, hb, hL⟩
         exact ⟨he, hA.next hs45 hs01 hb hL⟩
        have HC2 : Hid (∀ w', Asking w w1 w5 w' bb S → w'.cell? ⟨b5, i, none⟩ = some (.slice (some ⟨d, 0, none⟩) lc cr) ∧ w'.cell? ⟨d, k, none⟩ = some (.string y) ∧ w'.cell? ⟨d, 0, none⟩ = some (.string y0)) := fun w' hA => ⟨(Hfix.out w' hA.upd).1, (Hfix.out w' hA.upd).2 k y hy, (Hfix.out w' hA.upd).2 0 y0 Hy0.out⟩
        have e3 : (⟨#[32, 61, 32]⟩ : ByteArray).size = 3 := rfl
        have hA1 : ∀ w, (Op.stringOp .add y ⟨#[32, 61, 32]⟩).run Tryz.prog w = .ok (.string (y ++ ⟨#[32, 61, 32]⟩)) w := fun w => run_string_add_sum w _ _ (by omega)
        have hA2 : ∀ w, (Op.stringOp .add (y ++ ⟨#[32, 61, 32]⟩) y0).run Tryz.prog w = .ok (.string (y ++ ⟨#[32, 61, 32]⟩ ++ y0)) w := fun w => run_string_add_sum w _ _ (by simp only [ByteArray.size_append]; omega)
        by_cases hi0 : i = 0
        ·have hi0I : ¬ (0 : Int) < (i : Int) := by omega
         clear hy vy ey sy ky e3 hi0
         go_upto_region 29 with (go_at_call 19; refine HV.out.mono ?_; rintro e w6 ⟨rfl, hu6⟩; have HA6 := hide (HAk.out.look hs45 hs01 hu6); obtain ⟨q0, q1, q2⟩ := HC2.out w6 HA6.out; clear hu6 z0 z1)
         go_region_held3 (fun w' => w'.cell? ⟨b5, i, none⟩ = some (.slice (some ⟨d, 0, none⟩) lc cr) ∧ w'.cell? ⟨d, k, none⟩ = some (.string y) ∧ w'.cell? ⟨d, 0, none⟩ = some (.string y0)) ((first | go_keep | (refine ⟨?_, ?_, ?_⟩ <;> go_simp)))
          ((go_at_call 21; refine (HQ.out _ (HA6.out.look hs45 hs01 (Upd.refl [] w6).drew)).mono ?_; rintro e w7 ⟨rfl, hA7⟩; obtain ⟨x0, x1, x2⟩ := HC2.out w7 hA7; have HA7 := hide hA7; clear hA7))
         go_wp2
         exact ⟨⟨k + 1, by omega, by go_num, HA7.out⟩, by simp [intOf]; omega⟩
        ·have hi0I : (0 : Int) < (i : Int) := by omega
         obtain ⟨im, him⟩ : ∃ im, i = im + 1 := ⟨i - 1, by omega⟩
         have hw1 : IntKind.i64.wrap ((i : Int) - 1) = (im : Int) := wrap_pred him (by omega)
         obtain ⟨c', hc'⟩ : ∃ c', ls[im]? = some c' := ⟨_, List.getElem?_eq_getElem (by rw [Hn.out]; omega)⟩
         obtain ⟨hne', hall'⟩ := HCl.out im c' hc'
         obtain ⟨b5', d', cr', hb5', hcl', hfix'⟩ := HFix.out im c' hc'
         cases hb5'
         obtain ⟨lc', hlc'⟩ : ∃ lc, c'.length = lc := ⟨_, rfl⟩
         rw [hlc'] at hfix' hcl'
         have hlc0' : 0 < lc' := by rw [← hlc']; exact List.length_pos_iff.2 hne'
         obtain ⟨y', hy'⟩ : ∃ y', c'[0]? = some y' := ⟨_, List.getElem?_eq_getElem (by rw [hlc']; exact hlc0')⟩
         obtain ⟨t', e', s', k', v'⟩ := hall' y' (List.mem_of_getElem? hy')
         have hy'sz : y'.size ≤ 20 := by rw [e', T3.size]; exact (cut_is s').2.2.2.2
         have hA3 : ∀ w, (Op.stringOp .add (y ++ ⟨#[32, 61, 32]⟩) y').run Tryz.prog w = .ok (.string (y ++ ⟨#[32, 61, 32]⟩ ++ y')) w := fun w => run_string_add_sum w _ _ (by simp only [ByteArray.size_append]; omega)
         have HQ' : Hid (∀ w', Asking w w1 w5 w' bb S → Calls Tryz.prog 21 #[.pointer (some ⟨bb, 0, none⟩), .string (y ++ ⟨#[32, 61, 32]⟩ ++ y')] w' fun e w'' => e = .returned (.tuple #[.bool false, .bool true]) ∧ Asking w w1 w5 w'' bb S) := fun w' hA => by
          rw [ey, e', ask_text]
          refine (HAsk.out t t' sy s' ky k' false (by rw [vy, v', him]; exact ⟨fun h => (by cases h), fun h => (by omega)⟩) w' bb _ hA.book hA.err).mono ?_
          rintro e w'' ⟨he, hb, hL⟩
          exact ⟨he, hA.next hs45 hs01 hb hL⟩
         have HC3 : Hid (∀ w', Asking w w1 w5 w' bb S → w'.cell? ⟨b5, i, none⟩ = some (.slice (some ⟨d, 0, none⟩) lc cr) ∧ w'.cell? ⟨d, k, none⟩ = some (.string y) ∧ w'.cell? ⟨b5, im, none⟩ = some (.slice (some ⟨d', 0, none⟩) lc' cr') ∧ w'.cell? ⟨d', 0, none⟩ = some (.string y')) := fun w' hA => ⟨(Hfix.out w' hA.upd).1, (Hfix.out w' hA.upd).2 k y hy, (hfix' w' hA.upd).1, (hfix' w' hA.upd).2 0 y' hy'⟩
         have himn : (im : Int) < (n : Int) := by omega
         have hlcI : (0 : Int) < (lc' : Int) := by omega
         clear hy vy ey sy ky e3 hi0 him hc' hne' hall' hfix' hlc' hy' e' s' k' v'
         go_upto_region 29 with (go_at_call 19; refine HV.out.mono ?_; rintro e w6 ⟨rfl, hu6⟩; have HA6 := hide (HAk.out.look hs45 hs01 hu6); obtain ⟨q0, q1, q2⟩ := HC2.out w6 HA6.out; clear hu6 z0 z1)
         go_region_held3 (fun w' => w'.cell? ⟨b5, i, none⟩ = some (.slice (some ⟨d, 0, none⟩) lc cr) ∧ w'.cell? ⟨d, k, none⟩ = some (.string y) ∧ w'.cell? ⟨d, 0, none⟩ = some (.string y0)) ((first | go_keep | (refine ⟨?_, ?_, ?_⟩ <;> go_simp)))
          ((go_at_call 21; refine (HQ.out _ (HA6.out.look hs45 hs01 (Upd.refl [] w6).drew)).mono ?_; rintro e w7 ⟨rfl, hA7⟩; obtain ⟨x0, x1, x2⟩ := HC2.out w7 hA7; have HA7 := hide hA7; clear hA7))
         clear q0 q1 q2
         obtain ⟨_, _, x3, x4⟩ := HC3.out w7 HA7.out
         go_upto_region 33 with fail
         go_region_held3 (fun w' => w'.cell? ⟨b5, i, none⟩ = some (.slice (some ⟨d, 0, none⟩) lc cr) ∧ w'.cell? ⟨d, k, none⟩ = some (.string y) ∧ w'.cell? ⟨b5, im, none⟩ = some (.slice (some ⟨d', 0, none⟩) lc' cr') ∧ w'.cell? ⟨d', 0, none⟩ = some (.string y')) ((first | go_keep | (refine ⟨?_, ?_, ?_, ?_⟩ <;> go_simp)))
          ((go_at_call 21; refine (HQ'.out _ (HA7.out.look hs45 hs01 (Upd.refl [] w7).drew)).mono ?_; rintro e w8 ⟨rfl, hA8⟩; obtain ⟨p0, p1, p2, p3⟩ := HC3.out w8 hA8; have HA8 := hide hA8; clear hA8))
         clear x0 x1 x2 x3 x4
         go_wp2
         exact ⟨⟨k + 1, by omega, by go_num, HA8.out⟩, by simp [intOf]; omega⟩
       ·have hkI : ¬ (k : Int) < (lc : Int) := by omega
        go_wp2
        exact ⟨⟨i + 1, by omega, by go_num, HAk.out⟩, by simp [intOf]; omega⟩
     ·have hiI : ¬ (i : Int) < (n : Int) := by omega
      go_wp2
      go_ret
      exact ⟨rfl, HAi.out.all⟩
theorem worlds_any (ao : Option Addr) (zs : List Int) (cap : Nat) (w : World) (hE : ErrTab w) (hR : RawIs w ao zs) :
  Calls Tryz.prog 8 #[.slice ao zs.length cap] w fun e w' => e = .returned (.bool true) ∧ Upd [] w w' := by
 cases hc : clashM (fillM noWS (zs.take 12)) with
 | true => exact worlds_clash ao zs cap w hE hR hc
 | false => exact worlds_open ao zs cap w hE hR hc
end Go.Proofs.YtmfkpllnmmfpiaaGreatDoor
