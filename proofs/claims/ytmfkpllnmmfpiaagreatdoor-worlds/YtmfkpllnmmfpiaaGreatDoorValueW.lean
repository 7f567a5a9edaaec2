/- Value -/
import Derived.Test.YtmfkpllnmmfpiaaGreatDoorSidesW
import Derived.Deep.DeepMust
import Derived.Deep.CutBlock
namespace Go.Proofs.YtmfkpllnmmfpiaaGreatDoor
open Go.RowKit
structure RowsIn (w : World) (g : Nat) (xs : List RX) : Prop where
 rows : RowsAt w g xs
 args : ∀ x ∈ xs, IntsAt w x.2 x.1.args
theorem RowsIn.later {w w' : World} {g : Nat} {xs : List RX} (h : RowsIn w g xs) (hu : Upd [] w w') : RowsIn w' g xs := ⟨h.rows.later hu, fun x hx => (h.args x hx).later hu (fun _ _ => by simp)⟩
structure ArgRow (w wr : World) (v : Value) (l : List Nat) : Prop where
 row : wr.ownsRow w.heap.size 3 1 v l.length (intsOf l)
 upd : Upd [] w wr
theorem T3.part_small : ∀ {t : T3} {q : Nat} {p : T3}, t.parts[q]? = some p → t.small → p.small ∧ p.depth < t.depth
 | .v _, q, p, hp, _ => by simp [T3.parts] at hp
 | .f u, q, p, hp, h => by
  have hk := h.ok
  have hd := h.deep
  simp only [T3.depth] at hd
  match q, hp with
  | 0, hp =>
   simp only [T3.parts, List.getElem?_cons_zero, Option.some.injEq] at hp
   subst hp
   exact ⟨⟨hk, by omega⟩, by simp only [T3.depth]; omega⟩
  | q + 1, hp => simp [T3.parts] at hp
 | .g u i, q, p, hp, h => by
  have hk := h.ok
  have hd := h.deep
  simp only [T3.depth] at hd
  match q, hp with
  | 0, hp =>
   simp only [T3.parts, List.getElem?_cons_zero, Option.some.injEq] at hp
   subst hp
   exact ⟨⟨hk.1, by omega⟩, by simp only [T3.depth]; omega⟩
  | 1, hp =>
   simp only [T3.parts, List.getElem?_cons_succ, List.getElem?_cons_zero, Option.some.injEq] at hp
   subst hp
   exact ⟨⟨hk.2, by simp only [T3.depth]; omega⟩, by simp only [T3.depth]; omega⟩
  | q + 2, hp => simp [T3.parts] at hp
theorem cut_open {b : List UInt8} {m : Nat} (hc : b.getD (m + 2) 0 = 40) : cutAt b (m + 1) = ((cutAt b m).1 + 1, (cutAt b m).2.1, (cutAt b m).2.2) := by
 simp only [cutAt]
 rw [if_pos hc]
theorem cut_part {b : List UInt8} {m : Nat} (h0 : (cutAt b m).1 = 0) (hc : b.getD (m + 2) 0 = 44 ∨ b.getD (m + 2) 0 = 41) : cutAt b (m + 1) = (0, m + 4, (cutAt b m).2.2 + 1) := by
 simp only [cutAt]
 rw [if_neg (fun e => by rcases hc with hc | hc <;> rw [hc] at e <;> cases e), if_pos ⟨h0, hc⟩]
theorem cut_close {b : List UInt8} {m : Nat} (h0 : (cutAt b m).1 ≠ 0) (hc : b.getD (m + 2) 0 = 41) : cutAt b (m + 1) = ((cutAt b m).1 - 1, (cutAt b m).2.1, (cutAt b m).2.2) := by
 simp only [cutAt]
 rw [if_neg (fun e => by rw [hc] at e; cases e), if_neg (fun e => h0 e.1), if_pos hc]
theorem cut_else {b : List UInt8} {m : Nat} (h1 : b.getD (m + 2) 0 ≠ 40) (h2 : b.getD (m + 2) 0 ≠ 41) (h3 : (cutAt b m).1 ≠ 0 ∨ b.getD (m + 2) 0 ≠ 44) : cutAt b (m + 1) = cutAt b m := by
 simp only [cutAt]
 rw [if_neg h1, if_neg (fun e => e.2.elim (fun e2 => h3.elim (fun h => h e.1) (fun h => h e2)) h2), if_neg h2]
theorem bytes_inj {a b : ByteArray} (h : a.toList = b.toList) : a = b := by
 apply ByteArray.ext
 apply Array.ext'
 simpa [ByteArray.toList_eq] using h
theorem bytes_ne {a b : ByteArray} (h : a ≠ b) : (a.toList == b.toList) = false := by
 cases hb : (a.toList == b.toList)
 ·rfl
 ·exact absurd (bytes_inj (eq_of_beq hb)) h
def ValueOK (n : Nat) : Prop := ∀ (t : T3) (w : World) (g cap N : Nat) (xs : List RX) (V : T3 → Nat), t.small → t.depth < n → Tells (xs.map (·.1)) V t → RowsIn w g xs → xs.length = N → N ≤ cap → cap ≤ maxLen →
 Calls Tryz.prog 19 #[.slice (some ⟨g, 0, none⟩) N cap, .string t.bytes] w fun e w' => e = .returned (.int .i64 (V t)) ∧ Upd [] w w'
theorem u8_eq {c : UInt8} {k : Nat} (hk : k < 256) (h : ((c.toNat : Int)) = k) : c = UInt8.ofNat k := by
 apply UInt8.toNat_inj.1
 rw [UInt8.toNat_ofNat_of_lt' (by simpa using hk)]
 omega
set_option maxHeartbeats 8000000 in
set_option maxRecDepth 100000 in
theorem value_step (n : Nat) (IH : ValueOK n) : ValueOK (n + 1) := by
 intro t w g cap N xs V hs hd hT hR hN hc1 hc2
 obtain ⟨i0, hi, hz0, hz1, hz2⟩ := info_parts info_int
 obtain ⟨hcut, hend, hname, hone1, hlen⟩ := cut_is hs
 obtain ⟨kh, hh⟩ := hT.hits
 have HP : Hid (∀ (q : Nat) (p : T3) (w' : World), t.parts[q]? = some p → Upd [] w w' → Calls Tryz.prog 19 #[.slice (some ⟨g, 0, none⟩) N cap, .string p.bytes] w' fun e w'' => e = .returned (.int .i64 (V p)) ∧ Upd [] w' w'') := fun q p w' hp hu => by
  obtain ⟨h1, h2⟩ := T3.part_small hp hs
  exact IH p w' g cap N xs V h1 (by omega) (hT.part hp) (hR.later hu) hN hc1 hc2
 have HName : Hid (t.bytes.extract 0 1 = t.name) := by
  show _ = _
  unfold T3.bytes
  rw [extract_list]
  apply ByteArray.ext
  apply Array.ext'
  simpa using hname
 have hsz := T3.size t
 obtain ⟨Z, hZ⟩ : ∃ Z, t.txt.length = Z := ⟨_, rfl⟩
 rw [hZ] at hsz hone1 hlen hend
 have Hcut : Hid (∀ m, m + 2 < Z → CutIs t m (cutAt t.txt m)) := fun m hm => hcut m (by omega)
 have Hend := hide hend
 have Hb : Hid (∀ i, byteAt t.bytes i = ((t.txt.getD i 0).toNat : Int)) := fun i => T3.byte t i
 have HX : Hid (∀ a b, t.bytes.extract a b = ⟨((t.txt.drop a).take (b - a)).toArray⟩) := fun a b => extract_list _ _ _
 obtain ⟨s, hs'⟩ : ∃ s, t.bytes = s := ⟨_, rfl⟩
 rw [hs'] at HName Hb HX hsz ⊢
 obtain ⟨A, hA⟩ : ∃ A, t.parts.length = A := ⟨_, rfl⟩
 rw [hA] at hone1 Hend
 have HA := hide hA
 have Hone := hide hone1
 have hZ0 : 0 < Z := by rw [← hZ]; cases t <;> simp [T3.txt]
 have hpos : w.heap.size ≤ w.heap.size := Nat.le_refl _
 have HR := hide hR
 have Hh := hide hh
 have HN := hide hN
 unfold maxLen at hc2
 have hszI : (s.size : Int) = (Z : Int) := by omega
 clear hs' hcut hend hname hT hR hh hN hA hone1 hZ hsz hd IH
 go_enter Tryz.func19, Tryz.ntmps19
 go_upto_if 17 with (fail)
 obtain ⟨b17, hb17⟩ : ∃ b, decide ((1 : Int) < (Z : Int)) = b := ⟨_, rfl⟩
 rw [hb17]
 have H17 := hide hb17
 clear hb17
 go_cut [6] (fun v wx => Hid (ArgRow w wx v (t.parts.map V)))
 case first =>
  cases b17 with
  | true =>
   have h1 : 1 < Z := by have := of_decide_eq_true H17.out; omega
   go_wp2_with fail
   go_loopw [6, 7, 8, 9] (fun v dv fv iv wr => ∃ m j : Nat, Hid (j = m + 2) ∧ 2 ≤ j ∧ j ≤ Z ∧ dv = .int .i64 ((cutAt t.txt m).1 : Nat) ∧ fv = .int .i64 ((cutAt t.txt m).2.1 : Nat) ∧ iv = .int .i64 j ∧ Hid (ArgRow w wr v ((t.parts.take (cutAt t.txt m).2.2).map V))) (fun _ _ _ iv _ => Z - (intOf iv).toNat)
   case atStart => exact ⟨0, 2, rfl, by omega, by omega, rfl, rfl, rfl, ⟨rfl, .inl ⟨rfl, rfl⟩⟩, Upd.refl _ _⟩
   case round =>
    obtain ⟨m, j, Hj, hj2, hjZ, rfl, rfl, rfl, HAr⟩ := hrel
    by_cases hlt : j < Z
    ·have hltI : (j : Int) < (Z : Int) := by omega
     have hci := Hcut.out m (by rw [← Hj.out]; exact hlt)
     have hbt := byteAt_get s j (by omega)
     have hby : byteAt s j = ((t.txt.getD (m + 2) 0).toNat : Int) := by rw [Hb.out, Hj.out]
     obtain ⟨b1, b2, b3, hcp⟩ := hci
     obtain ⟨d, hd⟩ : ∃ d, (cutAt t.txt m).1 = d := ⟨_, rfl⟩
     obtain ⟨fr, hfr⟩ : ∃ d, (cutAt t.txt m).2.1 = d := ⟨_, rfl⟩
     obtain ⟨k, hk⟩ : ∃ d, (cutAt t.txt m).2.2 = d := ⟨_, rfl⟩
     obtain ⟨c, hc⟩ : ∃ c, t.txt.getD (m + 2) 0 = c := ⟨_, rfl⟩
     rw [hd, hfr]
     rw [hd] at b1
     rw [hfr] at b2
     rw [hk] at b3 HAr
     rw [hc] at hby
     have HE : Hid (cutAt t.txt m = (d, fr, k)) := by show _ = _; rw [← hd, ← hfr, ← hk]
     by_cases h40 : c = 40
     ·have hv : byteAt s j = 40 := by rw [hby, h40]; rfl
      have HNx : Hid (cutAt t.txt (m + 1) = (d + 1, fr, k)) := by show _ = _; rw [cut_open (hc.trans h40), HE.out]
      clear hby hd hfr hk hc hcp h40
      go_wp2
      refine ⟨⟨m + 1, j + 1, by show _ = _; rw [Hj.out], by omega, by omega, by rw [HNx.out]; go_num, by rw [HNx.out], by go_num, ?_⟩, by simp [intOf]; omega⟩
      rw [HNx.out]
      exact HAr.out
     ·by_cases h0 : d = 0
      ·by_cases hcc : c = 44 ∨ c = 41
       ·have HNx : Hid (cutAt t.txt (m + 1) = (0, m + 4, k + 1)) := by show _ = _; rw [cut_part (hd.trans h0) (by rw [hc]; exact hcc), HE.out]
        obtain ⟨hfj, p, hp, hpe⟩ := hcp (hd.trans h0) (by rw [hc]; exact hcc)
        rw [hfr] at hfj hpe
        rw [hk] at hp
        have hkA : k < A := by rw [← HA.out]; exact (List.getElem?_eq_some_iff.1 hp).1
        have hfjI : (fr : Int) ≤ (j : Int) := by have := Hj.out; omega
        have HPc : Hid (∀ w', Upd [] w w' → Calls Tryz.prog 19 #[.slice (some ⟨g, 0, none⟩) N cap, .string (s.extract fr j)] w' fun e w'' => e = .returned (.int .i64 (V p)) ∧ Upd [] w' w'') := fun w' hu => by
         have e : s.extract fr j = p.bytes := by rw [HX.out, Hj.out, hpe]; rfl
         rw [e]
         exact HP.out k p w' hp hu
        have hkl : ((t.parts.take k).map V).length = k := by rw [List.length_map, List.length_take, HA.out]; omega
        have hrow := HAr.out.row
        rw [hkl] at hrow
        have Hrow := hide hrow
        have HUr := hide HAr.out.upd
        have Htk : Hid (intsOf ((t.parts.take (k + 1)).map V) = intsOf ((t.parts.take k).map V) ++ [.int .i64 (V p)] ∧ ((t.parts.take (k + 1)).map V).length = k + 1) := by
         have e : t.parts.take (k + 1) = t.parts.take k ++ [p] := by rw [List.take_add_one, hp]; rfl
         refine ⟨?_, ?_⟩
         ·rw [e]; simp [intsOf]
         ·rw [e]; simp only [List.map_append, List.length_append, hkl]; rfl
        have hone : Hid (∀ u ∈ [Value.int .i64 ((V p : Nat) : Int)], u.oneCell' = true) := (fun u hu' => by simp at hu'; subst hu'; rfl)
        have hlm : k + 1 ≤ maxLen := by unfold maxLen; omega
        have hlb : (k + 1) * 8 ≤ 140737488355328 := by omega
        have hjI : (j : Int) ≤ 20 := by omega
        subst h0
        have h41 : byteAt s j = 44 ∨ (byteAt s j = 41 ∧ (byteAt s j == 44) = false) := by
         rcases hcc with h | h
         ·exact .inl (by rw [hby, h]; rfl)
         ·exact .inr ⟨by rw [hby, h]; rfl, by rw [hby, h]; decide⟩
        have h40b : (byteAt s j == 40) = false := by rcases h41 with h | h <;> simp [h]
        obtain ⟨vp, hvp⟩ : ∃ vp, V p = vp := ⟨_, rfl⟩
        rw [hvp] at HPc Htk hone
        clear hby hd hfr hk hc hcp hcc h40 hrow hkl hpe hp HAr hvp
        obtain ⟨w0, hw0⟩ : ∃ w0, w0 = wr := ⟨_, rfl⟩
        rw [← hw0]
        rw [← hw0] at Hrow HUr
        clear hw0
        go_upto_region 11 with (fail)
        go_cut [43] (fun cv wx => cv = .bool true ∧ wx = w0)
        case first =>
         rcases h41 with h41 | ⟨h41, h44⟩
         ·go_wp2_with fail
          go_meet
          case rel => exact ⟨rfl, rfl⟩
         ·go_wp2_with fail
          go_meet
          case rel => exact ⟨rfl, rfl⟩
        case rest =>
         obtain ⟨rfl, hwc⟩ := hcut
         rw [hwc]
         clear hwc h41 h40b
         go_upto_region 13 with (first
          | (go_at_call 19; refine (HPc.out _ HUr.out).mono ?_; rintro e wv ⟨rfl, huv⟩; have Hrw := hide (((Upd.refl [] wv).alloc (.cells #[.int .i64 (vp : Nat)] 3)).ownsRow (huv.ownsRow Hrow.out (fun _ _ => by simp)) (fun _ _ => by simp)); have Hnews : Hid (∀ q u, [Value.int .i64 ((vp : Nat) : Int)][q]? = some u → (wv.alloc (.cells #[.int .i64 (vp : Nat)] 3)).cell? ((⟨wv.heap.size, 0, none⟩ : Addr).add q) = some u) := World.news_of_block (heap_alloc_new _ _); have HUv := hide (HUr.out.trans huv); have hsv := HUv.out.size; clear huv)
          | (at_builtin; go_must (refine wpList_append_lies _ rfl _ _ 44 rfl w.heap.size 3 i0 (.int .i64 0) 1 8 Tryz.underlying44 hi hz0 hz1 hz2 rfl (by decide) _ _ _ rfl Hrw.out ⟨wv.heap.size, 0, none⟩ 1 1 [.int .i64 (vp : Nat)] rfl rfl Hnews.out hone.out (by decide) hlm hlb (by simp; omega) _ rfl ?_); intro g3 cap3 w3 hown3 hgrow3 hat3 hlt3))
         have hg3 : (wv.alloc (.cells #[.int .i64 (vp : Nat)] 3)).grownBy w3 u6.ownBlock := hgrow3
         have Hnew : Hid (ArgRow w w3 (.slice (some ⟨g3, 0, none⟩) (k + 1) cap3) ((t.parts.take (k + 1)).map V)) := by
          refine ⟨by rw [Htk.out.1, Htk.out.2]; exact hown3, (HUv.out.alloc _).trans' (Upd.of_grown hg3) (fun q hq hl => ?_)⟩
          have := own_geT Hrow.out (show u6.ownBlock = some q by simpa using hq)
          omega
         clear hown3 hgrow3 hg3 hat3 hlt3 Hrw Hnews hone HPc HUv hsv Hrow HUr
         go_wp2
         refine ⟨⟨m + 1, j + 1, by show _ = _; rw [Hj.out], by omega, by omega, by rw [HNx.out]; rfl, by rw [HNx.out]; have := Hj.out; go_num, by go_num, ?_⟩, by simp [intOf]; omega⟩
         rw [HNx.out]
         exact Hnew.out
       ·have h41 : (byteAt s j == 41) = false := by
         rw [beq_eq_false_iff_ne]
         intro e
         rw [hby] at e
         exact hcc (.inr (u8_eq (k := 41) (by omega) e))
        have h44 : (byteAt s j == 44) = false := by
         rw [beq_eq_false_iff_ne]
         intro e
         rw [hby] at e
         exact hcc (.inl (u8_eq (k := 44) (by omega) e))
        have h40b : (byteAt s j == 40) = false := by
         rw [beq_eq_false_iff_ne]
         intro e
         rw [hby] at e
         exact h40 (u8_eq (k := 40) (by omega) e)
        have HNx : Hid (cutAt t.txt (m + 1) = (d, fr, k)) := by show _ = _; rw [cut_else (by rw [hc]; exact h40) (by rw [hc]; exact fun h => hcc (.inr h)) (.inr (by rw [hc]; exact fun h => hcc (.inl h))), HE.out]
        subst h0
        clear hby hd hfr hk hc hcp hcc h40
        go_wp2
        refine ⟨⟨m + 1, j + 1, by show _ = _; rw [Hj.out], by omega, by omega, by rw [HNx.out], by rw [HNx.out], by go_num, ?_⟩, by simp [intOf]; omega⟩
        rw [HNx.out]
        exact HAr.out
      ·have h40b : (byteAt s j == 40) = false := by
        rw [beq_eq_false_iff_ne]
        intro e
        rw [hby] at e
        exact h40 (u8_eq (k := 40) (by omega) e)
       have hdI : ((d : Int) == 0) = false := by simpa using h0
       by_cases h41 : c = 41
       ·have hv : byteAt s j = 41 := by rw [hby, h41]; rfl
        have HNx : Hid (cutAt t.txt (m + 1) = (d - 1, fr, k)) := by show _ = _; rw [cut_close (by rw [hd]; exact h0) (hc.trans h41), HE.out]
        clear hby hd hfr hk hc hcp h40 h40b
        go_wp2
        refine ⟨⟨m + 1, j + 1, by show _ = _; rw [Hj.out], by omega, by omega, by rw [HNx.out]; go_num, by rw [HNx.out], by go_num, ?_⟩, by simp [intOf]; omega⟩
        rw [HNx.out]
        exact HAr.out
       ·have h41b : (byteAt s j == 41) = false := by
         rw [beq_eq_false_iff_ne]
         intro e
         rw [hby] at e
         exact h41 (u8_eq (k := 41) (by omega) e)
        have HNx : Hid (cutAt t.txt (m + 1) = (d, fr, k)) := by show _ = _; rw [cut_else (by rw [hc]; exact h40) (by rw [hc]; exact h41) (.inl (by rw [hd]; exact h0)), HE.out]
        clear hby hd hfr hk hc hcp h40
        go_wp2
        refine ⟨⟨m + 1, j + 1, by show _ = _; rw [Hj.out], by omega, by omega, by rw [HNx.out], by rw [HNx.out], by go_num, ?_⟩, by simp [intOf]; omega⟩
        rw [HNx.out]
        exact HAr.out
    ·have hltI : ¬ (j : Int) < (Z : Int) := by omega
     go_wp2_with fail
     go_meet
     case rel =>
      have e : m = Z - 2 := by have := Hj.out; omega
      have h := HAr.out
      rw [e, Hend.out, ← HA.out, List.take_length] at h
      exact h
  | false =>
   have h1 : ¬ 1 < Z := by have := of_decide_eq_false H17.out; omega
   have h0 : t.parts = [] := List.length_eq_zero_iff.1 (by rw [HA.out]; exact Hone.out.1 (by omega))
   go_wp2_with fail
   go_meet
   case rel =>
    rw [h0]
    exact ⟨⟨rfl, .inl ⟨rfl, rfl⟩⟩, Upd.refl _ _⟩
 case rest =>
  obtain ⟨W0, hW0⟩ : ∃ W0, W0 = wc := ⟨_, rfl⟩
  subst hW0
  have hrow := hcut.out.row
  have hia := intsAt_of hrow
  obtain ⟨ga, capa, hv, hk1, hk2, hcell⟩ := hia
  rw [List.length_map, HA.out] at hv hk1 hcell
  subst hv
  have HCa : Hid (∀ q (a : Nat), (t.parts.map V)[q]? = some a → ∃ b, ga = some ⟨b, 0, none⟩ ∧ W0.cell? ⟨b, q, none⟩ = some (.int .i64 a)) := fun q a hq => by
   have hql := (List.getElem?_eq_some_iff.1 hq).1
   rw [List.length_map, HA.out] at hql
   obtain ⟨b, h1, _, h3⟩ := hcell (by omega)
   exact ⟨b, h1, h3 q a hq⟩
  have HRc := hide (HR.out.later hcut.out.upd)
  have HUc := hide hcut.out.upd
  have HAl : Hid ((t.parts.map V).length = A) := by show _ = _; rw [List.length_map, HA.out]
  have hkhN : kh < N := by
   have := (List.getElem?_eq_some_iff.1 Hh.out.row).1
   rw [List.length_map, HN.out] at this
   exact this
  have hA20 : A ≤ 20 := by
   have h1 := HA.out
   cases t <;> simp [T3.parts] at h1 <;> omega
  rw [HName.out]
  obtain ⟨Av, hAv⟩ : ∃ Av, t.parts.map V = Av := ⟨_, rfl⟩
  obtain ⟨nm, hnm⟩ : ∃ nm, t.name = nm := ⟨_, rfl⟩
  obtain ⟨vt, hvt⟩ : ∃ vt, V t = vt := ⟨_, rfl⟩
  have Hrow : Hid ((xs.map (·.1))[kh]? = some ⟨nm, Av, vt⟩) := by have := Hh.out.row; rw [hAv, hnm, hvt] at this; exact this
  have Hfst : Hid (∀ (j : Nat) (r : RowP), j < kh → (xs.map (·.1))[j]? = some r → ¬ (r.name = nm ∧ r.args = Av)) := by have := Hh.out.first; rw [hAv, hnm] at this; exact this
  rw [hAv] at HCa HAl
  rw [hnm]
  have Hvt := hide hvt
  unfold maxLen at hk2
  clear hcut hcell hrow HR HP HX Hb Hcut Hend Hone HName HA Hh hAv hnm hvt hszI hlen hZ0 hs hpos
  go_wp2_with fail
  go_loopw [10] (fun iv wr => ∃ j m : Nat, j ≤ kh ∧ iv = .int .i64 j ∧ wr = W0.drewN m) (fun iv _ => N - (intOf iv).toNat)
  case atStart => exact ⟨0, 0, Nat.zero_le _, rfl, rfl⟩
  case round =>
   obtain ⟨j, m, hj, rfl, rfl⟩ := hrel
   have hjI : (j : Int) < (N : Int) := by omega
   obtain ⟨x, hx⟩ : ∃ x, xs[j]? = some x := ⟨_, List.getElem?_eq_getElem (by rw [HN.out]; omega)⟩
   have hxm : (xs.map (·.1))[j]? = some x.1 := by rw [List.getElem?_map, hx]; rfl
   obtain ⟨y0, y1, y2⟩ := HRc.out.rows.cell j x hx
   obtain ⟨ax, cx, hvx, p1, p2, hcx⟩ := HRc.out.args x (List.mem_of_getElem? hx)
   have Hlt := hide (fun (h : j < kh) => Hfst.out j x.1 h hxm)
   have Heq : Hid (j = kh → x.1 = ⟨nm, Av, vt⟩) := fun h => by
    have := Hrow.out
    rw [← h, hxm] at this
    exact Option.some.inj this
   obtain ⟨⟨xn, xa, xv⟩, x2⟩ := x
   simp only at y0 y1 y2 hvx p1 hcx Hlt Heq
   obtain ⟨la, hla⟩ : ∃ la, xa.length = la := ⟨_, rfl⟩
   rw [hla] at hvx p1 hcx
   rw [hvx] at y1
   have Hcx := hide hcx
   have Hla := hide hla
   unfold maxLen at p2
   have HNo : Hid (∀ (b : Bool) (q : Nat), (b = true ↔ (xn = nm ∧ la = A ∧ ∀ i, i < q → xa[i]? = Av[i]?)) → b = false → j + 1 ≤ kh) := fun b q hb h0 => by
    by_cases e : j = kh
    ·have h1 := Heq.out e
     cases h1
     have := hb.2 ⟨rfl, by rw [← Hla.out, HAl.out], fun _ _ => rfl⟩
     rw [h0] at this
     cases this
    ·omega
   have HYes : Hid (∀ (b : Bool), (b = true ↔ (xn = nm ∧ la = A ∧ ∀ i, i < A → xa[i]? = Av[i]?)) → b = true → xv = vt) := fun b hb h1 => by
    obtain ⟨h2, h3, h4⟩ := hb.1 h1
    have h5 : xa = Av := list_ext (by rw [Hla.out, HAl.out, h3]) fun i a c ha hc => by
     have hi := (List.getElem?_eq_some_iff.1 ha).1
     rw [Hla.out, h3] at hi
     have := h4 i hi
     rw [ha, hc] at this
     exact Option.some.inj this
    by_cases e : j = kh
    ·have := Heq.out e
     cases this
     rfl
    ·exact absurd ⟨h2, h5⟩ (Hlt.out (by omega))
   clear hvx hla hcx hx hxm Hlt Heq
   go_upto_region 19 with (fail)
   go_cut [11] (fun cv wx => ∃ b, cv = .bool b ∧ wx = W0.drewN m ∧ Hid (b = true ↔ (xn = nm ∧ la = A)))
   case first =>
    by_cases hn : xn = nm
    ·subst hn
     by_cases hl : la = A
     ·subst hl
      go_wp2_with fail
      go_meet
      case rel => exact ⟨true, rfl, rfl, by show _ ↔ _; simp⟩
     ·have hlb : ((la : Int) == (A : Int)) = false := by rw [beq_eq_false_iff_ne]; omega
      go_wp2_with fail
      go_meet
      case rel => exact ⟨false, rfl, rfl, by show _ ↔ _; simp [hl]⟩
    ·have hn2 := bytes_ne hn
     go_wp2_with fail
     go_meet
     case rel => exact ⟨false, rfl, rfl, by show _ ↔ _; simp [hn]⟩
   case rest =>
    obtain ⟨b, rfl, hwc, HB⟩ := hcut
    rw [hwc]
    clear hwc
    go_wp2_with fail
    go_loopw [11, 12] (fun bv kv wq => ∃ (b : Bool) (q p : Nat), q ≤ A ∧ bv = .bool b ∧ kv = .int .i64 q ∧ wq = W0.drewN p ∧ Hid (b = true ↔ (xn = nm ∧ la = A ∧ ∀ i, i < q → xa[i]? = Av[i]?))) (fun _ kv _ => A - (intOf kv).toNat)
    case atStart => exact ⟨b, 0, m, Nat.zero_le _, rfl, rfl, rfl, HB.out.trans ⟨fun h => ⟨h.1, h.2, fun i hi => absurd hi (Nat.not_lt_zero _)⟩, fun h => ⟨h.1, h.2.1⟩⟩⟩
    case round =>
     clear HB
     obtain ⟨b, q, p, hq, rfl, rfl, rfl, HM⟩ := hrel
     by_cases hqA : q < A
     ·have hqI : (q : Int) < (A : Int) := by omega
      cases b with
      | false =>
       have hj1 := HNo.out false q HM.out rfl
       go_wp2
       exact ⟨⟨j + 1, p, hj1, by go_num, rfl⟩, by simp [intOf]; omega⟩
      | true =>
       obtain ⟨g1, g2, g3⟩ := HM.out.1 rfl
       obtain ⟨a, ha⟩ : ∃ a, xa[q]? = some a := ⟨_, List.getElem?_eq_getElem (by rw [Hla.out]; omega)⟩
       obtain ⟨a', ha'⟩ : ∃ a, Av[q]? = some a := ⟨_, List.getElem?_eq_getElem (by rw [HAl.out]; omega)⟩
       obtain ⟨bx, rfl, _, hc3⟩ := Hcx.out (by omega)
       have z1 := hc3 q a ha
       obtain ⟨by_, rfl, z2⟩ := HCa.out q a' ha'
       have hqla : (q : Int) < (la : Int) := by omega
       have Ha := hide ha
       have Ha' := hide ha'
       have HG1 := hide g1
       have HG2 := hide g2
       have HG3 := hide g3
       clear ha ha' hc3 g1 g2 g3
       by_cases he : a = a'
       ·subst he
        go_wp2_with fail
        go_quiet (fail)
        go_wp2
        refine ⟨⟨true, q + 1, _, by omega, by simp, by go_num, rfl, ⟨fun _ => ⟨HG1.out, HG2.out, fun i hi => ?_⟩, fun _ => rfl⟩⟩, by simp [intOf]; omega⟩
        by_cases e : i < q
        ·exact HG3.out i e
        ·obtain rfl : i = q := by omega
         rw [Ha.out, Ha'.out]
       ·have heb : ((a : Int) == (a' : Int)) = false := by rw [beq_eq_false_iff_ne]; omega
        have He := hide he
        clear he
        go_wp2_with fail
        go_quiet (fail)
        go_wp2
        refine ⟨⟨false, q + 1, _, by omega, by simp, by go_num, rfl, ⟨fun h => (by cases h), fun h => ?_⟩⟩, by simp [intOf]; omega⟩
        have := h.2.2 q (by omega)
        rw [Ha.out, Ha'.out] at this
        exact absurd (Option.some.inj this) He.out
     ·have hqI : ¬ (q : Int) < (A : Int) := by omega
      obtain rfl : q = A := by omega
      cases b with
      | false =>
       have hj1 := HNo.out false q HM.out rfl
       go_wp2
       exact ⟨⟨j + 1, p, hj1, by go_num, rfl⟩, by simp [intOf]; omega⟩
      | true =>
       have hxv := HYes.out true HM.out rfl
       subst hxv
       go_wp2
       go_ret
       exact ⟨by rw [Hvt.out]; rfl, HUc.out.drewN p⟩
theorem value_ok : ∀ n, ValueOK n
 | 0 => fun _ _ _ _ _ _ _ _ hd => absurd hd (Nat.not_lt_zero _)
 | n + 1 => value_step n (value_ok n)
theorem value_any (t : T3) (w : World) (g cap N : Nat) (xs : List RX) (V : T3 → Nat) (hs : t.small) (hT : Tells (xs.map (·.1)) V t) (hR : RowsIn w g xs) (hN : xs.length = N) (h1 : N ≤ cap) (h2 : cap ≤ maxLen) :
  Calls Tryz.prog 19 #[.slice (some ⟨g, 0, none⟩) N cap, .string t.bytes] w fun e w' => e = .returned (.int .i64 (V t)) ∧ Upd [] w w' :=
 value_ok (t.depth + 1) t w g cap N xs V hs (by omega) hT hR hN h1 h2
end Go.Proofs.YtmfkpllnmmfpiaaGreatDoor
