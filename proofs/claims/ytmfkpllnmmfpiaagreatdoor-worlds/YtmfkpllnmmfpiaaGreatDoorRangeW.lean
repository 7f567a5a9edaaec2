/- Sent, Sign, Range -/
import Derived.Test.YtmfkpllnmmfpiaaGreatDoorMapHeapW
import Derived.Test.YtmfkpllnmmfpiaaGreatDoorTerm2W
namespace Go.Proofs.YtmfkpllnmmfpiaaGreatDoor
def signOf (s : ByteArray) (st : Wd) : Option Bool × Wd :=
 if st.1 = 4 then (some true, wordAt s st.2.2)
 else if st.1 = 5 then (some false, wordAt s st.2.2)
 else if st.1 = 6 then (none, (6, st.2.2, st.2.2))
 else (none, st)
structure Snt (n : Nat) where
 left : Tm n
 eq : Bool
 right : Tm n
def sentOf (s : ByteArray) (n : Nat) (st : Wd) : Option (Snt n) × Wd :=
 match termOf s n st with
 | (none, st1) => (none, st1)
 | (some l, st1) =>
  match signOf s st1 with
  | (none, st2) => (none, st2)
  | (some g, st2) =>
   match termOf s n st2 with
   | (none, st3) => (none, st3)
   | (some r, st3) => if st3.1 = 7 then (some ⟨l, g, r⟩, st3) else (none, st3)
def firstOf {α β : Type} (f : α → Option β) : List α → Option β
 | [] => none
 | a :: l => match f a with
  | some b => some b
  | none => firstOf f l
def rangeOf : (n : Nat) → Tm n → Nat → Option (Int × Nat)
 | 0, _, _ => none
 | n + 1, t, d =>
  if 8 < t.name.size then some (3, t.place)
  else if 3 < t.parts.length then some (4, t.place)
  else if 12 < d then some (5, t.place)
  else firstOf (fun p => rangeOf n p (d + 1)) t.parts
def fuelOf (s : ByteArray) : Nat := s.size + 1
def readOf (s : ByteArray) : Option (Snt (fuelOf s)) × Int × Nat :=
 if 200 < s.size then (none, 1, 0)
 else match sentOf s (fuelOf s) (wordAt s 0) with
  | (none, st) => (none, 2, st.2.1)
  | (some x, _) => match rangeOf _ x.left 0 with
   | some (k, p) => (none, k, p)
   | none => match rangeOf _ x.right 0 with
    | some (k, p) => (none, k, p)
    | none => (some x, 0, 0)
theorem signOf_eq {s : ByteArray} {st : Wd} (h : st.1 = 4) : signOf s st = (some true, wordAt s st.2.2) := by simp [signOf, h]
theorem signOf_ne {s : ByteArray} {st : Wd} (h : st.1 = 5) : signOf s st = (some false, wordAt s st.2.2) := by simp [signOf, h]
theorem signOf_bang {s : ByteArray} {st : Wd} (h : st.1 = 6) : signOf s st = (none, (6, st.2.2, st.2.2)) := by simp [signOf, h]
theorem signOf_no {s : ByteArray} {st : Wd} (h4 : st.1 ≠ 4) (h5 : st.1 ≠ 5) (h6 : st.1 ≠ 6) : signOf s st = (none, st) := by simp [signOf, h4, h5, h6]
theorem firstOf_ahead {α β : Type} {f : α → Option β} : ∀ {l l' : List α}, (∀ a ∈ l, f a = none) → firstOf f (l ++ l') = firstOf f l'
 | [], _, _ => rfl
 | a :: l, l', h => by
  have h1 := h a (by simp)
  have h2 := firstOf_ahead (l := l) (l' := l') (fun b hb => h b (by simp [hb]))
  simp [firstOf, h1, h2]
theorem firstOf_none {α β : Type} {f : α → Option β} {l : List α} (h : ∀ a ∈ l, f a = none) : firstOf f l = none := by
 have := firstOf_ahead (l' := []) h
 simpa [firstOf] using this
theorem firstOf_mem {α β : Type} {f : α → Option β} : ∀ {l : List α} {b : β}, firstOf f l = some b → ∃ a ∈ l, f a = some b
 | [], _, h => by simp [firstOf] at h
 | a :: l, b, h => by
  cases ha : f a with
  | some c => simp [firstOf, ha] at h; subst h; exact ⟨a, by simp, ha⟩
  | none =>
   simp [firstOf, ha] at h
   obtain ⟨x, hx, hf⟩ := firstOf_mem h
   exact ⟨x, by simp [hx], hf⟩
theorem rangeOf_kind : ∀ {n : Nat} {t : Tm n} {d : Nat} {x : Int × Nat}, rangeOf n t d = some x → 3 ≤ x.1 ∧ x.1 ≤ 5
 | 0, _, _, _, h => by simp [rangeOf] at h
 | n + 1, t, d, x, h => by
  unfold rangeOf at h
  split at h
  ·cases h; simp
  ·split at h
   ·cases h; simp
   ·split at h
    ·cases h; simp
    ·obtain ⟨a, _, ha⟩ := firstOf_mem h
     exact rangeOf_kind ha
end Go.Proofs.YtmfkpllnmmfpiaaGreatDoor

namespace Go.Proofs.YtmfkpllnmmfpiaaGreatDoor
open Go.RowKit
def signInt (b : Bool) : Int := if b then 0 else 1
set_option maxHeartbeats 1000000 in
set_option maxRecDepth 100000 in
theorem sign_any (s : ByteArray) (r : Nat) (st : Wd) (w : World) (hs : s.size ≤ 200) (hrd : Rd w r s st.1 st.2.1 st.2.2) (hfit : Fit s st) :
  Calls Tryz.prog 152 #[.pointer (some ⟨r, 0, none⟩)] w fun e w' => ∃ k : Int, e = .returned (.tuple #[.int .i64 k, .bool (signOf s st).1.isSome]) ∧
   Rd w' r s (signOf s st).2.1 (signOf s st).2.2.1 (signOf s st).2.2.2 ∧ Upd [r] w w' ∧ ∀ g, (signOf s st).1 = some g → k = signInt g := by
 have hsz := hfit.size
 have hrd' := hrd
 obtain ⟨hrlt, h0, h1, h2, h3, hf⟩ := hrd'
 by_cases h4 : st.1 = 4
 ·have h4' : (st.1 == 4) = true := by simp [h4]
  have HE : Hid (signOf s st = (some true, wordAt s st.2.2)) := signOf_eq h4
  clear h4
  go_enter Tryz.func152, Tryz.ntmps152
  go_wp2_with (go_at_call 124; refine (next_any r s _ _ _ _ hrd (by omega) hsz).mono ?_; rintro e w1 ⟨rfl, hrd1, hu1⟩)
  go_ret2
  rw [HE.out]
  exact ⟨_, rfl, hrd1, hu1, fun g hg => by obtain rfl := Option.some.inj hg; rfl⟩
 ·have h4' : (st.1 == 4) = false := by simp [h4]
  by_cases h5 : st.1 = 5
  ·have h5' : (st.1 == 5) = true := by simp [h5]
   have HE : Hid (signOf s st = (some false, wordAt s st.2.2)) := signOf_ne h5
   clear h4 h5
   go_enter Tryz.func152, Tryz.ntmps152
   go_wp2_with (go_at_call 124; refine (next_any r s _ _ _ _ hrd (by omega) hsz).mono ?_; rintro e w1 ⟨rfl, hrd1, hu1⟩)
   go_ret2
   rw [HE.out]
   exact ⟨_, rfl, hrd1, hu1, fun g hg => by obtain rfl := Option.some.inj hg; rfl⟩
  ·have h5' : (st.1 == 5) = false := by simp [h5]
   by_cases h6 : st.1 = 6
   ·have h6' : (st.1 == 6) = true := by simp [h6]
    have HE : Hid (signOf s st = (none, (6, st.2.2, st.2.2))) := signOf_bang h6
    have hfin := hrd.set_from (f' := st.2.2) (v := st.2.2) rfl
    rw [h6] at hfin
    clear h4 h5 h6
    go_enter Tryz.func152, Tryz.ntmps152
    go_wp2
    go_ret2
    rw [HE.out]
    exact ⟨_, rfl, hfin, (Upd.refl _ _).setCell (by simp) _, fun g hg => by cases hg⟩
   ·have h6' : (st.1 == 6) = false := by simp [h6]
    have HE : Hid (signOf s st = (none, st)) := signOf_no h4 h5 h6
    clear h4 h5 h6
    go_enter Tryz.func152, Tryz.ntmps152
    go_wp2
    go_ret2
    rw [HE.out]
    exact ⟨_, rfl, hrd, Upd.refl _ _, fun g hg => by cases hg⟩
end Go.Proofs.YtmfkpllnmmfpiaaGreatDoor

namespace Go.Proofs.YtmfkpllnmmfpiaaGreatDoor
open Go.RowKit
theorem flat3_get {cs : List V3} {i : Nat} {c : V3} (h : cs[i]? = some c) : (flat3 cs)[i * 3]? = some c.1 ∧ (flat3 cs)[i * 3 + 1]? = some c.2.1 ∧ (flat3 cs)[i * 3 + 2]? = some c.2.2 := by
 induction cs generalizing i with
 | nil => simp at h
 | cons d ds ih =>
  cases i with
  | zero => simp at h; subst h; simp [flat3]
  | succ i =>
   have := ih (i := i) (by simpa using h)
   have e : (i + 1) * 3 = i * 3 + 1 + 1 + 1 := by omega
   rw [e]
   simpa [flat3] using this
theorem row3_cells {w : World} {base e g len cap n : Nat} {cs : List V3} {c : V3} {i : Nat} (h : w.ownsRow base e 3 (.slice (some ⟨g, 0, none⟩) len cap) n (flat3 cs)) (hi : cs[i]? = some c) :
  w.cell? ⟨g, i * 3, none⟩ = some c.1 ∧ w.cell? ⟨g, i * 3 + 1, none⟩ = some c.2.1 ∧ w.cell? ⟨g, i * 3 + 2, none⟩ = some c.2.2 := by
 obtain ⟨hl, hr⟩ := h
 rcases hr with ⟨hv, _⟩ | ⟨g', cap', cur, hv, _, hg, _, _, hcs, htk⟩
 ·cases hv
 ·cases hv
  have hc := flat3_get hi
  have key : ∀ j u, (flat3 cs)[j]? = some u → w.cell? ⟨g, j, none⟩ = some u := by
   intro j u hu
   rw [cell_of_row w g j cur e (0, 0) hg]
   rw [← htk, List.getElem?_take] at hu
   split at hu
   ·simpa using hu
   ·cases hu
  exact ⟨key _ _ hc.1, key _ _ hc.2.1, key _ _ hc.2.2⟩
theorem AllIs.get {α β : Type} {R : α → β → Prop} : ∀ {xs : List α} {ys : List β}, AllIs R xs ys → ∀ {i : Nat} {y : β}, ys[i]? = some y → ∃ x, xs[i]? = some x ∧ R x y
 | [], [], _, _, _, h => by simp at h
 | x :: _, _ :: _, h, 0, y, hy => by simp at hy; subst hy; exact ⟨x, rfl, h.1⟩
 | _ :: xs, _ :: ys, h, i + 1, y, hy => by
  obtain ⟨x, hx, hr⟩ := AllIs.get h.2 (i := i) (y := y) (by simpa using hy)
  exact ⟨x, by simpa using hx, hr⟩
 | [], _ :: _, h, _, _, _ => h.elim
 | _ :: _, [], h, _, _, _ => h.elim
def faultOf (o : Option (Int × Nat)) : Int × Nat := o.getD (0, 0)
def RangeOK (n : Nat) : Prop := ∀ (w : World) (F : Nat → Prop) (c : V3) (t : Tm n) (d : Nat), IsTm w F n c t → d ≤ 1000 →
 Calls Tryz.prog 126 #[.agg #[c.1, c.2.1, c.2.2], .int .i64 d] w fun e w' => e = .returned (.tuple #[.int .i64 (faultOf (rangeOf n t d)).1, .int .i64 (faultOf (rangeOf n t d)).2]) ∧ Below w.heap.size w w'
theorem ownsRow_slice {w : World} {base e size n : Nat} {v : Value} {xs : List Value} (h : w.ownsRow base e size v n xs) : (v = .slice none 0 0 ∧ n = 0) ∨ ∃ g cap, v = .slice (some ⟨g, 0, none⟩) n cap ∧ n ≤ cap ∧ cap ≤ maxLen := by
 rcases h.2 with hv | ⟨g, cap, cur, hv, _, _, hc, hm, _⟩
 ·exact .inl hv
 ·exact .inr ⟨g, cap, hv, hc, hm⟩
theorem IsTm.form {w : World} {F : Nat → Prop} : ∀ {n : Nat} {c : V3} {t : Tm n}, IsTm w F n c t → ∃ (a : ByteArray) (p : Int) (g : Option Addr) (l cap : Nat), c = (.string a, .int .i64 p, .slice g l cap)
 | 0, _, _, h => h.elim
 | _ + 1, (c0, c1, c2), t, ⟨h0, h1, cs, hown, _, _⟩ => by
  simp only at h0 h1 hown
  subst h0 h1
  rcases ownsRow_slice hown with ⟨rfl, _⟩ | ⟨g, cap, rfl, _, _⟩
  ·exact ⟨_, _, _, _, _, rfl⟩
  ·exact ⟨_, _, _, _, _, rfl⟩
set_option maxHeartbeats 1000000 in
set_option maxRecDepth 100000 in
theorem range_succ (n : Nat) (hR : RangeOK n) : RangeOK (n + 1) := by
 rintro w F ⟨c0, c1, c2⟩ t d ⟨h0, h1, cs, hown, hF, hall⟩ hd
 simp only at h0 h1 hown hF
 subst h0 h1
 have hlen := hall.length
 obtain ⟨g, l, cap, hc2, hl, hlc, hcm, hg⟩ : ∃ (g : Option Addr) (l cap : Nat), c2 = .slice g l cap ∧ l = t.parts.length ∧ l ≤ cap ∧ cap ≤ maxLen ∧ (0 < l → ∃ b, g = some ⟨b, 0, none⟩) := by
  rcases ownsRow_slice hown with ⟨rfl, hn⟩ | ⟨g, cap, rfl, h2, h3⟩
  ·exact ⟨none, 0, 0, rfl, hn.symm, Nat.le_refl _, Nat.zero_le _, fun h => by omega⟩
  ·exact ⟨_, _, cap, rfl, rfl, h2, h3, fun _ => ⟨g, rfl⟩⟩
 subst hc2
 by_cases h8 : 8 < t.name.size
 ·have HE : Hid (rangeOf (n + 1) t d = some (3, t.place)) := by show _ = _; simp only [rangeOf, if_pos h8]
  have h8' : (8 : Int) < (t.name.size : Int) := by omega
  clear hl
  go_enter Tryz.func126, Tryz.ntmps126
  go_wp2
  go_quiet (fail)
  go_wp2
  go_ret2
  rw [HE.out]
  exact ⟨rfl, (Below.refl _ _).alloc (Nat.le_refl _) _ |> fun h => below_drewN h _⟩
 ·have h8' : ¬ (8 : Int) < (t.name.size : Int) := by omega
  by_cases h3 : 3 < l
  ·have HE : Hid (rangeOf (n + 1) t d = some (4, t.place)) := by show _ = _; simp only [rangeOf, if_neg h8]; rw [if_pos (by omega)]
   have h3' : (3 : Int) < (l : Int) := by omega
   clear hl h8
   go_enter Tryz.func126, Tryz.ntmps126
   go_wp2
   go_quiet (fail)
   go_wp2
   go_ret2
   rw [HE.out]
   exact ⟨rfl, (Below.refl _ _).alloc (Nat.le_refl _) _ |> fun h => below_drewN h _⟩
  ·have h3' : ¬ (3 : Int) < (l : Int) := by omega
   by_cases h12 : 12 < d
   ·have HE : Hid (rangeOf (n + 1) t d = some (5, t.place)) := by show _ = _; simp only [rangeOf, if_neg h8]; rw [if_neg (by omega), if_pos h12]
    have h12' : (12 : Int) < (d : Int) := by omega
    clear hl h8 h3
    go_enter Tryz.func126, Tryz.ntmps126
    go_wp2
    go_quiet (fail)
    go_wp2
    go_ret2
    rw [HE.out]
    exact ⟨rfl, (Below.refl _ _).alloc (Nat.le_refl _) _ |> fun h => below_drewN h _⟩
   ·have h12' : ¬ (12 : Int) < (d : Int) := by omega
    have HE : Hid (rangeOf (n + 1) t d = firstOf (fun p => rangeOf n p (d + 1)) t.parts) := by show _ = _; simp only [rangeOf, if_neg h8]; rw [if_neg (by omega), if_neg h12]
    have Hl : Hid (l = t.parts.length) := hl
    have HO : Hid (w.ownsRow 0 98 3 (.slice g l cap) l (flat3 cs)) := by show World.ownsRow _ _ _ _ _ _ _; rw [hl] at hown ⊢; exact hown
    have HA : Hid (AllIs (IsTm w F n) cs t.parts) := hall
    have HF : Hid (∀ k, (Value.slice g l cap).ownBlock = some k → F k) := hF
    have HG : Hid (0 < l → ∃ b, g = some ⟨b, 0, none⟩) := hg
    clear hl h8 h3 h12 hown hall hF hg hlen
    unfold maxLen at hcm
    go_enter Tryz.func126, Tryz.ntmps126
    go_wp2
    go_loopw [32] (fun i wr => ∃ k : Nat, k ≤ l ∧ i = .int .i64 k ∧ Hid (∀ p ∈ t.parts.take k, rangeOf n p (d + 1) = none) ∧ Below w.heap.size w wr) (fun i _ => l - (intOf i).toNat)
    case atStart => exact ⟨0, Nat.zero_le _, rfl, fun p hp => by simp at hp, (Below.refl _ _).alloc (Nat.le_refl _) _⟩
    case round =>
     obtain ⟨k, hk, rfl, HN, hb⟩ := hrel
     by_cases hlt : k < l
     ·obtain ⟨b, rfl⟩ := HG.out (by omega)
      have hkp : k < t.parts.length := by rw [← Hl.out]; exact hlt
      obtain ⟨c, hck, hic⟩ := HA.out.get (i := k) (List.getElem?_eq_getElem hkp)
      have hb0 : b < w.heap.size := ownsRow_lt HO.out rfl
      obtain ⟨k0, k1, k2⟩ := row3_cells HO.out hck
      obtain ⟨a, p, g2, l2, cap2, rfl⟩ := hic.form
      have k0' := (hb.cell (p := ⟨b, k * 3, none⟩) hb0).trans k0
      have k1' := (hb.cell (p := ⟨b, k * 3 + 1, none⟩) hb0).trans k1
      have k2' := (hb.cell (p := ⟨b, k * 3 + 2, none⟩) hb0).trans k2
      have hicr : Hid (∀ o, IsTm (wr.alloc o) F n (.string a, .int .i64 p, .slice g2 l2 cap2) t.parts[k]) := fun o => hic.later ((Upd.of_below (L := []) hb).alloc o) (fun _ _ => by simp)
      have hlt' : (k : Int) < (l : Int) := by omega
      have hstep : Hid (t.parts.take (k + 1) = t.parts.take k ++ [t.parts[k]]) := List.take_succ_eq_append_getElem hkp
      have hsplit : Hid (t.parts = t.parts.take k ++ (t.parts[k] :: t.parts.drop (k + 1))) := by show _ = _; rw [← List.drop_eq_getElem_cons hkp, List.take_append_drop]
      have hbs := hb.size
      clear k0 k1 k2 hic hck
      cases hr : rangeOf n t.parts[k] (d + 1) with
      | none =>
       have HN' : Hid (∀ p ∈ t.parts.take (k + 1), rangeOf n p (d + 1) = none) := by
        intro p hp
        rw [hstep.out] at hp
        rcases List.mem_append.1 hp with hp | hp
        ·exact HN.out p hp
        ·simp at hp; subst hp; exact hr
       have Hr : Hid (faultOf (rangeOf n t.parts[k] (d + 1)) = (0, 0)) := by show _ = _; rw [hr]; rfl
       clear hr
       go_wp2_with (go_at_call 126; refine (hR _ F (.string a, .int .i64 p, .slice g2 l2 cap2) t.parts[k] (d + 1) (hicr.out _) (by omega)).mono ?_; rintro e w2 ⟨rfl, hb2⟩; rw [Hr.out])
       exact ⟨⟨k + 1, by omega, by go_num, HN', (hb.alloc hbs _).trans (hb2.mono (by simp; omega))⟩, by simp [intOf]; omega⟩
      | some x =>
       obtain ⟨kf, pf⟩ := x
       have hkf := rangeOf_kind hr
       simp only at hkf
       have hkf' : (kf != 0) = true := by simp; omega
       have HE' : Hid (rangeOf (n + 1) t d = some (kf, pf)) := by
        show _ = _
        rw [HE.out, hsplit.out, firstOf_ahead HN.out]
        simp only [firstOf, hr]
       have Hr : Hid (faultOf (rangeOf n t.parts[k] (d + 1)) = (kf, pf)) := by show _ = _; rw [hr]; rfl
       clear hr
       go_wp2_with (go_at_call 126; refine (hR _ F (.string a, .int .i64 p, .slice g2 l2 cap2) t.parts[k] (d + 1) (hicr.out _) (by omega)).mono ?_; rintro e w2 ⟨rfl, hb2⟩; rw [Hr.out])
       go_ret2
       rw [HE'.out]
       exact ⟨rfl, (hb.alloc hbs _).trans (hb2.mono (by simp; omega))⟩
     ·have hge : ¬ (k : Int) < (l : Int) := by omega
      have HE' : Hid (rangeOf (n + 1) t d = none) := HE.out.trans (firstOf_none (fun p hp => HN.out p (by rw [List.take_of_length_le (by rw [← Hl.out]; omega)]; exact hp)))
      go_wp2
      go_ret2
      rw [HE'.out]
      exact ⟨rfl, hb⟩
theorem range_ok : ∀ n, RangeOK n
 | 0 => fun _ _ _ _ _ h => h.elim
 | n + 1 => range_succ n (range_ok n)
end Go.Proofs.YtmfkpllnmmfpiaaGreatDoor
