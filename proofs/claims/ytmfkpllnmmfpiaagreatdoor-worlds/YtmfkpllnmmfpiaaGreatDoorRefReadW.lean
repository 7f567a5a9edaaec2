/- SemSay, RefRead -/
import Derived.Test.YtmfkpllnmmfpiaaGreatDoorRefScanW
import Derived.Test.YtmfkpllnmmfpiaaGreatDoorBookMarkW
import Derived.Test.YtmfkpllnmmfpiaaGreatDoorRefScanLawW
namespace Go.Proofs.YtmfkpllnmmfpiaaGreatDoor
open Go.RowKit
def eraseS {n : Nat} (x : Snt n) : ST := ⟨x.eq, erase n x.left, erase n x.right⟩
def contraT (s : ST) : ST := { s with eq := !s.eq }
theorem eraseS_contra {n : Nat} (x : Snt n) : eraseS (contra x) = contraT (eraseS x) := rfl
theorem addAll_terms {n : Nat} (ih : ∀ (S : WS) (t : Tm n), Web S → Narrow n t → ∀ i, S.shapes.length ≤ i → i < (addM n S t).2.shapes.length → ∃ u, Part u (erase n t) ∧ DenE (addM n S t).2 u i) :
  ∀ (l : List (Tm n)) (S : WS), Web S → allOf (Narrow n) l → ∀ i, S.shapes.length ≤ i → i < (addAll (addM n) S l).2.shapes.length → ∃ p ∈ l, ∃ u, Part u (erase n p) ∧ DenE (addAll (addM n) S l).2 u i
 | [], S, _, _, i, h1, h2 => by simp only [addAll] at h2; omega
 | x :: l, S, hw, hn, i, h1, h2 => by
  obtain ⟨⟨a1, a2⟩, _⟩ := addM_end n S x hw hn.1
  obtain ⟨⟨b1, b2⟩, _⟩ := addAll_end (den := fun S x i => Den S n x i) (addM_end n) (fun _ _ _ _ hst hd => Den.mono hst hd) l _ a1 hn.2
  by_cases h3 : i < (addM n S x).2.shapes.length
  ·obtain ⟨u, hp, hd⟩ := ih S x hw hn.1 i h1 h3
   exact ⟨x, by simp, u, hp, hd.mono b2.shapes⟩
  ·obtain ⟨p, hp, u, hu, hd⟩ := addAll_terms ih l _ a1 hn.2 i (by omega) h2
   exact ⟨p, by simp [hp], u, hu, hd⟩
theorem addM_terms : ∀ (n : Nat) (S : WS) (t : Tm n), Web S → Narrow n t → ∀ i, S.shapes.length ≤ i → i < (addM n S t).2.shapes.length → ∃ u, Part u (erase n t) ∧ DenE (addM n S t).2 u i
 | 0, _, _, _, h, _, _, _ => h.elim
 | n + 1, S, t, hw, hn, i, h1, h2 => by
  have hden := (addM_end (n + 1) S t hw hn).2
  have hE := hden.erase hn
  obtain ⟨⟨a1, a2⟩, _⟩ := addAll_end (den := fun S x i => Den S n x i) (addM_end n) (fun _ _ _ _ hst hd => Den.mono hst hd) t.parts S hw hn.2.2
  have hT := addAll_terms (addM_terms n) t.parts S hw hn.2.2 i h1
  have hcase : ((addM (n + 1) S t).2 = (addAll (addM n) S t.parts).2) ∨ ((addM (n + 1) S t) = enterM (addAll (addM n) S t.parts).2 (shapeOf t.name (addAll (addM n) S t.parts).1)) := by
   unfold Go.Proofs.YtmfkpllnmmfpiaaGreatDoor.addM
   simp only
   split
   ·exact .inl rfl
   ·exact .inr rfl
  rcases hcase with hc | hc
  ·rw [hc] at h2 ⊢
   obtain ⟨p, hp, u, hu, hd⟩ := hT h2
   exact ⟨u, .within (List.mem_map.2 ⟨p, hp, rfl⟩) hu, hd⟩
  ·have e1 := (a1.base.inv.enter (shapeOf t.name (addAll (addM n) S t.parts).1))
   have hA := a1.base.entered (shapeOf t.name (addAll (addM n) S t.parts).1)
   rw [hc] at h2 hE ⊢
   by_cases h3 : i < (addAll (addM n) S t.parts).2.shapes.length
   ·obtain ⟨p, hp, u, hu, hd⟩ := hT h3
    exact ⟨u, .within (List.mem_map.2 ⟨p, hp, rfl⟩) hu, hd.mono hA.shapes⟩
   ·have h4 := e1.2.2.1
    obtain rfl : i = (addAll (addM n) S t.parts).2.shapes.length := by omega
    rw [e1.2.1] at hE
    exact ⟨_, .self _, hE⟩
theorem AllIs.snoc1 {α β : Type} {R : α → β → Prop} {xs : List α} {ys : List β} {a : α} {b : β} (h : AllIs R xs ys) (hab : R a b) : AllIs R (xs ++ [a]) (ys ++ [b]) := by
 induction xs generalizing ys with
 | nil =>
  cases ys with
  | nil => exact ⟨hab, trivial⟩
  | cons y ys => exact h.elim
 | cons x xs ih =>
  cases ys with
  | nil => exact h.elim
  | cons y ys => exact ⟨h.1, ih h.2⟩
theorem Holds.none : Holds noWS [] :=
 ⟨noWS_fine, fun t ⟨s, hs, _⟩ => by (cases hs), fun i hi => by simp [noWS] at hi, trivial⟩
theorem Holds.say {S : WS} {L : List ST} (h : Holds S L) {n : Nat} {x : Snt n} (hx : NarrowS x) (hr : S.shapes.length + sizeS x ≤ 400) : Holds (sayM S x) (L ++ [eraseS x]) := by
 have E := sayM_end h.fine.web hx hr
 obtain ⟨i, j, d1, d2, hs⟩ := E.said
 have e1 := d1.erase hx.1
 have e2 := d2.erase hx.2
 obtain ⟨⟨a1, a2⟩, _⟩ := addM_end n S x.left h.fine.web hx.1
 obtain ⟨⟨b1, b2⟩, _⟩ := addM_end n (addM n S x.left).2 x.right a1 hx.2
 have hsh := sayM_shapes h.fine.web hx hr
 refine ⟨⟨E.web, E.pot h.fine.pot⟩, fun t ht => ?_, fun k hk => ?_, ?_⟩
 ·obtain ⟨s, hm, hp⟩ := ht
  simp only [List.mem_append, List.mem_singleton] at hm
  rcases hm with hm | rfl
  ·obtain ⟨k, hd⟩ := h.num t ⟨s, hm, hp⟩
   exact ⟨k, hd.mono E.shapes⟩
  ·rcases hp with hp | hp
   ·exact DenE.part hp e1
   ·exact DenE.part hp e2
 ·have kn : ∀ u, known L u → known (L ++ [eraseS x]) u := fun u hu => hu.mono (by intro s hs; simp [hs])
  have sm : ∀ {u : Trm} {k : Nat}, DenE (addM n (addM n S x.left).2 x.right).2 u k → DenE (sayM S x) u k := fun hd => hd.mono (by rw [hsh]; exact fun _ _ e => e)
  by_cases h1 : k < S.shapes.length
  ·obtain ⟨u, hu, hd⟩ := h.term k h1
   exact ⟨u, kn u hu, hd.mono E.shapes⟩
  ·rw [hsh] at hk
   by_cases h2 : k < (addM n S x.left).2.shapes.length
   ·obtain ⟨u, hu, hd⟩ := addM_terms n S x.left h.fine.web hx.1 k (by omega) h2
    exact ⟨u, ⟨eraseS x, by simp, .inl hu⟩, sm (hd.mono b2.shapes)⟩
   ·obtain ⟨u, hu, hd⟩ := addM_terms n _ x.right a1 hx.2 k (by omega) hk
    exact ⟨u, ⟨eraseS x, by simp, .inr hu⟩, sm hd⟩
 ·rw [hs]
  refine AllIs.snoc1 (h.said.mono fun y s hy => ⟨hy.1, hy.2.1.mono E.shapes, hy.2.2.mono E.shapes⟩) ⟨rfl, e1, e2⟩
theorem nodup_below : ∀ (n : Nat) (l : List Nat), l.Nodup → (∀ x ∈ l, x < n) → l.length ≤ n
 | 0, [], _, _ => Nat.le_refl _
 | 0, x :: _, _, h => absurd (h x (by simp)) (Nat.not_lt_zero _)
 | n + 1, l, hn, h => by
  have h1 := nodup_below n (l.filter (· != n)) (hn.filter _) (fun x hx => by
   rw [List.mem_filter] at hx
   have := h x hx.1
   have : x ≠ n := by simpa using hx.2
   omega)
  have h2 := filter_split2 (· != n) l
  have h3 : (l.filter (fun x => !(x != n))).length ≤ 1 := by
   have hq : ∀ x ∈ l.filter (fun x => !(x != n)), x = n := fun x hx => by
    rw [List.mem_filter] at hx
    simpa using hx.2
   have hd : (l.filter (fun x => !(x != n))).Nodup := hn.filter _
   generalize l.filter (fun x => !(x != n)) = m at *
   match m, hq, hd with
   | [], _, _ => simp
   | [_], _, _ => simp
   | a :: b :: m, hq, hd =>
    have ea := hq a (by simp)
    have eb := hq b (by simp)
    simp [ea, eb] at hd
  omega
where
 filter_split2 {α : Type} (p : α → Bool) : ∀ l : List α, l.length = (l.filter p).length + (l.filter (fun x => !p x)).length
 | [] => rfl
 | a :: l => by
  have := filter_split2 p l
  cases h : p a <;> simp [h] <;> omega
theorem choose_list {α : Type} {P : Nat → α → Prop} : ∀ n : Nat, (∀ i, i < n → ∃ a, P i a) → ∃ l : List α, l.length = n ∧ ∀ (i : Nat) (a : α), l[i]? = some a → P i a
 | 0, _ => ⟨[], rfl, fun i a h => by simp at h⟩
 | n + 1, h => by
  obtain ⟨l, hl, hp⟩ := choose_list n (fun i hi => h i (by omega))
  obtain ⟨a, ha⟩ := h n (by omega)
  refine ⟨l ++ [a], by simp [hl], fun i b hb => ?_⟩
  by_cases hi : i < l.length
  ·rw [List.getElem?_append_left hi] at hb
   exact hp i b hb
  ·rw [List.getElem?_append_right (by omega)] at hb
   have h0 : i - l.length = 0 := by
    have := (List.getElem?_eq_some_iff.1 hb).1
    simp at this
    omega
   rw [h0] at hb
   simp only [List.getElem?_cons_zero, Option.some.injEq] at hb
   subst hb
   obtain rfl : i = n := by omega
   exact ha
theorem Holds.fewer {S T : WS} {L M : List ST} (hS : Holds S L) (hT : Holds T M) (hk : ∀ t, known M t → known L t) : T.shapes.length ≤ S.shapes.length := by
 obtain ⟨l, hl, hp⟩ := choose_list (P := fun i j => ∃ t, DenE T t i ∧ DenE S t j) T.shapes.length (fun i hi => by
  obtain ⟨t, kt, dt⟩ := hT.term i hi
  obtain ⟨j, dj⟩ := hS.num t (hk t kt)
  exact ⟨j, t, dt, dj⟩)
 rw [← hl]
 refine nodup_below _ l ?_ fun x hx => ?_
 ·have : ∀ (i j : Nat) (x : Nat), l[i]? = some x → l[j]? = some x → i = j := fun i j x hi hj => by
   obtain ⟨t, d1, d2⟩ := hp i x hi
   obtain ⟨u, d3, d4⟩ := hp j x hj
   obtain rfl := d2.fn d4
   exact d1.inj hT.fine.web.base d3
  exact nodup_get l this
 ·obtain ⟨i, hi⟩ := List.getElem?_of_mem hx
  obtain ⟨t, _, d2⟩ := hp i x hi
  exact d2.lt
where
 nodup_get : ∀ l : List Nat, (∀ (i j : Nat) (x : Nat), l[i]? = some x → l[j]? = some x → i = j) → l.Nodup
 | [], _ => List.nodup_nil
 | a :: l, h => by
  refine List.nodup_cons.2 ⟨fun hm => ?_, nodup_get l fun i j x hi hj => by have := h (i + 1) (j + 1) x (by simpa using hi) (by simpa using hj); omega⟩
  obtain ⟨i, hi⟩ := List.getElem?_of_mem hm
  have := h 0 (i + 1) a (by simp) (by simpa using hi)
  omega
end Go.Proofs.YtmfkpllnmmfpiaaGreatDoor

namespace Go.Proofs.YtmfkpllnmmfpiaaGreatDoor
open Go.RowKit
theorem nameR_keep {s : ByteArray} {x : Sc} (h : 0 ≤ x.bad) : nameR s x = (noName, blanksR s x) := by
 unfold nameR
 rw [if_pos (.inl h), noR_keep (x := blanksR s x) h]
theorem termR_keep {s : ByteArray} (n d : Nat) {x : Sc} (h : 0 ≤ x.bad) : (termR s n d x).2.bad = x.bad := by
 cases n with
 | zero => rfl
 | succ n =>
  have hb : (headR s d x).2.bad = x.bad := by rw [headR_at.1, nameR_keep (x := blanksR s x) h]; rfl
  unfold termR
  rw [isR_bad (by rw [hb]; exact h)]
  exact hb
theorem signR_keep {s : ByteArray} {x : Sc} (h : 0 ≤ x.bad) : (signR s x).2.bad = x.bad := by
 unfold signR
 rw [isR_bad h, isR_bad h]
 show (noR (blanksR s x)).bad = _
 rw [noR_keep (x := blanksR s x) h]
 rfl
theorem word_seven {s : ByteArray} {i : Nat} : (wordAt s i).1 = 7 ↔ endOf blankB s i = s.size := by
 unfold wordAt
 simp only
 split
 ·rename_i h; exact ⟨fun _ => h, fun _ => rfl⟩
 ·rename_i h
  refine ⟨fun e => ?_, fun e => absurd e h⟩
  split at e
  ·cases e
  ·split at e
   ·cases e
   ·exact absurd e (kindOf_not _).2
theorem word_bang {s : ByteArray} {i : Nat} : ((wordAt s i).1 = 5 ↔ endOf blankB s i + 1 < s.size ∧ byteAt s (endOf blankB s i) = 33 ∧ byteAt s (endOf blankB s i + 1) = 61) ∧ ((wordAt s i).1 = 6 ↔ endOf blankB s i < s.size ∧ byteAt s (endOf blankB s i) = 33 ∧ ¬ (endOf blankB s i + 1 < s.size ∧ byteAt s (endOf blankB s i + 1) = 61)) ∧ ((wordAt s i).1 = 5 → (wordAt s i).2.2 = endOf blankB s i + 2) ∧ ((wordAt s i).1 = 6 → (wordAt s i).2.2 = endOf blankB s i + 1) := by
 unfold wordAt
 simp only
 generalize endOf blankB s i = f
 by_cases e0 : f = s.size
 ·rw [if_pos e0]
  refine ⟨⟨fun h => (by cases h), fun h => (by omega)⟩, ⟨fun h => (by cases h), fun h => (by omega)⟩, fun h => (by cases h), fun h => (by cases h)⟩
 ·rw [if_neg e0]
  by_cases e1 : kindOf (byteAt s f) = 0
  ·rw [if_pos e1]
   have hn : byteAt s f ≠ 33 := fun e => by
    have := (kindOf_6 _).2 e
    omega
   refine ⟨⟨fun h => (by cases h), fun h => absurd h.2.1 hn⟩, ⟨fun h => (by cases h), fun h => absurd h.2.1 hn⟩, fun h => (by cases h), fun h => by cases h⟩
  ·rw [if_neg e1]
   by_cases e2 : kindOf (byteAt s f) = 6 ∧ f + 1 < s.size ∧ byteAt s (f + 1) = 61
   ·rw [if_pos e2]
    refine ⟨⟨fun _ => ⟨e2.2.1, (kindOf_6 _).1 e2.1, e2.2.2⟩, fun _ => rfl⟩, ⟨fun h => (by cases h), fun h => absurd e2.2 h.2.2⟩, fun _ => rfl, fun h => by cases h⟩
   ·rw [if_neg e2]
    refine ⟨⟨fun h => absurd h (kindOf_not _).1, fun h => absurd ⟨(kindOf_6 _).2 h.2.1, h.1, h.2.2⟩ e2⟩, ⟨fun h => ?_, fun h => (kindOf_6 _).2 h.2.1⟩, fun h => absurd h (kindOf_not _).1, fun _ => rfl⟩
    have h3 := (kindOf_6 _).1 h
    refine ⟨?_, h3, fun h4 => e2 ⟨h, h4⟩⟩
    by_cases h4 : f < s.size
    ·exact h4
    ·rw [byteAt_past (by omega)] at h3
     cases h3
theorem is_bang {s : ByteArray} {x : Sc} (hb : x.bad = -1) : isR s 33 x = true ↔ endOf blankB s x.pos < s.size ∧ byteAt s (endOf blankB s x.pos) = 33 := by
 unfold isR
 rw [decide_eq_true (by omega : x.bad < 0)]
 simp
theorem sign_law {s : ByteArray} {x : Sc} (hb : x.bad = -1) :
  (∀ g st2, signOf s (wordAt s x.pos) = (some g, st2) → (signR s x).1 = g ∧ (signR s x).2.bad = -1 ∧ (signR s x).2.pos ≤ s.size ∧ wordAt s (signR s x).2.pos = st2 ∧ (signR s x).2.out = x.out ∧ endOf blankB s x.pos ≤ (signR s x).2.pos) ∧
  (∀ st2, signOf s (wordAt s x.pos) = (none, st2) → (signR s x).2.bad = (st2.2.1 : Nat)) := by
 have hfrom := wordAt_from s x.pos
 obtain ⟨b5, b6, t5, t6⟩ := word_bang (s := s) (i := x.pos)
 by_cases h4 : (wordAt s x.pos).1 = 4
 ·rw [signOf_eq h4]
  refine ⟨fun g st2 h => ?_, fun st2 h => by simp at h⟩
  simp only [Prod.mk.injEq, Option.some.injEq] at h
  obtain ⟨rfl, rfl⟩ := h
  have he : isR s 61 x = true := (is_equal hb).2 h4
  obtain ⟨e1, e2⟩ := to_equal (s := s) (i := x.pos) h4
  have hS : signR s x = (true, (blanksR s x).next) := by unfold signR; rw [if_pos he]
  rw [hS]
  exact ⟨rfl, hb, by show endOf blankB s x.pos + 1 ≤ _; omega, by rw [e1]; rfl, rfl, Nat.le_succ _⟩
 ·have he : ¬ isR s 61 x = true := fun h => h4 ((is_equal hb).1 h)
  by_cases h5 : (wordAt s x.pos).1 = 5
  ·rw [signOf_ne h5]
   refine ⟨fun g st2 h => ?_, fun st2 h => by simp at h⟩
   simp only [Prod.mk.injEq, Option.some.injEq] at h
   obtain ⟨rfl, rfl⟩ := h
   obtain ⟨c1, c2, c3⟩ := b5.1 h5
   have hbg : isR s 33 x = true := (is_bang hb).2 ⟨by omega, c2⟩
   have hS : signR s x = (false, (blanksR s x).next.next) := by
    unfold signR
    rw [if_neg he, if_pos hbg, if_neg]
    show ¬ (s.size ≤ endOf blankB s x.pos + 1 ∨ byteAt s (endOf blankB s x.pos + 1) ≠ 61)
    rw [c3]
    simp
    omega
   rw [hS]
   refine ⟨rfl, hb, by show endOf blankB s x.pos + 1 + 1 ≤ _; omega, by rw [t5 h5]; rfl, rfl, by show _ ≤ endOf blankB s x.pos + 1 + 1; omega⟩
  ·by_cases h6 : (wordAt s x.pos).1 = 6
   ·rw [signOf_bang h6]
    refine ⟨fun g st2 h => by simp at h, fun st2 h => ?_⟩
    simp only [Prod.mk.injEq, true_and] at h
    subst h
    obtain ⟨c1, c2, c3⟩ := b6.1 h6
    have hbg : isR s 33 x = true := (is_bang hb).2 ⟨c1, c2⟩
    have hS : signR s x = (false, (noR (blanksR s x).next).next) := by
     unfold signR
     rw [if_neg he, if_pos hbg, if_pos]
     show s.size ≤ endOf blankB s x.pos + 1 ∨ byteAt s (endOf blankB s x.pos + 1) ≠ 61
     by_cases h9 : s.size ≤ endOf blankB s x.pos + 1
     ·exact .inl h9
     ·exact .inr fun h8 => c3 ⟨by omega, h8⟩
    rw [hS]
    show (noR (blanksR s x).next).bad = _
    unfold noR
    rw [if_pos (by show x.bad < 0; omega), t6 h6]
    rfl
   ·rw [signOf_no h4 h5 h6]
    refine ⟨fun g st2 h => by simp at h, fun st2 h => ?_⟩
    simp only [Prod.mk.injEq, true_and] at h
    subst h
    have hbg : ¬ isR s 33 x = true := fun h => by
     obtain ⟨c1, c2⟩ := (is_bang hb).1 h
     by_cases h9 : endOf blankB s x.pos + 1 < s.size ∧ byteAt s (endOf blankB s x.pos + 1) = 61
     ·exact h5 (b5.2 ⟨h9.1, c2, h9.2⟩)
     ·exact h6 (b6.2 ⟨c1, c2, h9⟩)
    have hS : signR s x = (false, noR (blanksR s x)) := by unfold signR; rw [if_neg he, if_neg hbg]
    rw [hS, hfrom]
    show (noR (blanksR s x)).bad = _
    unfold noR
    rw [if_pos (by show x.bad < 0; omega)]
    rfl
theorem errOf_range {n : Nat} {t : Tm n} {d : Nat} {k : Int} {p : Nat} (h : rangeOf n t d = some (k, p)) : errOf k = 3 := by
 have := rangeOf_kind h
 simp only at this
 have hk : k = 3 ∨ k = 4 ∨ k = 5 := by omega
 rcases hk with rfl | rfl | rfl <;> rfl
theorem refRead_eq (s : ByteArray) : (∀ x, (readOf s).1 = some x → refRead s = (some (eraseS x), 0, 0)) ∧ ((readOf s).1 = none → refRead s = (none, errOf (readOf s).2.1, (((readOf s).2.2 : Nat) : Int))) := by
 by_cases hl : 200 < s.size
 ·have e : readOf s = (none, 1, 0) := by unfold readOf; rw [if_pos hl]
  refine ⟨fun x hx => (by rw [e] at hx; cases hx), fun _ => ?_⟩
  unfold refRead
  rw [if_pos hl, e]
  rfl
 ·have hx0 : OutOK (-1) (wordAt s 0).2.1 := .inl rfl
  obtain ⟨aS, aN⟩ := term_law s (s.size + 1) 0 ⟨0, -1, -1⟩ rfl (Nat.zero_le _) (by show s.size < 0 + _; omega) hx0
  have hbadall : ∀ p : Nat, 0 ≤ (scanR s).x.bad → (scanR s).x.bad = (p : Nat) → refRead s = (none, 2, ((p : Nat) : Int)) := fun p h1 h2 => by
   unfold refRead
   rw [if_neg hl, if_pos h1, h2]
  have hread : ∀ st : Wd, sentOf s (fuelOf s) (wordAt s 0) = (none, st) → readOf s = (none, 2, st.2.1) := fun st h => by unfold readOf; rw [if_neg hl, h]
  have hscan : (scanR s).x = (if (blanksR s (termR s (s.size + 1) 0 (signR s (termR s (s.size + 1) 0 ⟨0, -1, -1⟩).2).2).2).bad < 0 ∧ (blanksR s (termR s (s.size + 1) 0 (signR s (termR s (s.size + 1) 0 ⟨0, -1, -1⟩).2).2).2).pos < s.size then noR (blanksR s (termR s (s.size + 1) 0 (signR s (termR s (s.size + 1) 0 ⟨0, -1, -1⟩).2).2).2) else (blanksR s (termR s (s.size + 1) 0 (signR s (termR s (s.size + 1) 0 ⟨0, -1, -1⟩).2).2).2)) := rfl
  have hl1 : (scanR s).l = (termR s (s.size + 1) 0 ⟨0, -1, -1⟩).1 := rfl
  have hl2 : (scanR s).eq = (signR s (termR s (s.size + 1) 0 ⟨0, -1, -1⟩).2).1 := rfl
  have hl3 : (scanR s).r = (termR s (s.size + 1) 0 (signR s (termR s (s.size + 1) 0 ⟨0, -1, -1⟩).2).2).1 := rfl
  -- once wrong, it stays so
  have hstay : ∀ p : Nat, (termR s (s.size + 1) 0 (signR s (termR s (s.size + 1) 0 ⟨0, -1, -1⟩).2).2).2.bad = (p : Nat) → (scanR s).x.bad = (p : Nat) := fun p h => by
   have h2 : (blanksR s (termR s (s.size + 1) 0 (signR s (termR s (s.size + 1) 0 ⟨0, -1, -1⟩).2).2).2).bad = (p : Nat) := h
   rw [hscan, if_neg (by omega)]
   exact h2
  have hnone : ∀ st : Wd, sentOf s (fuelOf s) (wordAt s 0) = (none, st) → (scanR s).x.bad = (st.2.1 : Nat) → (∀ x, (readOf s).1 = some x → refRead s = (some (eraseS x), 0, 0)) ∧ ((readOf s).1 = none → refRead s = (none, errOf (readOf s).2.1, (((readOf s).2.2 : Nat) : Int))) := fun st h1 h2 => by
   have e := hread st h1
   refine ⟨fun x hx => (by rw [e] at hx; cases hx), fun _ => ?_⟩
   rw [hbadall st.2.1 (by omega) h2, e]
   rfl
  cases h1 : termOf s (s.size + 1) (wordAt s 0) with
  | mk o1 st1 =>
   cases o1 with
   | none =>
    have hb := aN st1 h1
    refine hnone st1 (by unfold sentOf; rw [show termOf s (fuelOf s) (wordAt s 0) = _ from h1]) (hstay _ ?_)
    rw [termR_keep _ _ (by rw [signR_keep (by rw [hb]; omega), hb]; omega), signR_keep (by rw [hb]; omega), hb]
   | some l =>
    have A := aS l st1 h1
    obtain ⟨bS, bN⟩ := sign_law (s := s) A.bad
    rw [A.word] at bS bN
    cases h2 : signOf s st1 with
    | mk o2 st2 =>
     cases o2 with
     | none =>
      have hb := bN st2 h2
      refine hnone st2 (by unfold sentOf; rw [show termOf s (fuelOf s) (wordAt s 0) = _ from h1]; simp only; rw [h2]) (hstay _ ?_)
      rw [termR_keep _ _ (by rw [hb]; omega), hb]
     | some g =>
      obtain ⟨g1, g2, g3, g4, g5, g6⟩ := bS g st2 h2
      have hfr1 : st1.2.1 = endOf blankB s (termR s (s.size + 1) 0 ⟨0, -1, -1⟩).2.pos := by rw [← A.word, wordAt_from]
      have hO2 : OutOK (signR s (termR s (s.size + 1) 0 ⟨0, -1, -1⟩).2).2.out (wordAt s (signR s (termR s (s.size + 1) 0 ⟨0, -1, -1⟩).2).2.pos).2.1 := by
       rw [g5]
       refine A.later.mono ?_
       rw [wordAt_from, hfr1]
       have := (endOf_le blankB s _ g3).1
       omega
      obtain ⟨cS, cN⟩ := term_law s (s.size + 1) 0 (signR s (termR s (s.size + 1) 0 ⟨0, -1, -1⟩).2).2 g2 g3 (by omega) hO2
      rw [g4] at cS cN
      cases h3 : termOf s (s.size + 1) st2 with
      | mk o3 st3 =>
       cases o3 with
       | none => exact hnone st3 (by unfold sentOf; rw [show termOf s (fuelOf s) (wordAt s 0) = _ from h1]; simp only; rw [h2]; simp only; rw [show termOf s (fuelOf s) st2 = _ from h3]) (hstay _ (cN st3 h3))
       | some r =>
        have C := cS r st3 h3
        have hfr3 : st3.2.1 = endOf blankB s (termR s (s.size + 1) 0 (signR s (termR s (s.size + 1) 0 ⟨0, -1, -1⟩).2).2).2.pos := by rw [← C.word, wordAt_from]
        have hseven : st3.1 = 7 ↔ endOf blankB s (termR s (s.size + 1) 0 (signR s (termR s (s.size + 1) 0 ⟨0, -1, -1⟩).2).2).2.pos = s.size := by rw [← C.word]; exact word_seven
        have hble := endOf_le blankB s _ C.pos
        have hbb : (blanksR s (termR s (s.size + 1) 0 (signR s (termR s (s.size + 1) 0 ⟨0, -1, -1⟩).2).2).2).bad = -1 := C.bad
        have hbp : (blanksR s (termR s (s.size + 1) 0 (signR s (termR s (s.size + 1) 0 ⟨0, -1, -1⟩).2).2).2).pos = endOf blankB s (termR s (s.size + 1) 0 (signR s (termR s (s.size + 1) 0 ⟨0, -1, -1⟩).2).2).2.pos := rfl
        by_cases h7 : st3.1 = 7
        ·have h7' := hseven.1 h7
         have hsn : sentOf s (fuelOf s) (wordAt s 0) = (some ⟨l, g, r⟩, st3) := by unfold sentOf; rw [show termOf s (fuelOf s) (wordAt s 0) = _ from h1]; simp only; rw [h2]; simp only; rw [show termOf s (fuelOf s) st2 = _ from h3]; simp only; rw [if_pos h7]
         have hxx : (scanR s).x = blanksR s (termR s (s.size + 1) 0 (signR s (termR s (s.size + 1) 0 ⟨0, -1, -1⟩).2).2).2 := by rw [hscan, if_neg (by rw [hbp]; omega)]
         have hxb : (scanR s).x.bad = -1 := by rw [hxx]; exact hbb
         have hxo : (scanR s).x.out = orO (orO (-1) (rangeOf (s.size + 1) l 0)) (rangeOf (s.size + 1) r 0) := by
          rw [hxx]
          show (termR s (s.size + 1) 0 (signR s (termR s (s.size + 1) 0 ⟨0, -1, -1⟩).2).2).2.out = _
          rw [C.out, g5, A.out]
         cases ra : rangeOf (s.size + 1) l 0 with
         | some c =>
          obtain ⟨k, p⟩ := c
          have hrr : readOf s = (none, k, p) := by
           have ra' : rangeOf (fuelOf s) l 0 = some (k, p) := ra
           unfold readOf
           rw [if_neg hl, hsn]
           simp only [ra']
          rw [ra] at hxo
          have ho : (scanR s).x.out = (p : Nat) := by rw [hxo]; simp [orO]
          refine ⟨fun x hx => (by rw [hrr] at hx; cases hx), fun _ => ?_⟩
          unfold refRead
          rw [if_neg hl, if_neg (by omega), if_pos (by omega), ho, hrr, errOf_range ra]
         | none =>
          cases rb : rangeOf (s.size + 1) r 0 with
          | some c =>
           obtain ⟨k, p⟩ := c
           have hrr : readOf s = (none, k, p) := by
            have ra' : rangeOf (fuelOf s) l 0 = none := ra
            have rb' : rangeOf (fuelOf s) r 0 = some (k, p) := rb
            unfold readOf
            rw [if_neg hl, hsn]
            simp only [ra', rb']
           rw [ra, rb] at hxo
           have ho : (scanR s).x.out = (p : Nat) := by rw [hxo]; simp [orO]
           refine ⟨fun x hx => (by rw [hrr] at hx; cases hx), fun _ => ?_⟩
           unfold refRead
           rw [if_neg hl, if_neg (by omega), if_pos (by omega), ho, hrr, errOf_range rb]
          | none =>
           have hrr : readOf s = (some ⟨l, g, r⟩, 0, 0) := by
            have ra' : rangeOf (fuelOf s) l 0 = none := ra
            have rb' : rangeOf (fuelOf s) r 0 = none := rb
            unfold readOf
            rw [if_neg hl, hsn]
            simp only [ra', rb']
           rw [ra, rb] at hxo
           have ho : (scanR s).x.out = -1 := by rw [hxo]; simp [orO]
           refine ⟨fun x hx => ?_, fun hx => (by rw [hrr] at hx; cases hx)⟩
           rw [hrr] at hx
           cases hx
           unfold refRead
           rw [if_neg hl, if_neg (by omega), if_neg (by omega), hl1, hl2, hl3, A.term, g1, C.term]
           rfl
        ·refine hnone st3 (by unfold sentOf; rw [show termOf s (fuelOf s) (wordAt s 0) = _ from h1]; simp only; rw [h2]; simp only; rw [show termOf s (fuelOf s) st2 = _ from h3]; simp only; rw [if_neg h7]) ?_
         have hlt : endOf blankB s (termR s (s.size + 1) 0 (signR s (termR s (s.size + 1) 0 ⟨0, -1, -1⟩).2).2).2.pos < s.size := by
          have := fun e => h7 (hseven.2 e)
          omega
         rw [hscan, if_pos ⟨by omega, by rw [hbp]; exact hlt⟩]
         unfold noR
         rw [if_pos (by omega), hfr3]
         rfl
end Go.Proofs.YtmfkpllnmmfpiaaGreatDoor
