/- JoinLaw2 -/
import Derived.Test.YtmfkpllnmmfpiaaGreatDoorJoinLawH
namespace Go.Proofs.YtmfkpllnmmfpiaaGreatDoor
open Go.RowKit
structure TwinsAt (S : WS) (i : Nat) (ps : List (Nat × Nat)) (T : WS) : Prop where
 same : Same S T i
 keep : ∀ k t, S.alike k = some t → T.alike k = some t
 base : Base T
 pairs : ∀ p ∈ ps, p.1 < S.classes.length ∧ p.2 < S.classes.length ∧ ∀ R, Closed S R → R p.1 p.2
 done : ∀ (j : Nat) (s : Sh), j < i → S.shapes[j]? = some s → ∃ t, T.alike (keyOfSh S s) = some t ∧ (classAt S t = classAt S j ∨ (t, j) ∈ ps)
theorem shapeAt_some {S : WS} {i : Nat} (hi : i < S.shapes.length) : S.shapes[i]? = some (shapeAt S i) := by
 unfold shapeAt
 rw [List.getD_eq_getElem?_getD, List.getElem?_eq_getElem hi]
 rfl
theorem Base.filed {T : WS} (h : Base T) {s : Sh} {i : Nat} (hi : T.shapes[i]? = some s) (hk : T.alike (keyOfSh T s) = none) : Base (fileM T s i).2 := by
 rw [fileM_none hk]
 have hl := h.lt hi
 have sub : ∀ R, Closed { T with alike := setF T.alike (keyOfSh T s) (some i), files := T.files + 1, trail := T.trail ++ [⟨2, keyOfSh T s, 0, 0⟩] } R → Closed T R := fun R hR => hR.mono (fun _ _ e => e) (fun _ e => e)
 refine ⟨⟨h.inv.len, h.inv.nums, h.inv.cl, fun k t hkt => ?_, h.inv.nu⟩, h.good, h.num, h.rep, h.saidLt, fun R hR => h.cls R (sub R hR), fun R hR k t hkt => ?_⟩
 ·simp only [setF] at hkt
  split at hkt
  ·cases hkt; exact (List.getElem?_eq_some_iff.1 hi).1
  ·exact h.inv.al k t hkt
 ·simp only [setF] at hkt
  split at hkt
  ·rename_i e
   cases hkt
   refine ⟨s, hi, by rw [e, key_name.1], by rw [e, key_name.2], fun j hj => ?_⟩
   rw [e]
   exact h.key_rel (h.cls R (sub R hR)) (h.good i s hi) (by omega) j hj
  ·exact h.alk R (sub R hR) k t hkt
theorem twinsTo_at {S : WS} (h : Base S) : ∀ i, i ≤ S.shapes.length → TwinsAt S i (twinsTo S i).1 (twinsTo S i).2
 | 0, _ => ⟨twinsTo_same S 0, fun _ _ h => h, h, fun p hp => by simp [twinsTo] at hp, fun j _ hj => by omega⟩
 | i + 1, hi => by
  have ih := twinsTo_at h i (by omega)
  have hs := shapeAt_some (S := S) (i := i) (by omega)
  have same := twinsTo_same S (i + 1)
  simp only [twinsTo] at same ⊢
  generalize hT : (twinsTo S i).2 = T at *
  generalize (twinsTo S i).1 = ps at *
  generalize shapeAt S i = s at *
  have hc := ih.same.classes
  have hkey : keyOfSh T s = keyOfSh S s := key_same hc s
  have hTs : T.shapes[i]? = some s := by rw [ih.same.shapes]; exact hs
  have hlen := h.inv.len
  have hCl : ∀ R, Closed S R → Closed T R := fun R hR => hR.mono (by rw [ih.same.shapes]; exact fun _ _ e => e) (by rw [ih.same.said]; exact fun _ e => e)
  cases hk : T.alike (keyOfSh T s) with
  | some t =>
   rw [fileM_some hk] at same ⊢
   simp only at same ⊢
   have ht : t < S.classes.length := by have := ih.base.inv.al _ _ hk; rw [ih.same.shapes] at this; omega
   have hrel : ∀ R, Closed S R → R t i := fun R hR => by
    obtain ⟨st, g1, g2, g3, g4⟩ := ih.base.alk R (hCl R hR) _ _ hk
    rw [ih.same.shapes] at g1
    refine hR.cong t i st s g1 hs (by rw [g2, key_name.1]) (by rw [g3, key_name.2]) fun k hk' => ?_
    have hk2 : k < s.2.1 := by rw [g3, key_name.2] at hk'; exact hk'
    exact hR.trans _ _ _ (g4 k hk') (hR.symm _ _ (ih.base.key_rel (ih.base.cls R (hCl R hR)) (h.good i s hs) (by rw [hc]; omega) k hk2))
   by_cases he : classAt S t = classAt S i
   ·rw [if_pos he]
    refine ⟨same, ih.keep, ih.base, ih.pairs, fun j s' hj hs' => ?_⟩
    by_cases e : j < i
    ·exact ih.done j s' e hs'
    ·obtain rfl : j = i := by omega
     rw [hs] at hs'
     cases hs'
     exact ⟨t, by rw [← hkey]; exact hk, .inl he⟩
   ·rw [if_neg he]
    refine ⟨same, ih.keep, ih.base, fun p hp => ?_, fun j s' hj hs' => ?_⟩
    ·simp only [List.mem_append, List.mem_singleton] at hp
     rcases hp with hp | rfl
     ·exact ih.pairs p hp
     ·exact ⟨ht, by show i < _; omega, hrel⟩
    ·by_cases e : j < i
     ·obtain ⟨u, g1, g2⟩ := ih.done j s' e hs'
      exact ⟨u, g1, g2.imp id (fun g => List.mem_append_left _ g)⟩
     ·obtain rfl : j = i := by omega
      rw [hs] at hs'
      cases hs'
      exact ⟨t, by rw [← hkey]; exact hk, .inr (by simp)⟩
  | none =>
   have hB := ih.base.filed hTs hk
   rw [fileM_none hk] at same hB ⊢
   simp only [if_true] at same hB ⊢
   refine ⟨same, fun k t hkt => ?_, hB, ih.pairs, fun j s' hj hs' => ?_⟩
   ·simp only [setF]
    rw [if_neg (fun e => by have := ih.keep k t hkt; rw [e, hk] at this; cases this)]
    exact ih.keep k t hkt
   ·simp only [setF]
    by_cases e : j < i
    ·obtain ⟨u, g1, g2⟩ := ih.done j s' e hs'
     refine ⟨u, ?_, g2⟩
     rw [if_neg (fun e' => by rw [e', hk] at g1; cases g1)]
     exact g1
    ·obtain rfl : j = i := by omega
     rw [hs] at hs'
     cases hs'
     exact ⟨j, by rw [hkey, if_pos rfl], .inl rfl⟩
theorem twinsM_at {S : WS} (h : Base S) : TwinsAt S S.shapes.length (twinsM S).1 (twinsM S).2 := twinsTo_at h _ (Nat.le_refl _)
structure Joining (ps : List (Nat × Nat)) (S : WS) : Prop where
 base : Base S
 pairs : ∀ p ∈ ps, p.1 < S.classes.length ∧ p.2 < S.classes.length ∧ ∀ R, Closed S R → R p.1 p.2
 stable : ∀ (i : Nat) (s : Sh), S.shapes[i]? = some s → ∃ t, S.alike (keyOfSh S s) = some t ∧ (classAt S t = classAt S i ∨ ∃ p ∈ ps, classAt S p.1 = classAt S t ∧ classAt S p.2 = classAt S i)
structure Joined (S T : WS) : Prop where
 shapes : T.shapes = S.shapes
 numbers : T.numbers = S.numbers
 nums : T.nums = S.nums
 said : T.said = S.said
 clen : T.classes.length = S.classes.length
 merges : ∀ i j, i < S.classes.length → j < S.classes.length → classAt S i = classAt S j → classAt T i = classAt T j
 trail : T.trail.length + 1000 * reps T T.classes.length ≤ S.trail.length + 1000 * reps S S.classes.length
 files : T.files + 1000 * reps T T.classes.length ≤ S.files + 1000 * reps S S.classes.length
theorem Joined.refl (S : WS) : Joined S S := ⟨rfl, rfl, rfl, rfl, rfl, fun _ _ _ _ h => h, Nat.le_refl _, Nat.le_refl _⟩
theorem Joined.trans {S T U : WS} (h : Joined S T) (k : Joined T U) : Joined S U :=
 ⟨k.shapes.trans h.shapes, k.numbers.trans h.numbers, k.nums.trans h.nums, k.said.trans h.said, k.clen.trans h.clen, fun i j hi hj e => k.merges i j (by rw [h.clen]; exact hi) (by rw [h.clen]; exact hj) (h.merges i j hi hj e), Nat.le_trans k.trail h.trail, Nat.le_trans k.files h.files⟩
theorem Joining.skip {p : Nat × Nat} {ps : List (Nat × Nat)} {S : WS} (h : Joining (p :: ps) S) (he : classAt S p.1 = classAt S p.2) : Joining ps S := by
 refine ⟨h.base, fun q hq => h.pairs q (List.mem_cons_of_mem _ hq), fun i s hi => ?_⟩
 obtain ⟨t, h1, h2⟩ := h.stable i s hi
 refine ⟨t, h1, ?_⟩
 rcases h2 with h2 | ⟨q, hq, h3, h4⟩
 ·exact .inl h2
 ·simp only [List.mem_cons] at hq
  rcases hq with rfl | hq
  ·exact .inl (h3.symm.trans (he.trans h4))
  ·exact .inr ⟨q, hq, h3, h4⟩
theorem Joining.go {p : Nat × Nat} {ps : List (Nat × Nat)} {S : WS} (h : Joining (p :: ps) S) (he : classAt S p.1 ≠ classAt S p.2) (hn : S.classes.length ≤ 400) :
  Joining (ps ++ (twinsM (moveM S (classAt S p.2) (classAt S p.1))).1) (twinsM (moveM S (classAt S p.2) (classAt S p.1))).2 ∧ Joined S (twinsM (moveM S (classAt S p.2) (classAt S p.1))).2 ∧
   classAt (twinsM (moveM S (classAt S p.2) (classAt S p.1))).2 p.1 = classAt (twinsM (moveM S (classAt S p.2) (classAt S p.1))).2 p.2 ∧ (twinsM (moveM S (classAt S p.2) (classAt S p.1))).1.length ≤ S.classes.length ∧
   reps (twinsM (moveM S (classAt S p.2) (classAt S p.1))).2 S.classes.length + 1 = reps S S.classes.length ∧ Base (moveM S (classAt S p.2) (classAt S p.1)) := by
 obtain ⟨hp1, hp2, hpR⟩ := h.pairs p (List.mem_cons_self ..)
 have hB := h.base.move hp1 hp2 hpR he
 have hreps := h.base.move_reps hp1 hp2 he
 obtain ⟨r1, r2, r3, r4, r5, r6, r7, r8⟩ := moveTo_rows S (classAt S p.2) (classAt S p.1) S.classes.length
 change (moveM S (classAt S p.2) (classAt S p.1)).classes.length = _ at r1
 change (moveM S (classAt S p.2) (classAt S p.1)).shapes = _ at r2
 change (moveM S (classAt S p.2) (classAt S p.1)).numbers = _ at r3
 change (moveM S (classAt S p.2) (classAt S p.1)).said = _ at r5
 change (moveM S (classAt S p.2) (classAt S p.1)).nums = _ at r6
 change (moveM S (classAt S p.2) (classAt S p.1)).files = _ at r7
 change (moveM S (classAt S p.2) (classAt S p.1)).trail.length ≤ _ at r8
 have hmm : ∀ i j, i < S.classes.length → j < S.classes.length → classAt S i = classAt S j → classAt (moveM S (classAt S p.2) (classAt S p.1)) i = classAt (moveM S (classAt S p.2) (classAt S p.1)) j := fun i j hi hj e => move_merges hi hj e
 have hpp : classAt (moveM S (classAt S p.2) (classAt S p.1)) p.1 = classAt (moveM S (classAt S p.2) (classAt S p.1)) p.2 := by
  rw [moveM_class hp1, moveM_class hp2, if_neg he, if_pos rfl]
 generalize moveM S (classAt S p.2) (classAt S p.1) = M at *
 have hT := twinsM_at hB
 have hTl : (twinsM M).1.length ≤ M.shapes.length := twinsTo_length M _
 generalize (twinsM M).2 = T at *
 generalize (twinsM M).1 = qs at *
 have hcT := hT.same.classes
 have cA : ∀ i, classAt T i = classAt M i := fun i => classAt_same hcT i
 have hlen := h.base.inv.len
 have hlM := hB.inv.len
 have sub : ∀ R, Closed T R → Closed S R := fun R hR => hR.mono (by rw [hT.same.shapes, r2]; exact fun _ _ e => e) (by rw [hT.same.said, r5]; exact fun _ e => e)
 have subM : ∀ R, Closed T R → Closed M R := fun R hR => hR.mono (by rw [hT.same.shapes]; exact fun _ _ e => e) (by rw [hT.same.said]; exact fun _ e => e)
 have hrT : reps T S.classes.length = reps M S.classes.length := reps_congr _ fun i _ => by rw [cA]
 have htr := hT.same.trail
 have hfl := hT.same.files
 refine ⟨⟨hT.base, fun q hq => ?_, fun i s hi => ?_⟩, ⟨hT.same.shapes.trans r2, hT.same.numbers.trans r3, hT.same.nums.trans r6, hT.same.said.trans r5, by rw [hcT, r1], fun i j hi hj e => by rw [cA, cA]; exact hmm i j hi hj e, ?_, ?_⟩, by rw [cA, cA]; exact hpp, by omega, by omega, hB⟩
 ·simp only [List.mem_append] at hq
  rw [hcT, r1]
  rcases hq with hq | hq
  ·obtain ⟨a, b, c⟩ := h.pairs q (List.mem_cons_of_mem _ hq)
   exact ⟨a, b, fun R hR => c R (sub R hR)⟩
  ·obtain ⟨a, b, c⟩ := hT.pairs q hq
   exact ⟨by omega, by omega, fun R hR => c R (subM R hR)⟩
 ·rw [hT.same.shapes] at hi
  have hil := (List.getElem?_eq_some_iff.1 hi).1
  obtain ⟨t, g1, g2⟩ := hT.done i s hil hi
  refine ⟨t, by rw [key_same hcT]; exact g1, ?_⟩
  rw [cA, cA]
  rcases g2 with g2 | g2
  ·exact .inl g2
  ·exact .inr ⟨(t, i), List.mem_append_right _ g2, by rw [cA], by rw [cA]⟩
 ·rw [hcT, r1]; omega
 ·rw [hcT, r1]; omega
structure JoinEnd (ps : List (Nat × Nat)) (S T : WS) : Prop where
 base : Base T
 stable : ∀ (i : Nat) (s : Sh), T.shapes[i]? = some s → ∃ t, T.alike (keyOfSh T s) = some t ∧ classAt T t = classAt T i
 joined : Joined S T
 pairs : ∀ p ∈ ps, classAt T p.1 = classAt T p.2
def need (ps : List (Nat × Nat)) (S : WS) : Nat := reps S S.classes.length * (S.classes.length + 1) + ps.length + 1
theorem need_go {ps qs : List (Nat × Nat)} {n d d' k : Nat} (hq : qs.length ≤ n) (hd : d' + 1 = d) (hk : d * (n + 1) + (ps.length + 1) + 1 ≤ k + 1) : d' * (n + 1) + (ps ++ qs).length + 1 ≤ k := by
 subst hd
 rw [Nat.add_mul, Nat.one_mul] at hk
 simp only [List.length_append]
 omega
theorem joinF_end : ∀ (k : Nat) (ps : List (Nat × Nat)) (S : WS), Joining ps S → S.classes.length ≤ 400 → need ps S ≤ k → JoinEnd ps S (joinF k ps S)
 | 0, _, _, _, _, h => by unfold need at h; omega
 | k + 1, [], S, h, _, _ => by
  refine ⟨h.base, fun i s hi => ?_, Joined.refl S, fun p hp => by cases hp⟩
  obtain ⟨t, h1, h2⟩ := h.stable i s hi
  rcases h2 with h2 | ⟨_, hq, _⟩
  ·exact ⟨t, h1, h2⟩
  ·cases hq
 | k + 1, p :: ps, S, h, hn, hk => by
  obtain ⟨hp1, hp2, _⟩ := h.pairs p (List.mem_cons_self ..)
  unfold joinF
  by_cases he : classAt S p.1 = classAt S p.2
  ·rw [if_pos he]
   have E := joinF_end k ps S (h.skip he) hn (by unfold need at hk ⊢; simp only [List.length_cons] at hk; omega)
   refine ⟨E.base, E.stable, E.joined, fun q hq => ?_⟩
   simp only [List.mem_cons] at hq
   rcases hq with rfl | hq
   ·exact E.joined.merges _ _ hp1 hp2 he
   ·exact E.pairs q hq
  ·rw [if_neg he]
   obtain ⟨g1, g2, g3, g4, g5, _⟩ := h.go he hn
   have hc := g2.clen
   have E := joinF_end k _ _ g1 (by omega) (by
    unfold need at hk ⊢
    simp only [List.length_cons] at hk
    rw [hc]
    exact need_go g4 g5 hk)
   refine ⟨E.base, E.stable, g2.trans E.joined, fun q hq => ?_⟩
   simp only [List.mem_cons] at hq
   rcases hq with rfl | hq
   ·exact E.joined.merges _ _ (by omega) (by omega) g3
   ·exact E.pairs q (List.mem_append_left _ hq)
def joinM (S : WS) (l r : Nat) : WS := joinF (need [(l, r)] S) [(l, r)] S
theorem Base.fits {S : WS} (h : Base S) (hn : S.classes.length ≤ 400) (i : Nat) (hi : i < S.shapes.length) : Fits S (shapeAt S i) := by
 have hs := shapeAt_some hi
 have hg := h.good i _ hs
 have hlen := h.inv.len
 have hp : ∀ j, j < 3 → partAt (shapeAt S i) j ≤ 1000000 := fun j hj => by
  by_cases e : j < (shapeAt S i).2.1
  ·have := hg.part j e; omega
  ·rw [hg.rest j (by omega) hj]; omega
 exact ⟨hg.name, hg.count, fun j hj => by have := hg.part j hj; omega, ⟨hp 0 (by omega), hp 1 (by omega), hp 2 (by omega)⟩, fun j => by have := h.inv.class_lt j (by omega); omega⟩
theorem Goes.joinF {S0 : WS} : ∀ (k : Nat) (ps : List (Nat × Nat)) (S : WS), Joining ps S → S.classes.length ≤ 400 → Goes S0 S → Goes S0 (joinF k ps S)
 | 0, _, _, _, _, h => h
 | k + 1, [], S, _, _, h => h
 | k + 1, p :: ps, S, h, hn, hg => by
  rw [Go.Proofs.YtmfkpllnmmfpiaaGreatDoor.joinF]
  by_cases he : classAt S p.1 = classAt S p.2
  ·rw [if_pos he]
   exact Goes.joinF k ps S (h.skip he) hn hg
  ·rw [if_neg he]
   obtain ⟨g1, g2, g3, g4, g5, g6⟩ := h.go he hn
   have hc := g2.clen
   have hl := (moveTo_rows S (classAt S p.2) (classAt S p.1) S.classes.length).1
   change (moveM S (classAt S p.2) (classAt S p.1)).classes.length = _ at hl
   exact Goes.joinF k _ _ g1 (by omega) ((hg.move _ _).twins (g6.fits (by omega)))
end Go.Proofs.YtmfkpllnmmfpiaaGreatDoor
