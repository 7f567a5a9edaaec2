/- Texts, BookTell -/
import Derived.Test.YtmfkpllnmmfpiaaGreatDoorTellW
import Derived.Test.YtmfkpllnmmfpiaaGreatDoorS3CountW
import Derived.Test.YtmfkpllnmmfpiaaGreatDoorSaidW
namespace Go.Proofs.YtmfkpllnmmfpiaaGreatDoor
open Go.RowKit
def lenTm : (n : Nat) → Tm n → Nat
 | 0, _ => 0
 | n + 1, t => t.name.size + (sumOf (fun p => 2 + lenTm n p) t.parts + 1)
theorem sumOf_append {α : Type} (f : α → Nat) : ∀ (l m : List α), sumOf f (l ++ m) = sumOf f l + sumOf f m
 | [], m => by simp [sumOf]
 | a :: l, m => by simp [sumOf, sumOf_append f l m]; omega
theorem sumOf_mem {α : Type} (f : α → Nat) : ∀ {l : List α} {a : α}, a ∈ l → f a ≤ sumOf f l
 | b :: l, a, h => by
  simp only [List.mem_cons] at h
  rcases h with rfl | h
  ·simp only [sumOf]; omega
  ·have := sumOf_mem f h
   simp only [sumOf]; omega
theorem sumOf_takeLe {α : Type} (f : α → Nat) (l : List α) (q : Nat) : sumOf f (l.take q) ≤ sumOf f l := by
 have := sumOf_append f (l.take q) (l.drop q)
 rw [List.take_append_drop] at this
 omega
theorem partAt_of {nm : ByteArray} {ks : List Nat} (h3 : ks.length ≤ 3) {j k : Nat} (hj : ks[j]? = some k) : partAt (shapeOf nm ks) j = k := by
 have hlt := (List.getElem?_eq_some_iff.1 hj).1
 match j, hj, hlt with
 | 0, hj, _ => show ks.getD 0 0 = k; rw [List.getD_eq_getElem?_getD, hj]; rfl
 | 1, hj, _ => show ks.getD 1 0 = k; rw [List.getD_eq_getElem?_getD, hj]; rfl
 | 2, hj, _ => show ks.getD 2 0 = k; rw [List.getD_eq_getElem?_getD, hj]; rfl
 | j + 3, _, hlt => omega
theorem AllIs.getBoth {α β : Type} {R : α → β → Prop} : ∀ {xs : List α} {ys : List β}, AllIs R xs ys → ∀ (j : Nat) (a : α) (b : β), xs[j]? = some a → ys[j]? = some b → R a b
 | x :: _, y :: _, h, 0, a, b, ha, hb => by
  simp only [List.getElem?_cons_zero, Option.some.injEq] at ha hb
  subst ha hb
  exact h.1
 | _ :: _, _ :: _, h, j + 1, a, b, ha, hb => AllIs.getBoth h.2 j a b (by simpa using ha) (by simpa using hb)
 | [], [], _, j, _, _, ha, _ => by simp at ha
 | [], _ :: _, h, _, _, _, _, _ => h.elim
 | _ :: _, [], h, _, _, _, _, _ => h.elim
theorem plainF_le {S : WS} : ∀ (g n : Nat) (t : Tm n) (i : Nat), Narrow n t → Den S n t i → (plainF S g i).length ≤ lenTm n t
 | 0, _, _, _, _, _ => by simp [plainF]
 | _ + 1, 0, _, _, _, h => h.elim
 | g + 1, n + 1, t, i, hn, ⟨ks, h1, h2⟩ => by
  have hl := h2.length
  have h3 : ks.length ≤ 3 := by rw [← hl]; exact hn.2.1
  have hs : shapeAt S i = shapeOf t.name ks := by unfold shapeAt; rw [List.getD_eq_getElem?_getD, h1]; rfl
  have hp : ∀ q, q ≤ ks.length → (partsTo (plainF S g) (shapeOf t.name ks) q).length ≤ sumOf (fun p => 2 + lenTm n p) (t.parts.take q) := fun q => by
   induction q with
   | zero => intro _; simp [partsTo, sumOf]
   | succ q ih =>
    intro hq
    have h4 := ih (by omega)
    have e1 := List.getElem?_eq_getElem (show q < ks.length by omega)
    have e2 := List.getElem?_eq_getElem (show q < t.parts.length by omega)
    have h5 := plainF_le g n _ _ (allOf_mem hn.2.2 (List.mem_of_getElem? e2)) (h2.getBoth q _ _ e2 e1)
    rw [List.take_succ_eq_append_getElem (show q < t.parts.length by omega), sumOf_append]
    simp only [partsTo, partAt_of h3 e1, List.length_append, sumOf]
    have h6 : (if q = 0 then [40] else [44, 32] : List UInt8).length ≤ 2 := by split <;> simp
    omega
  have h7 := hp ks.length (Nat.le_refl _)
  have h8 := sumOf_takeLe (fun p => 2 + lenTm n p) t.parts ks.length
  have hz : t.name.data.toList.length = t.name.size := by simp
  unfold plainF lenTm
  rw [hs]
  have e9 : (shapeOf t.name ks).2.1 = ks.length := rfl
  have e10 : (shapeOf t.name ks).1 = t.name := rfl
  rw [e9, e10]
  split
  ·simp only [List.append_nil]; omega
  ·simp only [List.length_append, List.length_singleton]; omega
def TextOK (S : WS) : Prop := ∀ i, i < S.shapes.length → ∃ n, ∃ t : Tm n, Narrow n t ∧ Den S n t i ∧ lenTm n t ≤ 1000
theorem TextOK.none : TextOK noWS := fun i hi => by simp [noWS] at hi
theorem TextOK.same {S T : WS} (h : TextOK S) (e : T.shapes = S.shapes) : TextOK T := fun i hi => by
 obtain ⟨n, t, h1, h2, h3⟩ := h i (by rw [← e]; exact hi)
 exact ⟨n, t, h1, h2.same e, h3⟩
theorem TextOK.addAll {α : Type} {f : WS → α → Nat × WS} {ok : α → Prop} (hf : ∀ S x, Web S → ok x → TextOK S → TextOK (f S x).2 ∧ Web (f S x).2) : ∀ (l : List α) (S : WS), Web S → allOf ok l → TextOK S → TextOK (addAll f S l).2 ∧ Web (addAll f S l).2
 | [], _, hw, _, h => ⟨h, hw⟩
 | x :: l, S, hw, hok, h => by
  obtain ⟨h1, h2⟩ := hf S x hw hok.1 h
  exact TextOK.addAll hf l _ h2 hok.2 h1
theorem TextOK.addM : ∀ (n : Nat) (S : WS) (t : Tm n), Web S → Narrow n t ∧ lenTm n t ≤ 1000 → TextOK S → TextOK (addM n S t).2 ∧ Web (addM n S t).2
 | 0, _, _, _, h, _ => h.1.elim
 | n + 1, S, t, hw, ⟨hn, hl⟩, h => by
  obtain ⟨⟨e1, e2⟩, e3⟩ := addM_end (n + 1) S t hw hn
  refine ⟨?_, e1⟩
  have hparts : allOf (fun p => Narrow n p ∧ lenTm n p ≤ 1000) t.parts := allOf_of fun p hp => ⟨allOf_mem hn.2.2 hp, by
   have := sumOf_mem (fun p => 2 + lenTm n p) hp
   simp only [lenTm] at hl
   omega⟩
  have h1 := (TextOK.addAll (fun S x hw hx => TextOK.addM n S x hw hx) t.parts S hw hparts h)
  obtain ⟨s, hs, hc⟩ := addM_of n S t
  rcases hc with hc | hc
  ·rw [hc]; exact h1.1
  ·have hsh : (Go.Proofs.YtmfkpllnmmfpiaaGreatDoor.addM (n + 1) S t).2.shapes = (Go.Proofs.YtmfkpllnmmfpiaaGreatDoor.addAll (Go.Proofs.YtmfkpllnmmfpiaaGreatDoor.addM n) S t.parts).2.shapes ++ [s] := by
    rw [hc]
    show (fileM _ s _).2.shapes ++ [s] = _
    rw [(fileM_rows _ s _).1]
   have hpre : ∀ (i : Nat) (u : Sh), (Go.Proofs.YtmfkpllnmmfpiaaGreatDoor.addAll (Go.Proofs.YtmfkpllnmmfpiaaGreatDoor.addM n) S t.parts).2.shapes[i]? = some u → (Go.Proofs.YtmfkpllnmmfpiaaGreatDoor.addM (n + 1) S t).2.shapes[i]? = some u := fun i u hu => by
    rw [hsh, List.getElem?_append_left (List.getElem?_eq_some_iff.1 hu).1]
    exact hu
   intro i hi
   by_cases hlt : i < (Go.Proofs.YtmfkpllnmmfpiaaGreatDoor.addAll (Go.Proofs.YtmfkpllnmmfpiaaGreatDoor.addM n) S t.parts).2.shapes.length
   ·obtain ⟨m, u, g1, g2, g3⟩ := h1.1 i hlt
    exact ⟨m, u, g1, g2.mono hpre, g3⟩
   ·refine ⟨n + 1, t, hn, ?_, hl⟩
    have hk : (Go.Proofs.YtmfkpllnmmfpiaaGreatDoor.addM (n + 1) S t).1 = i := by
     have hd := e3
     obtain ⟨ks, g1, _⟩ := e3
     have hii : i = (Go.Proofs.YtmfkpllnmmfpiaaGreatDoor.addAll (Go.Proofs.YtmfkpllnmmfpiaaGreatDoor.addM n) S t.parts).2.shapes.length := by
      rw [hsh] at hi
      simp at hi
      omega
     have hkk : (Go.Proofs.YtmfkpllnmmfpiaaGreatDoor.addM (n + 1) S t).2 = (Go.Proofs.YtmfkpllnmmfpiaaGreatDoor.addAll (Go.Proofs.YtmfkpllnmmfpiaaGreatDoor.addM n) S t.parts).2 ∨ (Go.Proofs.YtmfkpllnmmfpiaaGreatDoor.addM (n + 1) S t).1 = (Go.Proofs.YtmfkpllnmmfpiaaGreatDoor.addAll (Go.Proofs.YtmfkpllnmmfpiaaGreatDoor.addM n) S t.parts).2.shapes.length := by
      unfold Go.Proofs.YtmfkpllnmmfpiaaGreatDoor.addM
      simp only
      split
      ·exact .inl rfl
      ·exact .inr (h1.2.base.inv.enter _).2.1
     rcases hkk with hkk | hkk
     ·rw [hkk] at hi
      omega
     ·omega
    rw [← hk]
    exact e3
theorem TextOK.say {n : Nat} {S : WS} (ho : TextOK S) (h : Web S) {x : Snt n} (hx : NarrowS x) (hr : S.shapes.length + sizeS x ≤ 400) (hl : lenTm n x.left ≤ 1000) (hrr : lenTm n x.right ≤ 1000) : TextOK (sayM S x) := by
 obtain ⟨h1, h2⟩ := TextOK.addM n S x.left h ⟨hx.1, hl⟩ ho
 obtain ⟨h3, _⟩ := TextOK.addM n _ x.right h2 ⟨hx.2, hrr⟩ h1
 exact h3.same (sayM_shapes h hx hr)
theorem TextOK.short {S : WS} (h : TextOK S) (g j : Nat) : (plainF S g j).length ≤ 1000 := by
 by_cases hj : j < S.shapes.length
 ·obtain ⟨n, t, h1, h2, h3⟩ := h j hj
  exact Nat.le_trans (plainF_le g n t j h1 h2) h3
 ·have hs : shapeAt S j = noSh := by unfold shapeAt; rw [List.getD_eq_getElem?_getD, List.getElem?_eq_none (by omega)]; rfl
  cases g with
  | zero => simp [plainF]
  | succ g =>
   unfold plainF
   rw [hs]
   simp [noSh]
theorem TextOK.marks {S : WS} (h : TextOK S) (m : List Nat) : TextOK { S with marks := m } := h.same rfl
theorem isT3_len : ∀ (n : Nat) (x : Tm n) (t : T3), isT3 n x t → lenTm n x ≤ 9 * t.depth + 2
 | 0, x, _, _ => nomatch x
 | n + 1, x, .v i, h => by
  unfold lenTm
  rw [h.1, h.2]
  show 1 + (0 + 1) ≤ _
  simp [T3.depth]
 | n + 1, x, .f u, h => by
  obtain ⟨h1, p, hp, hu⟩ := h
  have := isT3_len n p u hu
  unfold lenTm
  rw [h1, hp]
  simp only [sumOf, T3.depth]
  have : (⟨#[102]⟩ : ByteArray).size = 1 := rfl
  omega
 | n + 1, x, .g u i, h => by
  obtain ⟨h1, p, q, hp, hu, hv⟩ := h
  have a := isT3_len n p u hu
  have b := isT3_len n q (.v i) hv
  unfold lenTm
  rw [h1, hp]
  simp only [sumOf, T3.depth] at b ⊢
  have : (⟨#[103]⟩ : ByteArray).size = 1 := rfl
  omega
theorem W3.texts {S : WS} {k : Nat} (h : W3 S k) (hk : k ≤ 23) (ht : TextOK S) {s : S3} (hs : s.ok) : TextOK (sayOf S s.text).2 := by
 obtain ⟨x, hx, h1, h2, h3⟩ := S3.read hs
 obtain ⟨hnar, _, _⟩ := readOf_small hx
 have hl := h.len
 have z1 := isT3_size _ _ _ h1
 have z2 := isT3_size _ _ _ h3
 have d1 := hs.dl
 have d2 := hs.dr
 have hsz : sizeS x ≤ 10 := by unfold sizeS; omega
 have l1 := isT3_len _ _ _ h1
 have l2 := isT3_len _ _ _ h3
 have ho := ht.say h.fine.web hnar (by omega) (by omega) (by omega)
 unfold sayOf
 rw [hx]
 simp only
 split
 ·exact ht
 ·split
  ·exact ht
  ·exact ho
end Go.Proofs.YtmfkpllnmmfpiaaGreatDoor

namespace Go.Proofs.YtmfkpllnmmfpiaaGreatDoor
open Go.RowKit Go.Sort
theorem sortedT_permL (S : WS) : (sortedT S).Perm (textsTo S S.shapes.length) := by
 have h := (sortedT_perm S).1.2.2
 have hl := sortedT_length S
 have hl2 := textsTo_length S S.shapes.length
 have e1 : ((sortedT S).toArray.extract 0 S.shapes.length).toList = sortedT S := by
  rw [Array.toList_extract]
  simp [List.extract, List.take_of_length_le (Nat.le_of_eq hl)]
 have e2 : ((textsTo S S.shapes.length).toArray.extract 0 S.shapes.length).toList = textsTo S S.shapes.length := by
  rw [Array.toList_extract]
  simp [List.extract, List.take_of_length_le (Nat.le_of_eq hl2)]
 rw [e1, e2] at h
 exact h
theorem sortedT_nums (S : WS) : ((sortedT S).map (·.2)).Nodup ∧ ∀ t ∈ sortedT S, t.2 < (sortedT S).length := by
 have hp := sortedT_permL S
 have e : (textsTo S S.shapes.length).map (·.2) = List.range S.shapes.length := by
  unfold textsTo
  rw [List.map_map]
  exact List.map_id'' (fun _ => rfl) _
 refine ⟨(hp.map (·.2)).nodup_iff.2 (by rw [e]; exact List.nodup_range), fun t ht => ?_⟩
 have h1 := (hp.mem_iff).1 ht
 rw [sortedT_length]
 unfold textsTo at h1
 obtain ⟨i, hi, rfl⟩ := List.mem_map.1 h1
 exact List.mem_range.1 hi
def TagOK (S : WS) : Prop := ∀ x ∈ S.said, x.1 ≤ 1
set_option maxHeartbeats 1000000 in
set_option maxRecDepth 100000 in
theorem bookSaid_any (w : World) (bb : Nat) (Z : Nat → Prop) (S : WS) (h : BookAt w bb Z S) (hg : TagOK S) (ht : TextOK S) :
  Calls Tryz.prog 17 #[.pointer (some ⟨bb, 0, none⟩)] w fun e w' => ∃ v, e = .returned v ∧ Upd [] w w' ∧ StrRow w' w.heap.size v (saidOf S) := by
 obtain ⟨wb, H, hc1, hw⟩ := h.ex
 have HCl := hide (closed_made bb w h.self)
 have HC := hide (webSaid_any w wb H _ S hw h.fine.web.base (fun k hk => h.low k hk.1) (by have := h.terms; omega) (by have := h.saids; omega) hg ht.short)
 clear h hw
 go_enter Tryz.func17, Tryz.ntmps17
 go_wp2_with (first
  | (go_at_call 44; refine HCl.out.mono ?_; rintro e w2 ⟨rfl, hw2⟩; rw [hw2]; clear hw2 w2)
  | (go_at_call 47; refine HC.out.mono ?_; rintro e w3 ⟨v, rfl, hu3, hr3⟩; have Hu3 := hide hu3; have Hr3 := hide hr3; clear hu3 hr3))
 go_ret
 exact ⟨_, rfl, Hu3.out, Hr3.out⟩
set_option maxHeartbeats 1000000 in
set_option maxRecDepth 100000 in
theorem bookClasses_any (w : World) (bb : Nat) (Z : Nat → Prop) (S : WS) (h : BookAt w bb Z S) (ht : TextOK S) :
  Calls Tryz.prog 20 #[.pointer (some ⟨bb, 0, none⟩)] w fun e w' => ∃ v rs, e = .returned v ∧ Upd [] w w' ∧ ListsAt w' w.heap.size v rs (classesOf S) := by
 obtain ⟨wb, H, hc1, hw⟩ := h.ex
 have HCl := hide (closed_made bb w h.self)
 have HC := hide (webClasses_any w wb H _ S hw h.fine.web.base (fun k hk => h.low k hk.1) (by have := h.terms; omega) ht.short (sortedT_nums S).1 (sortedT_nums S).2)
 clear h hw
 go_enter Tryz.func20, Tryz.ntmps20
 go_wp2_with (first
  | (go_at_call 44; refine HCl.out.mono ?_; rintro e w2 ⟨rfl, hw2⟩; rw [hw2]; clear hw2 w2)
  | (go_at_call 48; refine HC.out.mono ?_; rintro e w3 ⟨v, rs, rfl, hu3, hr3⟩; have Hu3 := hide hu3; have Hr3 := hide hr3; clear hu3 hr3))
 go_ret
 exact ⟨_, rs, rfl, Hu3.out, Hr3.out⟩
theorem W3.tags {S : WS} {k : Nat} (h : W3 S k) (hk : k ≤ 23) (ht : TagOK S) {s : S3} (hs : s.ok) : TagOK (sayOf S s.text).2 := by
 obtain ⟨x, hx, h1, h2, h3⟩ := S3.read hs
 obtain ⟨hnar, _, _⟩ := readOf_small hx
 have hl := h.len
 have z1 := isT3_size _ _ _ h1
 have z2 := isT3_size _ _ _ h3
 have d1 := hs.dl
 have d2 := hs.dr
 have hsz : sizeS x ≤ 10 := by unfold sizeS; omega
 have E := sayM_end h.fine.web hnar (by omega)
 obtain ⟨i, j, _, _, hsd⟩ := E.said
 have ho : TagOK (sayM S x) := fun y hy => by
  rw [hsd] at hy
  simp only [List.mem_append, List.mem_singleton] at hy
  rcases hy with hy | rfl
  ·exact ht y hy
  ·show (if x.eq then 0 else 1) ≤ 1
   split <;> omega
 unfold sayOf
 rw [hx]
 simp only
 split
 ·exact ht
 ·split
  ·exact ht
  ·exact ho
end Go.Proofs.YtmfkpllnmmfpiaaGreatDoor
