/- Texts, BookTell, RefHold, RefSort -/
import Derived.Test.YtmfkpllnmmfpiaaGreatDoorTellH
import Derived.Test.YtmfkpllnmmfpiaaGreatDoorS3CountH
import Derived.Test.YtmfkpllnmmfpiaaGreatDoorSaidH
import Derived.Test.YtmfkpllnmmfpiaaGreatDoorRefReadH
import Derived.Test.YtmfkpllnmmfpiaaGreatDoorRefDrawH
import Derived.Test.YtmfkpllnmmfpiaaGreatDoorPlacesH
namespace Go.Proofs.YtmfkpllnmmfpiaaGreatDoor
open Go.RowKit
def lenTm : (n : Nat) → Tm n → Nat
 | 0, _ => 0
 | n + 1, t => t.name.size + (sumOf (fun p => 2 + lenTm n p) t.parts + 1)
theorem sumOf_append {α : Type} (f : α → Nat) : ∀ (l m : List α), sumOf f (l ++ m) = sumOf f l + sumOf f m
 | [], m => by simp [sumOf]
 | a :: l, m => by simp [sumOf, sumOf_append f l m]; omega
theorem sumOf_mem {α : Type} (f : α → Nat) : ∀ {l : List α} {a : α}, a ∈ l → f a ≤ sumOf f l
 | b :: l, a, h => by
  simp only [List.mem_cons] at h
  rcases h with rfl | h
  ·simp only [sumOf]; omega
  ·have := sumOf_mem f h
   simp only [sumOf]; omega
theorem sumOf_takeLe {α : Type} (f : α → Nat) (l : List α) (q : Nat) : sumOf f (l.take q) ≤ sumOf f l := by
 have := sumOf_append f (l.take q) (l.drop q)
 rw [List.take_append_drop] at this
 omega
theorem partAt_of {nm : ByteArray} {ks : List Nat} (h3 : ks.length ≤ 3) {j k : Nat} (hj : ks[j]? = some k) : partAt (shapeOf nm ks) j = k := by
 have hlt := (List.getElem?_eq_some_iff.1 hj).1
 match j, hj, hlt with
 | 0, hj, _ => show ks.getD 0 0 = k; rw [List.getD_eq_getElem?_getD, hj]; rfl
 | 1, hj, _ => show ks.getD 1 0 = k; rw [List.getD_eq_getElem?_getD, hj]; rfl
 | 2, hj, _ => show ks.getD 2 0 = k; rw [List.getD_eq_getElem?_getD, hj]; rfl
 | j + 3, _, hlt => omega
theorem AllIs.getBoth {α β : Type} {R : α → β → Prop} : ∀ {xs : List α} {ys : List β}, AllIs R xs ys → ∀ (j : Nat) (a : α) (b : β), xs[j]? = some a → ys[j]? = some b → R a b
 | x :: _, y :: _, h, 0, a, b, ha, hb => by
  simp only [List.getElem?_cons_zero, Option.some.injEq] at ha hb
  subst ha hb
  exact h.1
 | _ :: _, _ :: _, h, j + 1, a, b, ha, hb => AllIs.getBoth h.2 j a b (by simpa using ha) (by simpa using hb)
 | [], [], _, j, _, _, ha, _ => by simp at ha
 | [], _ :: _, h, _, _, _, _, _ => h.elim
 | _ :: _, [], h, _, _, _, _, _ => h.elim
theorem plainF_le {S : WS} : ∀ (g n : Nat) (t : Tm n) (i : Nat), Narrow n t → Den S n t i → (plainF S g i).length ≤ lenTm n t
 | 0, _, _, _, _, _ => by simp [plainF]
 | _ + 1, 0, _, _, _, h => h.elim
 | g + 1, n + 1, t, i, hn, ⟨ks, h1, h2⟩ => by
  have hl := h2.length
  have h3 : ks.length ≤ 3 := by rw [← hl]; exact hn.2.1
  have hs : shapeAt S i = shapeOf t.name ks := by unfold shapeAt; rw [List.getD_eq_getElem?_getD, h1]; rfl
  have hp : ∀ q, q ≤ ks.length → (partsTo (plainF S g) (shapeOf t.name ks) q).length ≤ sumOf (fun p => 2 + lenTm n p) (t.parts.take q) := fun q => by
   induction q with
   | zero => intro _; simp [partsTo, sumOf]
   | succ q ih =>
    intro hq
    have h4 := ih (by omega)
    have e1 := List.getElem?_eq_getElem (show q < ks.length by omega)
    have e2 := List.getElem?_eq_getElem (show q < t.parts.length by omega)
    have h5 := plainF_le g n _ _ (allOf_mem hn.2.2 (List.mem_of_getElem? e2)) (h2.getBoth q _ _ e2 e1)
    rw [List.take_succ_eq_append_getElem (show q < t.parts.length by omega), sumOf_append]
    simp only [partsTo, partAt_of h3 e1, List.length_append, sumOf]
    have h6 : (if q = 0 then [40] else [44, 32] : List UInt8).length ≤ 2 := by split <;> simp
    omega
  have h7 := hp ks.length (Nat.le_refl _)
  have h8 := sumOf_takeLe (fun p => 2 + lenTm n p) t.parts ks.length
  have hz : t.name.data.toList.length = t.name.size := by simp
  unfold plainF lenTm
  rw [hs]
  have e9 : (shapeOf t.name ks).2.1 = ks.length := rfl
  have e10 : (shapeOf t.name ks).1 = t.name := rfl
  rw [e9, e10]
  split
  ·simp only [List.append_nil]; omega
  ·simp only [List.length_append, List.length_singleton]; omega
def TextOK (S : WS) : Prop := ∀ i, i < S.shapes.length → ∃ n, ∃ t : Tm n, Narrow n t ∧ Den S n t i ∧ lenTm n t ≤ 1000
theorem TextOK.none : TextOK noWS := fun i hi => by simp [noWS] at hi
theorem TextOK.same {S T : WS} (h : TextOK S) (e : T.shapes = S.shapes) : TextOK T := fun i hi => by
 obtain ⟨n, t, h1, h2, h3⟩ := h i (by rw [← e]; exact hi)
 exact ⟨n, t, h1, h2.same e, h3⟩
theorem TextOK.addAll {α : Type} {f : WS → α → Nat × WS} {ok : α → Prop} (hf : ∀ S x, Web S → ok x → TextOK S → TextOK (f S x).2 ∧ Web (f S x).2) : ∀ (l : List α) (S : WS), Web S → allOf ok l → TextOK S → TextOK (addAll f S l).2 ∧ Web (addAll f S l).2
 | [], _, hw, _, h => ⟨h, hw⟩
 | x :: l, S, hw, hok, h => by
  obtain ⟨h1, h2⟩ := hf S x hw hok.1 h
  exact TextOK.addAll hf l _ h2 hok.2 h1
theorem TextOK.addM : ∀ (n : Nat) (S : WS) (t : Tm n), Web S → Narrow n t ∧ lenTm n t ≤ 1000 → TextOK S → TextOK (addM n S t).2 ∧ Web (addM n S t).2
 | 0, _, _, _, h, _ => h.1.elim
 | n + 1, S, t, hw, ⟨hn, hl⟩, h => by
  obtain ⟨⟨e1, e2⟩, e3⟩ := addM_end (n + 1) S t hw hn
  refine ⟨?_, e1⟩
  have hparts : allOf (fun p => Narrow n p ∧ lenTm n p ≤ 1000) t.parts := allOf_of fun p hp => ⟨allOf_mem hn.2.2 hp, by
   have := sumOf_mem (fun p => 2 + lenTm n p) hp
   simp only [lenTm] at hl
   omega⟩
  have h1 := (TextOK.addAll (fun S x hw hx => TextOK.addM n S x hw hx) t.parts S hw hparts h)
  obtain ⟨s, hs, hc⟩ := addM_of n S t
  rcases hc with hc | hc
  ·rw [hc]; exact h1.1
  ·have hsh : (Go.Proofs.YtmfkpllnmmfpiaaGreatDoor.addM (n + 1) S t).2.shapes = (Go.Proofs.YtmfkpllnmmfpiaaGreatDoor.addAll (Go.Proofs.YtmfkpllnmmfpiaaGreatDoor.addM n) S t.parts).2.shapes ++ [s] := by
    rw [hc]
    show (fileM _ s _).2.shapes ++ [s] = _
    rw [(fileM_rows _ s _).1]
   have hpre : ∀ (i : Nat) (u : Sh), (Go.Proofs.YtmfkpllnmmfpiaaGreatDoor.addAll (Go.Proofs.YtmfkpllnmmfpiaaGreatDoor.addM n) S t.parts).2.shapes[i]? = some u → (Go.Proofs.YtmfkpllnmmfpiaaGreatDoor.addM (n + 1) S t).2.shapes[i]? = some u := fun i u hu => by
    rw [hsh, List.getElem?_append_left (List.getElem?_eq_some_iff.1 hu).1]
    exact hu
   intro i hi
   by_cases hlt : i < (Go.Proofs.YtmfkpllnmmfpiaaGreatDoor.addAll (Go.Proofs.YtmfkpllnmmfpiaaGreatDoor.addM n) S t.parts).2.shapes.length
   ·obtain ⟨m, u, g1, g2, g3⟩ := h1.1 i hlt
    exact ⟨m, u, g1, g2.mono hpre, g3⟩
   ·refine ⟨n + 1, t, hn, ?_, hl⟩
    have hk : (Go.Proofs.YtmfkpllnmmfpiaaGreatDoor.addM (n + 1) S t).1 = i := by
     have hd := e3
     obtain ⟨ks, g1, _⟩ := e3
     have hii : i = (Go.Proofs.YtmfkpllnmmfpiaaGreatDoor.addAll (Go.Proofs.YtmfkpllnmmfpiaaGreatDoor.addM n) S t.parts).2.shapes.length := by
      rw [hsh] at hi
      simp at hi
      omega
     have hkk : (Go.Proofs.YtmfkpllnmmfpiaaGreatDoor.addM (n + 1) S t).2 = (Go.Proofs.YtmfkpllnmmfpiaaGreatDoor.addAll (Go.Proofs.YtmfkpllnmmfpiaaGreatDoor.addM n) S t.parts).2 ∨ (Go.Proofs.YtmfkpllnmmfpiaaGreatDoor.addM (n + 1) S t).1 = (Go.Proofs.YtmfkpllnmmfpiaaGreatDoor.addAll (Go.Proofs.YtmfkpllnmmfpiaaGreatDoor.addM n) S t.parts).2.shapes.length := by
      unfold Go.Proofs.YtmfkpllnmmfpiaaGreatDoor.addM
      simp only
      split
      ·exact .inl rfl
      ·exact .inr (h1.2.base.inv.enter _).2.1
     rcases hkk with hkk | hkk
     ·rw [hkk] at hi
      omega
     ·omega
    rw [← hk]
    exact e3
theorem TextOK.say {n : Nat} {S : WS} (ho : TextOK S) (h : Web S) {x : Snt n} (hx : NarrowS x) (hr : S.shapes.length + sizeS x ≤ 400) (hl : lenTm n x.left ≤ 1000) (hrr : lenTm n x.right ≤ 1000) : TextOK (sayM S x) := by
 obtain ⟨h1, h2⟩ := TextOK.addM n S x.left h ⟨hx.1, hl⟩ ho
 obtain ⟨h3, _⟩ := TextOK.addM n _ x.right h2 ⟨hx.2, hrr⟩ h1
 exact h3.same (sayM_shapes h hx hr)
theorem TextOK.short {S : WS} (h : TextOK S) (g j : Nat) : (plainF S g j).length ≤ 1000 := by
 by_cases hj : j < S.shapes.length
 ·obtain ⟨n, t, h1, h2, h3⟩ := h j hj
  exact Nat.le_trans (plainF_le g n t j h1 h2) h3
 ·have hs : shapeAt S j = noSh := by unfold shapeAt; rw [List.getD_eq_getElem?_getD, List.getElem?_eq_none (by omega)]; rfl
  cases g with
  | zero => simp [plainF]
  | succ g =>
   unfold plainF
   rw [hs]
   simp [noSh]
theorem TextOK.marks {S : WS} (h : TextOK S) (m : List Nat) : TextOK { S with marks := m } := h.same rfl
theorem isT3_len : ∀ (n : Nat) (x : Tm n) (t : T3), isT3 n x t → lenTm n x ≤ 9 * t.depth + 2
 | 0, x, _, _ => nomatch x
 | n + 1, x, .v i, h => by
  unfold lenTm
  rw [h.1, h.2]
  show 1 + (0 + 1) ≤ _
  simp [T3.depth]
 | n + 1, x, .f u, h => by
  obtain ⟨h1, p, hp, hu⟩ := h
  have := isT3_len n p u hu
  unfold lenTm
  rw [h1, hp]
  simp only [sumOf, T3.depth]
  have : (⟨#[102]⟩ : ByteArray).size = 1 := rfl
  omega
 | n + 1, x, .g u i, h => by
  obtain ⟨h1, p, q, hp, hu, hv⟩ := h
  have a := isT3_len n p u hu
  have b := isT3_len n q (.v i) hv
  unfold lenTm
  rw [h1, hp]
  simp only [sumOf, T3.depth] at b ⊢
  have : (⟨#[103]⟩ : ByteArray).size = 1 := rfl
  omega
theorem W3.texts {S : WS} {k : Nat} (h : W3 S k) (hk : k ≤ 23) (ht : TextOK S) {s : S3} (hs : s.ok) : TextOK (sayOf S s.text).2 := by
 obtain ⟨x, hx, h1, h2, h3⟩ := S3.read hs
 obtain ⟨hnar, _, _⟩ := readOf_small hx
 have hl := h.len
 have z1 := isT3_size _ _ _ h1
 have z2 := isT3_size _ _ _ h3
 have d1 := hs.dl
 have d2 := hs.dr
 have hsz : sizeS x ≤ 10 := by unfold sizeS; omega
 have l1 := isT3_len _ _ _ h1
 have l2 := isT3_len _ _ _ h3
 have ho := ht.say h.fine.web hnar (by omega) (by omega) (by omega)
 unfold sayOf
 rw [hx]
 simp only
 split
 ·exact ht
 ·split
  ·exact ht
  ·exact ho
end Go.Proofs.YtmfkpllnmmfpiaaGreatDoor

namespace Go.Proofs.YtmfkpllnmmfpiaaGreatDoor
open Go.RowKit Go.Sort
theorem sortedT_permL (S : WS) : (sortedT S).Perm (textsTo S S.shapes.length) := by
 have h := (sortedT_perm S).1.2.2
 have hl := sortedT_length S
 have hl2 := textsTo_length S S.shapes.length
 have e1 : ((sortedT S).toArray.extract 0 S.shapes.length).toList = sortedT S := by
  rw [Array.toList_extract]
  simp [List.extract, List.take_of_length_le (Nat.le_of_eq hl)]
 have e2 : ((textsTo S S.shapes.length).toArray.extract 0 S.shapes.length).toList = textsTo S S.shapes.length := by
  rw [Array.toList_extract]
  simp [List.extract, List.take_of_length_le (Nat.le_of_eq hl2)]
 rw [e1, e2] at h
 exact h
theorem sortedT_nums (S : WS) : ((sortedT S).map (·.2)).Nodup ∧ ∀ t ∈ sortedT S, t.2 < (sortedT S).length := by
 have hp := sortedT_permL S
 have e : (textsTo S S.shapes.length).map (·.2) = List.range S.shapes.length := by
  unfold textsTo
  rw [List.map_map]
  exact List.map_id'' (fun _ => rfl) _
 refine ⟨(hp.map (·.2)).nodup_iff.2 (by rw [e]; exact List.nodup_range), fun t ht => ?_⟩
 have h1 := (hp.mem_iff).1 ht
 rw [sortedT_length]
 unfold textsTo at h1
 obtain ⟨i, hi, rfl⟩ := List.mem_map.1 h1
 exact List.mem_range.1 hi
def TagOK (S : WS) : Prop := ∀ x ∈ S.said, x.1 ≤ 1
set_option maxHeartbeats 1000000 in
set_option maxRecDepth 100000 in
theorem bookSaid_any (w : World) (bb : Nat) (Z : Nat → Prop) (S : WS) (h : BookAt w bb Z S) (hg : TagOK S) (ht : TextOK S) :
  Calls Tryz.prog 17 #[.pointer (some ⟨bb, 0, none⟩)] w fun e w' => ∃ v, e = .returned v ∧ Upd [] w w' ∧ StrRow w' w.heap.size v (saidOf S) := by
 obtain ⟨wb, H, hc1, hw⟩ := h.ex
 have HCl := hide (closed_made bb w h.self)
 have HC := hide (webSaid_any w wb H _ S hw h.fine.web.base (fun k hk => h.low k hk.1) (by have := h.terms; omega) (by have := h.saids; omega) hg ht.short)
 clear h hw
 go_enter Tryz.func17, Tryz.ntmps17
 go_wp2_with (first
  | (go_at_call 44; refine HCl.out.mono ?_; rintro e w2 ⟨rfl, hw2⟩; rw [hw2]; clear hw2 w2)
  | (go_at_call 47; refine HC.out.mono ?_; rintro e w3 ⟨v, rfl, hu3, hr3⟩; have Hu3 := hide hu3; have Hr3 := hide hr3; clear hu3 hr3))
 go_ret
 exact ⟨_, rfl, Hu3.out, Hr3.out⟩
set_option maxHeartbeats 1000000 in
set_option maxRecDepth 100000 in
theorem bookClasses_any (w : World) (bb : Nat) (Z : Nat → Prop) (S : WS) (h : BookAt w bb Z S) (ht : TextOK S) :
  Calls Tryz.prog 20 #[.pointer (some ⟨bb, 0, none⟩)] w fun e w' => ∃ v rs, e = .returned v ∧ Upd [] w w' ∧ ListsAt w' w.heap.size v rs (classesOf S) := by
 obtain ⟨wb, H, hc1, hw⟩ := h.ex
 have HCl := hide (closed_made bb w h.self)
 have HC := hide (webClasses_any w wb H _ S hw h.fine.web.base (fun k hk => h.low k hk.1) (by have := h.terms; omega) ht.short (sortedT_nums S).1 (sortedT_nums S).2)
 clear h hw
 go_enter Tryz.func20, Tryz.ntmps20
 go_wp2_with (first
  | (go_at_call 44; refine HCl.out.mono ?_; rintro e w2 ⟨rfl, hw2⟩; rw [hw2]; clear hw2 w2)
  | (go_at_call 48; refine HC.out.mono ?_; rintro e w3 ⟨v, rs, rfl, hu3, hr3⟩; have Hu3 := hide hu3; have Hr3 := hide hr3; clear hu3 hr3))
 go_ret
 exact ⟨_, rs, rfl, Hu3.out, Hr3.out⟩
theorem W3.tags {S : WS} {k : Nat} (h : W3 S k) (hk : k ≤ 23) (ht : TagOK S) {s : S3} (hs : s.ok) : TagOK (sayOf S s.text).2 := by
 obtain ⟨x, hx, h1, h2, h3⟩ := S3.read hs
 obtain ⟨hnar, _, _⟩ := readOf_small hx
 have hl := h.len
 have z1 := isT3_size _ _ _ h1
 have z2 := isT3_size _ _ _ h3
 have d1 := hs.dl
 have d2 := hs.dr
 have hsz : sizeS x ≤ 10 := by unfold sizeS; omega
 have E := sayM_end h.fine.web hnar (by omega)
 obtain ⟨i, j, _, _, hsd⟩ := E.said
 have ho : TagOK (sayM S x) := fun y hy => by
  rw [hsd] at hy
  simp only [List.mem_append, List.mem_singleton] at hy
  rcases hy with hy | rfl
  ·exact ht y hy
  ·show (if x.eq then 0 else 1) ≤ 1
   split <;> omega
 unfold sayOf
 rw [hx]
 simp only
 split
 ·exact ht
 ·split
  ·exact ht
  ·exact ho
end Go.Proofs.YtmfkpllnmmfpiaaGreatDoor

namespace Go.Proofs.YtmfkpllnmmfpiaaGreatDoor
open Go.RowKit
theorem runTo_all (p : Int → Bool) (s : ByteArray) : ∀ n i j, i ≤ j → j < runTo p s n i → j < s.size ∧ p (byteAt s j) = true
 | 0, i, j, h1, h2 => by simp only [runTo] at h2; omega
 | n + 1, i, j, h1, h2 => by
  unfold runTo at h2
  split at h2
  ·rename_i hc
   by_cases e : j = i
   ·subst e; exact hc
   ·exact runTo_all p s n (i + 1) j (by omega) h2
  ·omega
theorem name_ok {s : ByteArray} {a b : Nat} (hab : a < b) (hb : b ≤ s.size) (h : ∀ j, a ≤ j → j < b → wordB (byteAt s j) = true) : NameOK (s.extract a b) := by
 have e : (s.extract a b).data.toList = (s.data.toList.drop a).take (b - a) := by simp [List.extract_eq_take_drop]
 have hl : s.data.toList.length = s.size := by simp
 refine ⟨fun h0 => ?_, fun c hc => ?_⟩
 ·rw [e] at h0
  have h1 := congrArg List.length h0
  simp only [List.length_take, List.length_drop, List.length_nil, hl] at h1
  omega
 ·rw [e] at hc
  obtain ⟨i, hi⟩ := List.getElem?_of_mem hc
  have hlt := (List.getElem?_eq_some_iff.1 hi).1
  simp only [List.length_take, List.length_drop, hl] at hlt
  rw [List.getElem?_take_of_lt (by omega), List.getElem?_drop] at hi
  have h2 := h (a + i) (by omega) (by omega)
  unfold byteAt at h2
  rw [List.getD_eq_getElem?_getD, hi] at h2
  exact h2
def Tok (s : ByteArray) (st : Wd) : Prop := st.1 = 0 → NameOK (s.extract st.2.1 st.2.2)
theorem tok_at (s : ByteArray) (t : Nat) : Tok s (wordAt s t) := fun h => by
 obtain ⟨h1, h2, h3⟩ := word_name h
 rw [wordAt_from, h3]
 have hw : wordB (byteAt s (endOf blankB s t)) = true := by unfold wordB; rw [h2]; rfl
 have h4 := endOf_step h1 hw
 have h5 := endOf_le wordB s (endOf blankB s t + 1) (by omega)
 refine name_ok (by omega) (by omega) fun j hj1 hj2 => ?_
 exact (runTo_all wordB s _ _ j hj1 hj2).2
theorem partsOf_ok {s : ByteArray} {n : Nat} (ht : ∀ (st : Wd) (t : Tm n) (st2 : Wd), Tok s st → termOf s n st = (some t, st2) → TrmOK (erase n t)) :
  ∀ (m : Nat) (st : Wd) (ps : List (Tm n)) (st2 : Wd), partsOf s (termOf s n) m st = (some ps, st2) → ∀ p ∈ ps, TrmOK (erase n p)
 | 0, _, _, _, h => by simp [partsOf] at h
 | m + 1, st, ps, st2, h => by
  unfold partsOf at h
  cases hpp : termOf s n (wordAt s st.2.2) with
  | mk o stx =>
   rw [hpp] at h
   cases o with
   | none => simp at h
   | some x =>
    have h2 := ht _ x stx (tok_at s _) hpp
    simp only at h
    split at h
    ·cases h
     intro p hp
     simp only [List.mem_singleton] at hp
     subst hp
     exact h2
    ·split at h
     ·cases hq : partsOf s (termOf s n) m stx with
      | mk o3 st3 =>
       rw [hq] at h
       cases o3 with
       | none => simp at h
       | some xs =>
        simp only [Prod.mk.injEq, Option.some.injEq] at h
        obtain ⟨rfl, rfl⟩ := h
        have h8 := partsOf_ok ht m stx xs _ hq
        intro p hp
        simp only [List.mem_cons] at hp
        rcases hp with rfl | hp
        ·exact h2
        ·exact h8 p hp
     ·simp at h
theorem termOf_ok {s : ByteArray} : ∀ (n : Nat) (st : Wd) (t : Tm n) (st2 : Wd), Tok s st → termOf s n st = (some t, st2) → TrmOK (erase n t)
 | 0, _, t, _, _, _ => t.elim
 | n + 1, st, t, st2, hf, h => by
  by_cases hk : st.1 = 0
  ·by_cases h1' : (wordAt s st.2.2).1 = 1
   ·cases hq : partsOf s (termOf s n) (s.size + 1) (wordAt s st.2.2) with
    | mk o st3 =>
     cases o with
     | none => rw [termOf_fails hk h1' hq] at h; simp at h
     | some ps =>
      rw [termOf_parts hk h1' hq] at h
      simp only [Prod.mk.injEq, Option.some.injEq] at h
      obtain ⟨rfl, rfl⟩ := h
      have h2 := partsOf_ok (termOf_ok n) _ _ ps _ hq
      refine TrmOK.mk (hf hk) fun p hp => ?_
      obtain ⟨q, hq, rfl⟩ := List.mem_map.1 hp
      exact h2 q hq
   ·rw [termOf_bare hk h1'] at h
    simp only [Prod.mk.injEq, Option.some.injEq] at h
    obtain ⟨rfl, rfl⟩ := h
    exact TrmOK.mk (hf hk) fun p hp => by cases hp
  ·rw [termOf_no hk] at h; simp at h
theorem partsOf_len {s : ByteArray} {n : Nat} (ht : ∀ (st : Wd) (t : Tm n) (st2 : Wd), Fit s st → termOf s n st = (some t, st2) → lenTm n t + 2 * st.2.1 ≤ 2 * st2.2.1) :
  ∀ (m : Nat) (st : Wd) (ps : List (Tm n)) (st2 : Wd), Fit s st → partsOf s (termOf s n) m st = (some ps, st2) → sumOf (fun p => 2 + lenTm n p) ps + 2 * st.2.2 ≤ 2 * st2.2.1
 | 0, _, _, _, _, h => by simp [partsOf] at h
 | m + 1, st, ps, st2, hf, h => by
  have h1 := Fit.next s st.2.2 hf.size
  have hw := wordAt_le s st.2.2 hf.size
  unfold partsOf at h
  cases hpp : termOf s n (wordAt s st.2.2) with
  | mk o stx =>
   rw [hpp] at h
   cases o with
   | none => simp at h
   | some x =>
    have h2 := ht _ x stx h1 hpp
    have h3 := (termOf_fit n (wordAt s st.2.2) h1).1
    rw [hpp] at h3
    have h4 := h3.le
    have h5 := wordAt_le s stx.2.2 h3.size
    have h6 := h3.lt
    simp only at h h3 h4 h5 h6
    split at h
    ·rename_i hk
     have h7 := h6 (by omega)
     cases h
     simp only [sumOf]
     omega
    ·split at h
     ·rename_i hk
      have h7 := h6 (by omega)
      cases hq : partsOf s (termOf s n) m stx with
      | mk o3 st3 =>
       rw [hq] at h
       cases o3 with
       | none => simp at h
       | some xs =>
        simp only [Prod.mk.injEq, Option.some.injEq] at h
        obtain ⟨rfl, rfl⟩ := h
        have h8 := partsOf_len ht m stx xs _ h3 hq
        simp only [sumOf]
        omega
     ·simp at h
theorem termOf_len {s : ByteArray} : ∀ (n : Nat) (st : Wd) (t : Tm n) (st2 : Wd), Fit s st → termOf s n st = (some t, st2) → lenTm n t + 2 * st.2.1 ≤ 2 * st2.2.1
 | 0, _, t, _, _, _ => t.elim
 | n + 1, st, t, st2, hf, h => by
  by_cases hk : st.1 = 0
  ·have h1 := Fit.next s st.2.2 hf.size
   have hw := wordAt_le s st.2.2 hf.size
   have hlt := hf.lt (by omega)
   have hsz : (s.extract st.2.1 st.2.2).size = st.2.2 - st.2.1 := by
    have := hf.size
    simp only [ByteArray.size_extract]
    omega
   by_cases h1' : (wordAt s st.2.2).1 = 1
   ·cases hq : partsOf s (termOf s n) (s.size + 1) (wordAt s st.2.2) with
    | mk o st3 =>
     cases o with
     | none => rw [termOf_fails hk h1' hq] at h; simp at h
     | some ps =>
      rw [termOf_parts hk h1' hq] at h
      simp only [Prod.mk.injEq, Option.some.injEq] at h
      obtain ⟨rfl, rfl⟩ := h
      have h2 := partsOf_len (termOf_len n) _ _ ps _ h1 hq
      have h3 := h1.lt (by omega)
      show (s.extract st.2.1 st.2.2).size + (sumOf (fun p => 2 + lenTm n p) ps + 1) + 2 * st.2.1 ≤ _
      omega
   ·rw [termOf_bare hk h1'] at h
    simp only [Prod.mk.injEq, Option.some.injEq] at h
    obtain ⟨rfl, rfl⟩ := h
    show (s.extract st.2.1 st.2.2).size + (0 + 1) + 2 * st.2.1 ≤ _
    omega
  ·rw [termOf_no hk] at h; simp at h
theorem readOf_ok {s : ByteArray} {x : Snt (fuelOf s)} (h : (readOf s).1 = some x) : STOK (eraseS x) ∧ lenTm _ x.left ≤ 400 ∧ lenTm _ x.right ≤ 400 := by
 unfold readOf at h
 split at h
 ·simp at h
 ·rename_i hl
  split at h
  ·simp at h
  ·rename_i y st hs
   have hyx : y = x := by
    split at h
    ·simp at h
    ·split at h
     ·simp at h
     ·simpa using h
   subst hyx
   clear h
   have f0 := Fit.next s 0 (Nat.zero_le _)
   unfold sentOf at hs
   cases h1 : termOf s (fuelOf s) (wordAt s 0) with
   | mk o st1 =>
    rw [h1] at hs
    cases o with
    | none => simp at hs
    | some l =>
     have e1 := termOf_len _ _ l _ f0 h1
     have o1 := termOf_ok _ _ l _ (tok_at s 0) h1
     have f1 := (termOf_fit (fuelOf s) (wordAt s 0) f0).1
     rw [h1] at f1
     simp only at hs f1
     cases h2 : signOf s st1 with
     | mk o2 st2 =>
      rw [h2] at hs
      cases o2 with
      | none => simp at hs
      | some g =>
       have e2 : Fit s st2 ∧ Tok s st2 := by
        unfold signOf at h2
        split at h2
        ·cases h2; exact ⟨Fit.next s _ f1.size, tok_at s _⟩
        ·split at h2
         ·cases h2; exact ⟨Fit.next s _ f1.size, tok_at s _⟩
         ·split at h2 <;> simp at h2
       simp only at hs
       cases h3 : termOf s (fuelOf s) st2 with
       | mk o3 st3 =>
        rw [h3] at hs
        cases o3 with
        | none => simp at hs
        | some r =>
         have e3 := termOf_len _ _ r _ e2.1 h3
         have o3 := termOf_ok _ _ r _ e2.2 h3
         have f3 := (termOf_fit (fuelOf s) st2 e2.1).1
         rw [h3] at f3
         simp only at hs f3
         have g1 := f1.le
         have g2 := f1.size
         have g3 := f3.le
         have g4 := f3.size
         split at hs
         ·simp only [Prod.mk.injEq, Option.some.injEq] at hs
          obtain ⟨rfl, rfl⟩ := hs
          exact ⟨⟨o1, o3⟩, by show lenTm _ l ≤ 400; omega, by show lenTm _ r ≤ 400; omega⟩
         ·simp at hs
theorem den_plain {S : WS} (hB : Base S) {t : Trm} {i : Nat} (h : DenE S t i) : ∀ g, i < g → plainF S g i = t.txt := by
 induction h with
 | @mk nm ps ks i h1 h2 h3 _ ih =>
  intro g hg
  obtain ⟨f, rfl⟩ : ∃ f, g = f + 1 := ⟨g - 1, by omega⟩
  have hS := hB.good i _ h1
  have hs : shapeAt S i = shapeOf nm ks := by unfold shapeAt; rw [List.getD_eq_getElem?_getD, h1]; rfl
  have hp : ∀ (j : Nat) (p : Trm) (k : Nat), ps[j]? = some p → ks[j]? = some k → plainF S f (partAt (shapeOf nm ks) j) = p.txt := fun j p k e1 e2 => by
   have hj := (List.getElem?_eq_some_iff.1 e2).1
   have hk := hS.part j (show j < (shapeOf nm ks).2.1 from hj)
   rw [partAt_shapeOf h3 e2] at hk ⊢
   exact ih j p k e1 e2 f (by omega)
  unfold plainF
  rw [hs]
  have e9 : (shapeOf nm ks).2.1 = ks.length := rfl
  have e10 : (shapeOf nm ks).1 = nm := rfl
  rw [e9, e10]
  match ps, ks, h2, h3, hp with
  | [], [], _, _, _ => simp [Trm.txt]
  | [p], [a], _, _, hp =>
   simp only [List.length_cons, List.length_nil, partsTo, hp 0 p a rfl rfl, Trm.txt, Trm.txtR]
   simp
  | [p, q], [a, b], _, _, hp =>
   simp only [List.length_cons, List.length_nil, partsTo, hp 0 p a rfl rfl, hp 1 q b rfl rfl, Trm.txt, Trm.txtR]
   simp
  | [p, q, r], [a, b, c], _, _, hp =>
   simp only [List.length_cons, List.length_nil, partsTo, hp 0 p a rfl rfl, hp 1 q b rfl rfl, hp 2 r c rfl rfl, Trm.txt, Trm.txtR]
   simp
  | _ :: _, [], h2, _, _ => simp at h2
  | [], _ :: _, h2, _, _ => simp at h2
  | [_], _ :: _ :: _, h2, _, _ => simp at h2
  | _ :: _ :: _, [_], h2, _, _ => simp at h2
  | [_, _], _ :: _ :: _ :: _, h2, _, _ => simp at h2
  | _ :: _ :: _ :: _, [_, _], h2, _, _ => simp at h2
  | [_, _, _], _ :: _ :: _ :: _ :: _, h2, _, _ => simp at h2
  | _ :: _ :: _ :: _ :: _, [_, _, _], h2, _, _ => simp at h2
  | _ :: _ :: _ :: _ :: _, _ :: _ :: _ :: _ :: _, _, h3, _ => simp at h3
theorem den_text {S : WS} (hB : Base S) {t : Trm} {i : Nat} (h : DenE S t i) : plainT S i = t.text := by
 unfold plainT Trm.text
 rw [den_plain hB h (i + 1) (by omega)]
def ST.text (s : ST) : ByteArray := if s.eq then s.l.text ++ (⟨#[32, 61, 32]⟩ : ByteArray) ++ s.r.text else s.l.text ++ (⟨#[32, 33, 61, 32]⟩ : ByteArray) ++ s.r.text
theorem Holds.texts {S : WS} {L : List ST} (h : Holds S L) : saidOf S = L.map ST.text := by
 have key : ∀ (xs : List (Nat × Nat × Nat)) (l : List ST), AllIs (fun (x : Nat × Nat × Nat) (s : ST) => x.1 = (if s.eq then 0 else 1) ∧ DenE S s.l x.2.1 ∧ DenE S s.r x.2.2) xs l → xs.map (sayT S) = l.map ST.text := by
  intro xs
  induction xs with
  | nil =>
   intro l hl
   cases l with
   | nil => rfl
   | cons => exact hl.elim
  | cons x xs ih =>
   intro l hl
   cases l with
   | nil => exact hl.elim
   | cons s l =>
    obtain ⟨⟨h1, h2, h3⟩, h4⟩ := hl
    rw [List.map_cons, List.map_cons, ih l h4]
    congr 1
    unfold sayT ST.text
    rw [den_text h.fine.web.base h2, den_text h.fine.web.base h3, h1]
    cases hs : s.eq <;> (apply ByteArray.ext; apply Array.ext'; simp [signB])
 exact key _ _ h.said
theorem Holds.tags {S : WS} {L : List ST} (h : Holds S L) : TagOK S := fun x hx => by
 obtain ⟨s, _, h1, _⟩ := h.left hx
 rw [h1]
 split <;> omega
def sayR (L : List ST) (s : ByteArray) : (Int × Int × Int) × List ST :=
 match (refRead s).1 with
 | none => ((0, (refRead s).2.1, (refRead s).2.2), L)
 | some x => if 40 ≤ L.length ∨ 100 < (termsR (L ++ [x])).length then ((0, 4, 0), L) else (((L.length : Nat), 0, 0), L ++ [x])
def followsR (L : List ST) (s : ByteArray) : Bool × Int × Int :=
 match (refRead s).1 with
 | none => (false, (refRead s).2.1, (refRead s).2.2)
 | some x => (clashR (L ++ [contraT x]), 0, 0)
structure Both (S : WS) (L : List ST) : Prop where
 holds : Holds S L
 ok : ∀ s ∈ L, STOK s
 small : SmallL L
 text : TextOK S
 terms : S.shapes.length ≤ 100
 saids : S.said.length ≤ 40
theorem Both.none : Both noWS [] := ⟨Holds.none, fun s hs => (by cases hs), fun s hs => (by cases hs), TextOK.none, by simp [noWS], by simp [noWS]⟩
theorem Both.length {S : WS} {L : List ST} (h : Both S L) : S.said.length = L.length := h.holds.said.length
theorem Both.follows {S : WS} {L : List ST} (h : Both S L) (s : ByteArray) : (followsOf S s).1 = (followsR L s).1 ∧ (followsOf S s).2.1 = (followsR L s).2.1 ∧ ((followsOf S s).2.2 : Int) = (followsR L s).2.2 := by
 obtain ⟨r1, r2⟩ := refRead_eq s
 unfold followsOf followsR
 cases hr : (readOf s).1 with
 | none =>
  rw [r2 hr]
  exact ⟨rfl, rfl, rfl⟩
 | some x =>
  rw [r1 x hr]
  obtain ⟨hn, hz, _⟩ := readOf_small hr
  obtain ⟨o1, _, _⟩ := readOf_ok hr
  refine ⟨?_, rfl, rfl⟩
  have ht := h.terms
  have e1 := h.holds.follows_iff hn (by omega)
  have e2 := clashR_iff (L := L ++ [contraT (eraseS x)]) (fun t ht => by
   simp only [List.mem_append, List.mem_singleton] at ht
   rcases ht with ht | rfl
   ·exact h.ok t ht
   ·exact o1)
  show followsM S x = clashR (L ++ [contraT (eraseS x)])
  rw [Bool.eq_iff_iff, e1, e2]
theorem Both.say {S : WS} {L : List ST} (h : Both S L) (s : ByteArray) : ((sayOf S s).1.1 : Int) = (sayR L s).1.1 ∧ (sayOf S s).1.2.1 = (sayR L s).1.2.1 ∧ ((sayOf S s).1.2.2 : Int) = (sayR L s).1.2.2 ∧ Both (sayOf S s).2 (sayR L s).2 := by
 obtain ⟨r1, r2⟩ := refRead_eq s
 unfold sayOf sayR
 cases hr : (readOf s).1 with
 | none =>
  rw [r2 hr]
  exact ⟨rfl, rfl, rfl, h⟩
 | some x =>
  rw [r1 x hr]
  obtain ⟨hn, hz, _⟩ := readOf_small hr
  obtain ⟨o1, o2, o3⟩ := readOf_ok hr
  have ht := h.terms
  have hl := h.length
  have hok : ∀ t ∈ L ++ [eraseS x], STOK t := fun t ht => by
   simp only [List.mem_append, List.mem_singleton] at ht
   rcases ht with ht | rfl
   ·exact h.ok t ht
   ·exact o1
  have H1 := h.holds.say hn (by omega)
  have hc := H1.count hok
  simp only
  rw [hl, hc]
  by_cases h40 : 40 ≤ L.length
  ·rw [if_pos h40, if_pos (.inl h40)]
   exact ⟨rfl, rfl, rfl, h⟩
  ·rw [if_neg h40]
   by_cases h100 : 100 < (termsR (L ++ [eraseS x])).length
   ·rw [if_pos h100, if_pos (.inr h100)]
    exact ⟨rfl, rfl, rfl, h⟩
   ·rw [if_neg h100, if_neg (by omega)]
    refine ⟨rfl, rfl, rfl, H1, hok, fun t ht => ?_, h.text.say h.holds.fine.web hn (by omega) (by omega) (by omega), by show (sayM S x).shapes.length ≤ 100; omega, ?_⟩
    ·simp only [List.mem_append, List.mem_singleton] at ht
     rcases ht with ht | rfl
     ·exact h.small t ht
     ·rw [sizeS_erase]; exact hz
    ·have e := H1.said.length
     simp only [List.length_append, List.length_singleton] at e
     show (sayM S x).said.length ≤ 40
     omega
end Go.Proofs.YtmfkpllnmmfpiaaGreatDoor

namespace Go.Proofs.YtmfkpllnmmfpiaaGreatDoor
theorem strict_unique {α : Type} {R : α → α → Prop} (irr : ∀ a, ¬ R a a) (tr : ∀ a b c, R a b → R b c → R a c) : ∀ {l m : List α}, l.Pairwise R → m.Pairwise R → (∀ x, x ∈ l ↔ x ∈ m) → l = m
 | [], [], _, _, _ => rfl
 | [], b :: m, _, _, h => by have := (h b).2 (by simp); cases this
 | a :: l, [], _, _, h => by have := (h a).1 (by simp); cases this
 | a :: l, b :: m, hl, hm, h => by
  rw [List.pairwise_cons] at hl hm
  have hab : a = b := by
   rcases List.mem_cons.1 ((h a).1 (by simp)) with e | e
   ·exact e
   ·rcases List.mem_cons.1 ((h b).2 (by simp)) with e2 | e2
    ·exact e2.symm
    ·exact absurd (tr _ _ _ (hl.1 b e2) (hm.1 a e)) (irr a)
  subst hab
  rw [strict_unique irr tr hl.2 hm.2 fun x => ?_]
  constructor
  ·intro hx
   rcases List.mem_cons.1 ((h x).1 (by simp [hx])) with e | e
   ·subst e; exact absurd (hl.1 x hx) (irr x)
   ·exact e
  ·intro hx
   rcases List.mem_cons.1 ((h x).2 (by simp [hx])) with e | e
   ·subst e; exact absurd (hm.1 x hx) (irr x)
   ·exact e
def bLt (a b : ByteArray) : Prop := a.data.toList < b.data.toList
instance (a b : ByteArray) : Decidable (bLt a b) := inferInstanceAs (Decidable (a.data.toList < b.data.toList))
theorem bLt_irr (a : ByteArray) : ¬ bLt a a := List.lt_irrefl _
theorem bLt_trans (a b c : ByteArray) (h : bLt a b) (k : bLt b c) : bLt a c := List.lt_trans h k
theorem bLt_total {a b : ByteArray} (h : ¬ bLt a b) (k : a ≠ b) : bLt b a := by
 rcases List.le_total a.data.toList b.data.toList with h1 | h1
 ·exfalso
  apply h
  rcases List.le_iff_lt_or_eq.1 h1 with h2 | h2
  ·exact h2
  ·exact absurd (ByteArray.ext (Array.ext' h2)) k
 ·rcases List.le_iff_lt_or_eq.1 h1 with h2 | h2
  ·exact h2
  ·exact absurd (ByteArray.ext (Array.ext' h2.symm)) k
def laidR (l : List ByteArray) (s : ByteArray) : List ByteArray := l.takeWhile (fun x => decide (bLt x s)) ++ s :: l.dropWhile (fun x => decide (bLt x s))
theorem laidR_mem {l : List ByteArray} {s x : ByteArray} : x ∈ laidR l s ↔ x = s ∨ x ∈ l := by
 unfold laidR
 conv => rhs; rw [← List.takeWhile_append_dropWhile (p := fun x => decide (bLt x s)) (l := l)]
 simp only [List.mem_append, List.mem_cons]
 constructor
 ·rintro (h | h | h)
  ·exact .inr (.inl h)
  ·exact .inl h
  ·exact .inr (.inr h)
 ·rintro (h | h | h)
  ·exact .inr (.inl h)
  ·exact .inl h
  ·exact .inr (.inr h)
theorem takeWhile_all {α : Type} {p : α → Bool} : ∀ {l : List α} {x : α}, x ∈ l.takeWhile p → p x = true ∧ x ∈ l
 | a :: l, x, h => by
  unfold List.takeWhile at h
  split at h
  ·rcases List.mem_cons.1 h with rfl | h
   ·exact ⟨‹_›, by simp⟩
   ·exact ⟨(takeWhile_all h).1, by simp [(takeWhile_all h).2]⟩
  ·cases h
theorem laidR_sorted : ∀ {l : List ByteArray} {s : ByteArray}, l.Pairwise bLt → s ∉ l → (laidR l s).Pairwise bLt
 | [], s, _, _ => by simp [laidR]
 | a :: l, s, h, hs => by
  rw [List.pairwise_cons] at h
  have ih := laidR_sorted (s := s) h.2 (fun hm => hs (by simp [hm]))
  unfold laidR at ih ⊢
  by_cases ha : bLt a s
  ·rw [List.takeWhile_cons_of_pos (by simpa using ha), List.dropWhile_cons_of_pos (by simpa using ha), List.cons_append, List.pairwise_cons]
   refine ⟨fun x hx => ?_, ih⟩
   have : x ∈ laidR l s := hx
   rcases laidR_mem.1 this with rfl | hx
   ·exact ha
   ·exact h.1 x hx
  ·rw [List.takeWhile_cons_of_neg (by simpa using ha), List.dropWhile_cons_of_neg (by simpa using ha), List.nil_append, List.pairwise_cons, List.pairwise_cons]
   have hb := bLt_total ha (fun e => hs (by simp [e]))
   refine ⟨fun x hx => ?_, h⟩
   rcases List.mem_cons.1 hx with rfl | hx
   ·exact hb
   ·exact bLt_trans _ _ _ hb (h.1 x hx)
structure ClassedBy (K : ByteArray → Prop) (E : ByteArray → ByteArray → Prop) (out : List (List ByteArray)) : Prop where
 each : ∀ l ∈ out, l.Pairwise bLt ∧ l ≠ []
 heads : out.Pairwise fun l m => ∃ a b, l.head? = some a ∧ m.head? = some b ∧ bLt a b
 same : ∀ l ∈ out, ∀ x ∈ l, ∀ y, y ∈ l ↔ K y ∧ E x y
 all : ∀ x, K x → ∃ l ∈ out, x ∈ l
theorem ClassedBy.unique {K : ByteArray → Prop} {E : ByteArray → ByteArray → Prop} {o1 o2 : List (List ByteArray)} (h1 : ClassedBy K E o1) (h2 : ClassedBy K E o2) : o1 = o2 := by
 have key : ∀ {o1 o2 : List (List ByteArray)}, ClassedBy K E o1 → ClassedBy K E o2 → ∀ l ∈ o1, l ∈ o2 := fun {o1 o2} h1 h2 l hl => by
  obtain ⟨x, hx⟩ := List.exists_mem_of_ne_nil l (h1.each l hl).2
  have hk := ((h1.same l hl x hx x).1 hx).1
  obtain ⟨m, hm, hxm⟩ := h2.all x hk
  have e : l = m := strict_unique bLt_irr bLt_trans (h1.each l hl).1 (h2.each m hm).1 fun y => by rw [h1.same l hl x hx y, h2.same m hm x hxm y]
  rw [e]
  exact hm
 refine strict_unique (R := fun l m => ∃ a b, l.head? = some a ∧ m.head? = some b ∧ bLt a b) (fun a ⟨x, y, e1, e2, h⟩ => ?_) (fun a b c ⟨x, y, e1, e2, h⟩ ⟨y', z, e3, e4, k⟩ => ?_) h1.heads h2.heads fun l => ⟨key h1 h2 l, key h2 h1 l⟩
 ·rw [e1] at e2
  cases e2
  exact bLt_irr _ h
 ·rw [e2] at e3
  cases e3
  exact ⟨x, z, e1, e4, bLt_trans _ _ _ h k⟩
section
variable (T : Nat → ByteArray) (C : Nat → Nat) (n : Nat)
def minTo (i : Nat) : Nat → ByteArray
 | 0 => T i
 | k + 1 => if C k = C i ∧ bLt (T k) (minTo i k) then T k else minTo i k
def firstsTo : Nat → List ByteArray
 | 0 => []
 | i + 1 => if minTo T C i n = T i then laidR (firstsTo i) (minTo T C i n) else firstsTo i
def classTo (c : Nat) : Nat → List ByteArray
 | 0 => []
 | k + 1 => if C k = c then laidR (classTo c k) (T k) else classTo c k
variable {T C n}
theorem minTo_is (i : Nat) (hi : i < n) : ∀ k, k ≤ n → (∃ j, j < n ∧ minTo T C i k = T j ∧ C j = C i) ∧ ∀ q, (q < k ∨ q = i) → C q = C i → ¬ bLt (T q) (minTo T C i k)
 | 0, _ => ⟨⟨i, hi, rfl, rfl⟩, fun q hq _ => by
  rcases hq with hq | rfl
  ·omega
  ·exact bLt_irr _⟩
 | k + 1, hk => by
  obtain ⟨⟨j, h1, h2, h3⟩, h4⟩ := minTo_is i hi k (by omega)
  unfold minTo
  by_cases hc : C k = C i ∧ bLt (T k) (minTo T C i k)
  ·rw [if_pos hc]
   refine ⟨⟨k, by omega, rfl, hc.1⟩, fun q hq he hlt => ?_⟩
   by_cases e : q = k
   ·subst e; exact bLt_irr _ hlt
   ·exact h4 q (by omega) he (bLt_trans _ _ _ hlt hc.2)
  ·rw [if_neg hc]
   refine ⟨⟨j, h1, h2, h3⟩, fun q hq he hlt => ?_⟩
   by_cases e : q = k
   ·subst e; exact hc ⟨he, hlt⟩
   ·exact h4 q (by omega) he hlt
theorem firstsTo_is (hT : ∀ i j, i < n → j < n → T i = T j → i = j) : ∀ i, i ≤ n → (firstsTo T C n i).Pairwise bLt ∧ ∀ f, f ∈ firstsTo T C n i ↔ ∃ j, j < i ∧ f = T j ∧ minTo T C j n = T j
 | 0, _ => ⟨List.Pairwise.nil, fun f => ⟨fun h => (by cases h), fun ⟨j, h, _⟩ => (by omega)⟩⟩
 | i + 1, hi => by
  obtain ⟨h1, h2⟩ := firstsTo_is hT i (by omega)
  unfold firstsTo
  by_cases hc : minTo T C i n = T i
  ·rw [if_pos hc, hc]
   refine ⟨laidR_sorted h1 fun hm => ?_, fun f => ?_⟩
   ·obtain ⟨j, a, b, _⟩ := (h2 _).1 hm
    have := hT i j (by omega) (by omega) b
    omega
   ·rw [laidR_mem, h2]
    constructor
    ·rintro (rfl | ⟨j, a, b, c⟩)
     ·exact ⟨i, by omega, rfl, hc⟩
     ·exact ⟨j, by omega, b, c⟩
    ·rintro ⟨j, a, b, c⟩
     by_cases e : j = i
     ·subst e; exact .inl b
     ·exact .inr ⟨j, by omega, b, c⟩
  ·rw [if_neg hc]
   refine ⟨h1, fun f => ?_⟩
   rw [h2]
   constructor
   ·rintro ⟨j, a, b, c⟩
    exact ⟨j, by omega, b, c⟩
   ·rintro ⟨j, a, b, c⟩
    by_cases e : j = i
    ·subst e; exact absurd c hc
    ·exact ⟨j, by omega, b, c⟩
theorem classTo_is (hT : ∀ i j, i < n → j < n → T i = T j → i = j) (c : Nat) : ∀ k, k ≤ n → (classTo T C c k).Pairwise bLt ∧ ∀ f, f ∈ classTo T C c k ↔ ∃ j, j < k ∧ f = T j ∧ C j = c
 | 0, _ => ⟨List.Pairwise.nil, fun f => ⟨fun h => (by cases h), fun ⟨j, h, _⟩ => (by omega)⟩⟩
 | i + 1, hi => by
  obtain ⟨h1, h2⟩ := classTo_is hT c i (by omega)
  unfold classTo
  by_cases hc : C i = c
  ·rw [if_pos hc]
   refine ⟨laidR_sorted h1 fun hm => ?_, fun f => ?_⟩
   ·obtain ⟨j, a, b, _⟩ := (h2 _).1 hm
    have := hT i j (by omega) (by omega) b
    omega
   ·rw [laidR_mem, h2]
    constructor
    ·rintro (rfl | ⟨j, a, b, c⟩)
     ·exact ⟨i, by omega, rfl, hc⟩
     ·exact ⟨j, by omega, b, c⟩
    ·rintro ⟨j, a, b, c⟩
     by_cases e : j = i
     ·subst e; exact .inl b
     ·exact .inr ⟨j, by omega, b, c⟩
  ·rw [if_neg hc]
   refine ⟨h1, fun f => ?_⟩
   rw [h2]
   constructor
   ·rintro ⟨j, a, b, c⟩
    exact ⟨j, by omega, b, c⟩
   ·rintro ⟨j, a, b, c⟩
    by_cases e : j = i
    ·subst e; exact absurd c hc
    ·exact ⟨j, by omega, b, c⟩
theorem classTo_head (hT : ∀ i j, i < n → j < n → T i = T j → i = j) {j : Nat} (hj : j < n) (hm : minTo T C j n = T j) : (classTo T C (C j) n).head? = some (T j) := by
 obtain ⟨h1, h2⟩ := classTo_is hT (C j) n (Nat.le_refl _)
 have hin := (h2 (T j)).2 ⟨j, hj, rfl, rfl⟩
 cases hl : classTo T C (C j) n with
 | nil => rw [hl] at hin; cases hin
 | cons a l =>
  rw [hl] at hin h1
  rw [List.head?_cons]
  rcases List.mem_cons.1 hin with e | e
  ·rw [e]
  ·exfalso
   have hlt := (List.pairwise_cons.1 h1).1 _ e
   obtain ⟨q, q1, q2, q3⟩ := (h2 a).1 (by rw [hl]; simp)
   rw [q2, ← hm] at hlt
   exact (minTo_is (T := T) (C := C) j hj n (Nat.le_refl _)).2 q (.inl q1) q3 hlt
theorem classes_by (hT : ∀ i j, i < n → j < n → T i = T j → i = j) (ix : ByteArray → Nat) (hix : ∀ j, j < n → ix (T j) = j) :
  ClassedBy (fun y => ∃ i, i < n ∧ T i = y) (fun x y => ∃ i j, i < n ∧ j < n ∧ T i = x ∧ T j = y ∧ C i = C j) ((firstsTo T C n n).map fun f => classTo T C (C (ix f)) n) := by
 obtain ⟨f1, f2⟩ := firstsTo_is (C := C) hT n (Nat.le_refl _)
 have key : ∀ f ∈ firstsTo T C n n, ∃ j, j < n ∧ f = T j ∧ ix f = j ∧ minTo T C j n = T j := fun f hf => by
  obtain ⟨j, a, b, c⟩ := (f2 f).1 hf
  exact ⟨j, a, b, by rw [b]; exact hix j a, c⟩
 refine ⟨fun l hl => ?_, ?_, fun l hl x hx y => ?_, fun x ⟨i, hi, hx⟩ => ?_⟩
 ·obtain ⟨f, hf, rfl⟩ := List.mem_map.1 hl
  obtain ⟨j, a, b, c, d⟩ := key f hf
  refine ⟨(classTo_is hT _ n (Nat.le_refl _)).1, fun e => ?_⟩
  have := classTo_head hT a d
  rw [c] at e
  rw [e] at this
  cases this
 ·rw [List.pairwise_map]
  refine f1.imp_of_mem fun {a b} ha hb hab => ?_
  obtain ⟨j, j1, j2, j3, j4⟩ := key a ha
  obtain ⟨k, k1, k2, k3, k4⟩ := key b hb
  rw [j3, k3]
  exact ⟨T j, T k, classTo_head hT j1 j4, classTo_head hT k1 k4, by rw [← j2, ← k2]; exact hab⟩
 ·obtain ⟨f, hf, rfl⟩ := List.mem_map.1 hl
  have hc := (classTo_is (C := C) hT (C (ix f)) n (Nat.le_refl _)).2
  obtain ⟨i, i1, i2, i3⟩ := (hc x).1 hx
  rw [hc y]
  constructor
  ·rintro ⟨j, j1, j2, j3⟩
   exact ⟨⟨j, j1, j2.symm⟩, i, j, i1, j1, i2.symm, j2.symm, by rw [i3, j3]⟩
  ·rintro ⟨_, a, b, a1, b1, a2, b2, e⟩
   have := hT a i a1 i1 (by rw [a2, i2])
   subst this
   exact ⟨b, b1, b2.symm, by rw [← e, i3]⟩
 ·obtain ⟨⟨j, j1, j2, j3⟩, h4⟩ := minTo_is (T := T) (C := C) i hi n (Nat.le_refl _)
  have hmin : minTo T C j n = T j := by
   obtain ⟨⟨q, q1, q2, q3⟩, h5⟩ := minTo_is (T := T) (C := C) j j1 n (Nat.le_refl _)
   have a1 := h4 q (.inl q1) (by rw [q3, j3])
   have a2 := h5 j (.inr rfl) rfl
   rw [j2] at a1
   rw [q2] at a2 ⊢
   by_cases e : T q = T j
   ·exact e
   ·exact absurd (bLt_total a1 e) a2
  refine ⟨classTo T C (C (ix (T j))) n, List.mem_map.2 ⟨T j, (f2 _).2 ⟨j, j1, rfl, hmin⟩, rfl⟩, ?_⟩
  rw [hix j j1, (classTo_is hT (C j) n (Nat.le_refl _)).2]
  exact ⟨i, hi, hx.symm, j3.symm⟩
end
end Go.Proofs.YtmfkpllnmmfpiaaGreatDoor
