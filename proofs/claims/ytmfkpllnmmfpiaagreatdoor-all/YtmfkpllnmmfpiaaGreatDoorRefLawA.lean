/- BookSay, SemSay, RefRead, RefLaw -/
import Derived.Test.YtmfkpllnmmfpiaaGreatDoorBookAskA
import Derived.Test.YtmfkpllnmmfpiaaGreatDoorRefScanA
set_option maxHeartbeats 16000000
set_option maxRecDepth 100000
namespace Go.Proofs.YtmfkpllnmmfpiaaGreatDoor
open Go.RowKit
def sayOf (S:WS) (s:ByteArray):(Nat × Int × Nat) × WS :=
 match (readOf s).1 with
 | none=>((0,errOf (readOf s).2.1,(readOf s).2.2),S)
 | some x=>if 40<=S.said.length then ((0,4,0),S) else if 100 < (sayM S x).shapes.length then ((0,4,0),S) else ((S.said.length,0,0),sayM S x)
theorem say_any (s:ByteArray) (w:World) (bb:Nat) (Z:Nat->Prop) (S:WS) (hmax:s.size<=maxLen) (h:BookAt w bb Z S) (hE:ErrTab w) :
  Calls Tryz.prog 25 #[.pointer (some ⟨bb,0,none⟩),.string s] w fun e w'=>e=.returned (.tuple #[.int .i64 (sayOf S s).1.1,.int .i64 (sayOf S s).1.2.1,.int .i64 (sayOf S s).1.2.2])/\BookAt w' bb (fun k=>(Z k\/w.heap.size<=k)/\k < w'.heap.size) (sayOf S s).2/\∃ L,(∀ k ∈ L,Z k)/\Upd L w w':=by
 cases hr:(readOf s).1 with
 | none =>
  have HRd:=hide (bookRead_any s w bb hmax h.self hE)
  have HF:Hid (sayOf S s=((0,errOf (readOf s).2.1,(readOf s).2.2),S)):=by show _=_; unfold sayOf; rw [hr]
  have HB:=hide (fun (w':World) (U:Upd [] w w')=>h.wider U)
  have hne:(errOf (readOf s).2.1 != 0)=true:=errOf_ne hr
  clear h hE hr
  go_enter Tryz.func25,Tryz.ntmps25
  go_wp2_with (go_at_call 54; refine HRd.out.mono ?_; rintro e w2 ⟨a,p,g,l,c,k,a',p',g',l',c',rfl,hu2,_⟩; have Hu2:=hide hu2; clear hu2)
  go_ret3
  have U:=Hu2.out.alloc (.cells #[.string a,.int .i64 p,.slice g l c,.int .i64 k,.string a',.int .i64 p',.slice g' l' c'] 101)
  exact ⟨by rw [HF.out]; rfl,by rw [HF.out]; exact HB.out _ U,[],fun k hk=>(by cases hk),U⟩
 | some x =>
  obtain ⟨hnar,hsz,_⟩:=readOf_small hr
  have HRd:=hide (bookRead_fine s w bb hmax h.self hE hr)
  obtain ⟨wb,H,hc1,hw⟩:=h.ex
  have hlt:=h.lt
  have ht:=h.terms
  have hs:=h.saids
  have E:=sayM_end h.fine.web hnar (by omega)
  have hEl:=E.len
  obtain ⟨_,_,_,_,hEs⟩:=E.said
  have hEs':(sayM S x).said.length=S.said.length+1:=by rw [hEs]; simp
  have hE3:=((⟨E.web,E.pot h.fine.pot⟩:Fine (sayM S x)).trail (by omega) (by omega)).1
  have Hh:=hide h
  have Hw:=hide hw
  have HB:=hide (fun (w':World) (U:Upd [] w w')=>h.wider U)
  have HbbN:Hid (bb ∉ H.blocks wb):=fun hm=>(hw.inZ bb hm).2 rfl
  have HC:=hide (fun (w2:World) (X:Obj) (nq:Nat) (hu:Upd [] w w2) a p g l c k a' p' g' l' c' (hx2:IsSnt w2 (fun k=>w.heap.size<=k) (fuelOf s) (.string a,.int .i64 p,.slice g l c) k (.string a',.int .i64 p',.slice g' l' c') x) =>
   webSay_any ((w2.alloc X).drewN nq).drew wb (fuelOf s) H (fun k=>Z k/\k ≠ bb) (fun k=>w.heap.size<=k) S (.string a,.int .i64 p,.slice g l c) (.string a',.int .i64 p',.slice g' l' c') k x (hw.later ((hu.alloc X).drewN nq).drew (fun _ _=>by simp))
    ⟨hx2.1.later (((Upd.refl [] w2).alloc X).drewN nq).drew (fun _ _=>by simp),hx2.2.1,hx2.2.2.later (((Upd.refl [] w2).alloc X).drewN nq).drew (fun _ _=>by simp)⟩ (fun k hk hz=>by have:=h.low k hz.1; omega) (fun k hk=>Nat.lt_of_lt_of_le (h.low k hk.1) (hu.alloc X).size) h.fine hnar (by omega) (by omega))
  have HSd:=hide (fun (w2:World) (X:Obj) (nq:Nat) (hu:Upd [] w w2)=>sayings_any ((w2.alloc X).drewN nq) wb H _ S (hw.later ((hu.alloc X).drewN nq) (fun _ _=>by simp)))
  have HHe:=hide (fun (w2:World) (X:Obj) (nq:Nat) (hu:Upd [] w w2)=>here_any ((w2.alloc X).drewN nq) wb H _ S (hw.later ((hu.alloc X).drewN nq) (fun _ _=>by simp)))
  have HTm:=hide (fun (w3:World) (H3:Hd) (Z3:Nat->Prop) (hw3:WebAt w3 wb H3 Z3 (sayM S x))=>terms_any w3 wb H3 Z3 (sayM S x) hw3)
  have HBk:=hide (fun (w3:World) (H3:Hd) (Z3:Nat->Prop) (hw3:WebAt w3 wb H3 Z3 (sayM S x))=>backTo_any w3 wb H3 Z3 (sayM S x) S hw3 (E.goes S (Goes.refl S)) (by omega))
  have Hfine:Hid (Fine (sayM S x)):=⟨E.web,E.pot h.fine.pot⟩
  have HsaidL:=hide hEs'
  have HF:Hid (sayOf S s=if 40<=S.said.length then ((0,4,0),S) else if 100 < (sayM S x).shapes.length then ((0,4,0),S) else ((S.said.length,0,0),sayM S x)):=by show _=_; unfold sayOf; rw [hr]
  clear h hE hr hw hnar E hEs hEs' hEl hE3
  generalize sayM S x=T at *
  by_cases h40:40<=S.said.length
  ·have h40':(40:Int)<=(S.said.length:Int):=by omega
   rw [if_pos h40] at HF
   clear h40
   go_enter Tryz.func25,Tryz.ntmps25
   go_wp2_with (go_at_call 54; refine HRd.out.mono ?_; rintro e w2 ⟨a,p,g,l,c,k,a',p',g',l',c',rfl,hu2,hx2⟩; have Hu2:=hide hu2; have Hx2:=hide hx2; clear hu2 hx2)
   have U:=Hu2.out.alloc (.cells #[.string a,.int .i64 p,.slice g l c,.int .i64 k,.string a',.int .i64 p',.slice g' l' c'] 101)
   have c1:=(U.cell (p:=⟨bb,1,none⟩) hlt (by simp)).trans hc1
   have HU:=hide U
   clear U
   go_quiet (first | (go_at_call 55; exact Calls.quiet_of_same (HSd.out w2 _ _ Hu2.out)) | (go_at_call 56; exact Calls.quiet_of_same (HHe.out w2 _ _ Hu2.out)))
   go_wp2
   go_ret3
   exact ⟨by rw [HF.out]; rfl,by rw [HF.out]; exact HB.out _ (HU.out.drewN nq),[],fun k hk=>(by cases hk),HU.out.drewN nq⟩
  ·have h40':¬ (40:Int)<=(S.said.length:Int):=by omega
   have h40n:S.said.length < 40:=by omega
   rw [if_neg h40] at HF
   clear h40
   by_cases h100:100 < T.shapes.length
   ·have h100':(100:Int) < (T.shapes.length:Int):=by omega
    rw [if_pos h100] at HF
    clear h100
    go_enter Tryz.func25,Tryz.ntmps25
    go_wp2_with (go_at_call 54; refine HRd.out.mono ?_; rintro e w2 ⟨a,p,g,l,c,k,a',p',g',l',c',rfl,hu2,hx2⟩; have Hu2:=hide hu2; have Hx2:=hide hx2; clear hu2 hx2)
    have U:=Hu2.out.alloc (.cells #[.string a,.int .i64 p,.slice g l c,.int .i64 k,.string a',.int .i64 p',.slice g' l' c'] 101)
    have c1:=(U.cell (p:=⟨bb,1,none⟩) hlt (by simp)).trans hc1
    have HU:=hide U
    clear U
    go_quiet (first | (go_at_call 55; exact Calls.quiet_of_same (HSd.out w2 _ _ Hu2.out)) | (go_at_call 56; exact Calls.quiet_of_same (HHe.out w2 _ _ Hu2.out)))
    go_wp2
    obtain ⟨W3,hW3⟩:∃ W3,W3=w2.alloc (.cells #[.string a,.int .i64 p,.slice g l c,.int .i64 k,.string a',.int .i64 p',.slice g' l' c'] 101):=⟨_,rfl⟩
    have e0:W3.cell? ⟨w2.heap.size,0,none⟩=some (.string a):=by rw [hW3]; go_simp
    have e1:W3.cell? ⟨w2.heap.size,1,none⟩=some (.int .i64 p):=by rw [hW3]; go_simp
    have e2:W3.cell? ⟨w2.heap.size,2,none⟩=some (.slice g l c):=by rw [hW3]; go_simp
    have e3:W3.cell? ⟨w2.heap.size,3,none⟩=some (.int .i64 k):=by rw [hW3]; go_simp
    have e4:W3.cell? ⟨w2.heap.size,4,none⟩=some (.string a'):=by rw [hW3]; go_simp
    have e5:W3.cell? ⟨w2.heap.size,5,none⟩=some (.int .i64 p'):=by rw [hW3]; go_simp
    have e6:W3.cell? ⟨w2.heap.size,6,none⟩=some (.slice g' l' c'):=by rw [hW3]; go_simp
    rw [<- hW3] at c1 HU ⊢
    have HC3:=hide (HC.out w2 (.cells #[.string a,.int .i64 p,.slice g l c,.int .i64 k,.string a',.int .i64 p',.slice g' l' c'] 101) nq Hu2.out a p g l c k a' p' g' l' c' Hx2.out)
    rw [<- hW3] at HC3
    clear hW3
    go_region_with (go_at_call 57; refine HC3.out.mono ?_; rintro e w3 ⟨H3,rfl,hw3,hu3,hH3⟩; have c3:=(hu3.cell (p:=⟨bb,1,none⟩) (Nat.lt_of_lt_of_le hlt HU.out.size) HbbN.out).trans c1; have Hw3:=hide hw3; have Hu3:=hide hu3; have HH3:=hide hH3; clear hw3 hu3 hH3)
    all_goals (
     go_wp2_with (first
      | (go_at_call 58; refine (HTm.out w3 H3 _ Hw3.out).mono ?_; rintro e w4 ⟨rfl,hw4⟩; rw [hw4]; clear hw4 w4)
      | (go_at_call 59; refine (HBk.out w3 H3 _ Hw3.out).mono ?_; rintro e w5 ⟨rfl,H5,hw5,hu5,hH5⟩; have Hw5:=hide hw5; have Hu5:=hide hu5; have HH5:=hide hH5; clear hw5 hu5 hH5))
     go_ret3
     have U3:=((HU.out.drewN nq).drew.mono (L':=H.blocks wb) (fun x hx _=>by cases hx)).trans Hu3.out
     have s2:=HU.out.size
     have U5:=U3.trans' Hu5.out (fun k hk hl=>by
      rcases HH3.out k hk with h1 | h1
      ·exact h1
      ·exact absurd (Nat.le_trans s2 h1) (by omega))
     refine ⟨by rw [HF.out]; rfl,by rw [HF.out]; exact WebAt.book Hh.out hc1 Hw.out.inZ U5 (Hw5.out.mono (fun k hk _=>hk.imp id (fun h=>Nat.le_trans s2 h))) Hh.out.fine ht hs,H.blocks wb,fun k hk=>(Hw.out.inZ k hk).1,U5⟩)

   ·have h100':¬ (100:Int) < (T.shapes.length:Int):=by omega
    have h100n:T.shapes.length<=100:=by omega
    rw [if_neg h100] at HF
    clear h100
    go_enter Tryz.func25,Tryz.ntmps25
    go_wp2_with (go_at_call 54; refine HRd.out.mono ?_; rintro e w2 ⟨a,p,g,l,c,k,a',p',g',l',c',rfl,hu2,hx2⟩; have Hu2:=hide hu2; have Hx2:=hide hx2; clear hu2 hx2)
    have U:=Hu2.out.alloc (.cells #[.string a,.int .i64 p,.slice g l c,.int .i64 k,.string a',.int .i64 p',.slice g' l' c'] 101)
    have c1:=(U.cell (p:=⟨bb,1,none⟩) hlt (by simp)).trans hc1
    have HU:=hide U
    clear U
    go_quiet (first | (go_at_call 55; exact Calls.quiet_of_same (HSd.out w2 _ _ Hu2.out)) | (go_at_call 56; exact Calls.quiet_of_same (HHe.out w2 _ _ Hu2.out)))
    go_wp2
    obtain ⟨W3,hW3⟩:∃ W3,W3=w2.alloc (.cells #[.string a,.int .i64 p,.slice g l c,.int .i64 k,.string a',.int .i64 p',.slice g' l' c'] 101):=⟨_,rfl⟩
    have e0:W3.cell? ⟨w2.heap.size,0,none⟩=some (.string a):=by rw [hW3]; go_simp
    have e1:W3.cell? ⟨w2.heap.size,1,none⟩=some (.int .i64 p):=by rw [hW3]; go_simp
    have e2:W3.cell? ⟨w2.heap.size,2,none⟩=some (.slice g l c):=by rw [hW3]; go_simp
    have e3:W3.cell? ⟨w2.heap.size,3,none⟩=some (.int .i64 k):=by rw [hW3]; go_simp
    have e4:W3.cell? ⟨w2.heap.size,4,none⟩=some (.string a'):=by rw [hW3]; go_simp
    have e5:W3.cell? ⟨w2.heap.size,5,none⟩=some (.int .i64 p'):=by rw [hW3]; go_simp
    have e6:W3.cell? ⟨w2.heap.size,6,none⟩=some (.slice g' l' c'):=by rw [hW3]; go_simp
    rw [<- hW3] at c1 HU ⊢
    have HC3:=hide (HC.out w2 (.cells #[.string a,.int .i64 p,.slice g l c,.int .i64 k,.string a',.int .i64 p',.slice g' l' c'] 101) nq Hu2.out a p g l c k a' p' g' l' c' Hx2.out)
    rw [<- hW3] at HC3
    clear hW3
    go_region_with (go_at_call 57; refine HC3.out.mono ?_; rintro e w3 ⟨H3,rfl,hw3,hu3,hH3⟩; have c3:=(hu3.cell (p:=⟨bb,1,none⟩) (Nat.lt_of_lt_of_le hlt HU.out.size) HbbN.out).trans c1; have Hw3:=hide hw3; have Hu3:=hide hu3; have HH3:=hide hH3; clear hw3 hu3 hH3)
    all_goals (
     go_wp2_with (go_at_call 58; refine (HTm.out w3 H3 _ Hw3.out).mono ?_; rintro e w4 ⟨rfl,hw4⟩; rw [hw4]; clear hw4 w4)
     go_ret3
     have U3:=((HU.out.drewN nq).drew.mono (L':=H.blocks wb) (fun x hx _=>by cases hx)).trans Hu3.out
     have s2:=HU.out.size
     refine ⟨by rw [HF.out]; rfl,by rw [HF.out]; exact WebAt.book Hh.out hc1 Hw.out.inZ U3 (Hw3.out.mono (fun k hk _=>hk.imp id (fun h=>Nat.le_trans s2 h))) Hfine.out (by omega) (by rw [HsaidL.out]; omega),H.blocks wb,fun k hk=>(Hw.out.inZ k hk).1,U3⟩)
def eraseS {n:Nat} (x:Snt n):ST:=⟨x.eq,erase n x.left,erase n x.right⟩
def contraT (s:ST):ST:={ s with eq:=!s.eq }
theorem eraseS_contra {n:Nat} (x:Snt n):eraseS (contra x)=contraT (eraseS x):=rfl
theorem addAll_terms {n:Nat} (ih:∀ (S:WS) (t:Tm n),Web S->Narrow n t->∀ i,S.shapes.length<=i->i < (addM n S t).2.shapes.length->∃ u,Part u (erase n t)/\DenE (addM n S t).2 u i) :
  ∀ (l:List (Tm n)) (S:WS),Web S->allOf (Narrow n) l->∀ i,S.shapes.length<=i->i < (addAll (addM n) S l).2.shapes.length->∃ p ∈ l,∃ u,Part u (erase n p)/\DenE (addAll (addM n) S l).2 u i
 | [],S,_,_,i,h1,h2=>by simp only [addAll] at h2; omega
 | x :: l,S,hw,hn,i,h1,h2=>by
  obtain ⟨⟨a1,a2⟩,_⟩:=addM_end n S x hw hn.1
  obtain ⟨⟨b1,b2⟩,_⟩:=addAll_end (den:=fun S x i=>Den S n x i) (addM_end n) (fun _ _ _ _ hst hd=>Den.mono hst hd) l _ a1 hn.2
  by_cases h3:i < (addM n S x).2.shapes.length
  ·obtain ⟨u,hp,hd⟩:=ih S x hw hn.1 i h1 h3
   exact ⟨x,by simp,u,hp,hd.mono b2.shapes⟩
  ·obtain ⟨p,hp,u,hu,hd⟩:=addAll_terms ih l _ a1 hn.2 i (by omega) h2
   exact ⟨p,by simp [hp],u,hu,hd⟩
theorem addM_terms:∀ (n:Nat) (S:WS) (t:Tm n),Web S->Narrow n t->∀ i,S.shapes.length<=i->i < (addM n S t).2.shapes.length->∃ u,Part u (erase n t)/\DenE (addM n S t).2 u i
 | 0,_,_,_,h,_,_,_=>h.elim
 | n+1,S,t,hw,hn,i,h1,h2=>by
  have hden:=(addM_end (n+1) S t hw hn).2
  have hE:=hden.erase hn
  obtain ⟨⟨a1,a2⟩,_⟩:=addAll_end (den:=fun S x i=>Den S n x i) (addM_end n) (fun _ _ _ _ hst hd=>Den.mono hst hd) t.parts S hw hn.2.2
  have hT:=addAll_terms (addM_terms n) t.parts S hw hn.2.2 i h1
  have hcase:((addM (n+1) S t).2=(addAll (addM n) S t.parts).2)\/((addM (n+1) S t)=enterM (addAll (addM n) S t.parts).2 (shapeOf t.name (addAll (addM n) S t.parts).1)):=by
   unfold Go.Proofs.YtmfkpllnmmfpiaaGreatDoor.addM
   simp only
   split
   ·exact .inl rfl
   ·exact .inr rfl
  rcases hcase with hc | hc
  ·rw [hc] at h2 ⊢
   obtain ⟨p,hp,u,hu,hd⟩:=hT h2
   exact ⟨u,.within (List.mem_map.2 ⟨p,hp,rfl⟩) hu,hd⟩
  ·have e1:=(a1.base.inv.enter (shapeOf t.name (addAll (addM n) S t.parts).1))
   have hA:=a1.base.entered (shapeOf t.name (addAll (addM n) S t.parts).1)
   rw [hc] at h2 hE ⊢
   by_cases h3:i < (addAll (addM n) S t.parts).2.shapes.length
   ·obtain ⟨p,hp,u,hu,hd⟩:=hT h3
    exact ⟨u,.within (List.mem_map.2 ⟨p,hp,rfl⟩) hu,hd.mono hA.shapes⟩
   ·have h4:=e1.2.2.1
    obtain rfl:i=(addAll (addM n) S t.parts).2.shapes.length:=by omega
    rw [e1.2.1] at hE
    exact ⟨_,.self _,hE⟩
theorem AllIs.snoc1 {α β:Type} {R:α->β->Prop} {xs:List α} {ys:List β} {a:α} {b:β} (h:AllIs R xs ys) (hab:R a b):AllIs R (xs++[a]) (ys++[b]):=by
 induction xs generalizing ys with
 | nil =>
  cases ys with
  | nil=>exact ⟨hab,trivial⟩
  | cons y ys=>exact h.elim
 | cons x xs ih =>
  cases ys with
  | nil=>exact h.elim
  | cons y ys=>exact ⟨h.1,ih h.2⟩
theorem Holds.none:Holds noWS [] :=
 ⟨noWS_fine,fun t ⟨s,hs,_⟩=>by (cases hs),fun i hi=>by simp [noWS] at hi,trivial⟩
theorem Holds.say {S:WS} {L:List ST} (h:Holds S L) {n:Nat} {x:Snt n} (hx:NarrowS x) (hr:S.shapes.length+sizeS x<=400):Holds (sayM S x) (L++[eraseS x]):=by
 have E:=sayM_end h.fine.web hx hr
 obtain ⟨i,j,d1,d2,hs⟩:=E.said
 have e1:=d1.erase hx.1
 have e2:=d2.erase hx.2
 obtain ⟨⟨a1,a2⟩,_⟩:=addM_end n S x.left h.fine.web hx.1
 obtain ⟨⟨b1,b2⟩,_⟩:=addM_end n (addM n S x.left).2 x.right a1 hx.2
 have hsh:=sayM_shapes h.fine.web hx hr
 refine ⟨⟨E.web,E.pot h.fine.pot⟩,fun t ht=>?_,fun k hk=>?_,?_⟩
 ·obtain ⟨s,hm,hp⟩:=ht
  simp only [List.mem_append,List.mem_singleton] at hm
  rcases hm with hm | rfl
  ·obtain ⟨k,hd⟩:=h.num t ⟨s,hm,hp⟩
   exact ⟨k,hd.mono E.shapes⟩
  ·rcases hp with hp | hp
   ·exact DenE.part hp e1
   ·exact DenE.part hp e2
 ·have kn:∀ u,known L u->known (L++[eraseS x]) u:=fun u hu=>hu.mono (by intro s hs; simp [hs])
  have sm:∀ {u:Trm} {k:Nat},DenE (addM n (addM n S x.left).2 x.right).2 u k->DenE (sayM S x) u k:=fun hd=>hd.mono (by rw [hsh]; exact fun _ _ e=>e)
  by_cases h1:k < S.shapes.length
  ·obtain ⟨u,hu,hd⟩:=h.term k h1
   exact ⟨u,kn u hu,hd.mono E.shapes⟩
  ·rw [hsh] at hk
   by_cases h2:k < (addM n S x.left).2.shapes.length
   ·obtain ⟨u,hu,hd⟩:=addM_terms n S x.left h.fine.web hx.1 k (by omega) h2
    exact ⟨u,⟨eraseS x,by simp,.inl hu⟩,sm (hd.mono b2.shapes)⟩
   ·obtain ⟨u,hu,hd⟩:=addM_terms n _ x.right a1 hx.2 k (by omega) hk
    exact ⟨u,⟨eraseS x,by simp,.inr hu⟩,sm hd⟩
 ·rw [hs]
  refine AllIs.snoc1 (h.said.mono fun y s hy=>⟨hy.1,hy.2.1.mono E.shapes,hy.2.2.mono E.shapes⟩) ⟨rfl,e1,e2⟩
theorem nodup_below:∀ (n:Nat) (l:List Nat),l.Nodup->(∀ x ∈ l,x < n)->l.length<=n
 | 0,[],_,_=>Nat.le_refl _
 | 0,x :: _,_,h=>absurd (h x (by simp)) (Nat.not_lt_zero _)
 | n+1,l,hn,h=>by
  have h1:=nodup_below n (l.filter (· != n)) (hn.filter _) (fun x hx=>by
   rw [List.mem_filter] at hx
   have:=h x hx.1
   have:x ≠ n:=by simpa using hx.2
   omega)
  have h2:=filter_split2 (· != n) l
  have h3:(l.filter (fun x=>!(x != n))).length<=1:=by
   have hq:∀ x ∈ l.filter (fun x=>!(x != n)),x=n:=fun x hx=>by
    rw [List.mem_filter] at hx
    simpa using hx.2
   have hd:(l.filter (fun x=>!(x != n))).Nodup:=hn.filter _
   generalize l.filter (fun x=>!(x != n))=m at *
   match m,hq,hd with
   | [],_,_=>simp
   | [_],_,_=>simp
   | a :: b :: m,hq,hd =>
    have ea:=hq a (by simp)
    have eb:=hq b (by simp)
    simp [ea,eb] at hd
  omega
where
 filter_split2 {α:Type} (p:α->Bool):∀ l:List α,l.length=(l.filter p).length+(l.filter (fun x=>!p x)).length
 | []=>rfl
 | a :: l=>by
  have:=filter_split2 p l
  cases h:p a <;> simp [h] <;> omega
theorem choose_list {α:Type} {P:Nat->α->Prop}:∀ n:Nat,(∀ i,i < n->∃ a,P i a)->∃ l:List α,l.length=n/\∀ (i:Nat) (a:α),l[i]?=some a->P i a
 | 0,_=>⟨[],rfl,fun i a h=>by simp at h⟩
 | n+1,h=>by
  obtain ⟨l,hl,hp⟩:=choose_list n (fun i hi=>h i (by omega))
  obtain ⟨a,ha⟩:=h n (by omega)
  refine ⟨l++[a],by simp [hl],fun i b hb=>?_⟩
  by_cases hi:i < l.length
  ·rw [List.getElem?_append_left hi] at hb
   exact hp i b hb
  ·rw [List.getElem?_append_right (by omega)] at hb
   have h0:i - l.length=0:=by
    have:=(List.getElem?_eq_some_iff.1 hb).1
    simp at this
    omega
   rw [h0] at hb
   simp only [List.getElem?_cons_zero,Option.some.injEq] at hb
   subst hb
   obtain rfl:i=n:=by omega
   exact ha
theorem Holds.fewer {S T:WS} {L M:List ST} (hS:Holds S L) (hT:Holds T M) (hk:∀ t,known M t->known L t):T.shapes.length<=S.shapes.length:=by
 obtain ⟨l,hl,hp⟩:=choose_list (P:=fun i j=>∃ t,DenE T t i/\DenE S t j) T.shapes.length (fun i hi=>by
  obtain ⟨t,kt,dt⟩:=hT.term i hi
  obtain ⟨j,dj⟩:=hS.num t (hk t kt)
  exact ⟨j,t,dt,dj⟩)
 rw [<- hl]
 refine nodup_below _ l ?_ fun x hx=>?_
 ·have:∀ (i j:Nat) (x:Nat),l[i]?=some x->l[j]?=some x->i=j:=fun i j x hi hj=>by
   obtain ⟨t,d1,d2⟩:=hp i x hi
   obtain ⟨u,d3,d4⟩:=hp j x hj
   obtain rfl:=d2.fn d4
   exact d1.inj hT.fine.web.base d3
  exact nodup_get l this
 ·obtain ⟨i,hi⟩:=List.getElem?_of_mem hx
  obtain ⟨t,_,d2⟩:=hp i x hi
  exact d2.lt
where
 nodup_get:∀ l:List Nat,(∀ (i j:Nat) (x:Nat),l[i]?=some x->l[j]?=some x->i=j)->l.Nodup
 | [],_=>List.nodup_nil
 | a :: l,h=>by
  refine List.nodup_cons.2 ⟨fun hm=>?_,nodup_get l fun i j x hi hj=>by have:=h (i+1) (j+1) x (by simpa using hi) (by simpa using hj); omega⟩
  obtain ⟨i,hi⟩:=List.getElem?_of_mem hm
  have:=h 0 (i+1) a (by simp) (by simpa using hi)
  omega
theorem nameR_keep {s:ByteArray} {x:Sc} (h:0<=x.bad):nameR s x=(noName,blanksR s x):=by
 unfold nameR
 rw [if_pos (.inl h),noR_keep (x:=blanksR s x) h]
theorem termR_keep {s:ByteArray} (n d:Nat) {x:Sc} (h:0<=x.bad):(termR s n d x).2.bad=x.bad:=by
 cases n with
 | zero=>rfl
 | succ n =>
  have hb:(headR s d x).2.bad=x.bad:=by rw [headR_at.1,nameR_keep (x:=blanksR s x) h]; rfl
  unfold termR
  rw [isR_bad (by rw [hb]; exact h)]
  exact hb
theorem signR_keep {s:ByteArray} {x:Sc} (h:0<=x.bad):(signR s x).2.bad=x.bad:=by
 unfold signR
 rw [isR_bad h,isR_bad h]
 show (noR (blanksR s x)).bad=_
 rw [noR_keep (x:=blanksR s x) h]
 rfl
theorem word_seven {s:ByteArray} {i:Nat}:(wordAt s i).1=7 ↔ endOf blankB s i=s.size:=by
 unfold wordAt
 simp only
 split
 ·rename_i h; exact ⟨fun _=>h,fun _=>rfl⟩
 ·rename_i h
  refine ⟨fun e=>?_,fun e=>absurd e h⟩
  split at e
  ·cases e
  ·split at e
   ·cases e
   ·exact absurd e (kindOf_not _).2
theorem word_bang {s:ByteArray} {i:Nat}:((wordAt s i).1=5 ↔ endOf blankB s i+1 < s.size/\byteAt s (endOf blankB s i)=33/\byteAt s (endOf blankB s i+1)=61)/\((wordAt s i).1=6 ↔ endOf blankB s i < s.size/\byteAt s (endOf blankB s i)=33/\¬ (endOf blankB s i+1 < s.size/\byteAt s (endOf blankB s i+1)=61))/\((wordAt s i).1=5->(wordAt s i).2.2=endOf blankB s i+2)/\((wordAt s i).1=6->(wordAt s i).2.2=endOf blankB s i+1):=by
 unfold wordAt
 simp only
 generalize endOf blankB s i=f
 by_cases e0:f=s.size
 ·rw [if_pos e0]
  refine ⟨⟨fun h=>(by cases h),fun h=>(by omega)⟩,⟨fun h=>(by cases h),fun h=>(by omega)⟩,fun h=>(by cases h),fun h=>(by cases h)⟩
 ·rw [if_neg e0]
  by_cases e1:kindOf (byteAt s f)=0
  ·rw [if_pos e1]
   have hn:byteAt s f ≠ 33:=fun e=>by
    have:=(kindOf_6 _).2 e
    omega
   refine ⟨⟨fun h=>(by cases h),fun h=>absurd h.2.1 hn⟩,⟨fun h=>(by cases h),fun h=>absurd h.2.1 hn⟩,fun h=>(by cases h),fun h=>by cases h⟩
  ·rw [if_neg e1]
   by_cases e2:kindOf (byteAt s f)=6/\f+1 < s.size/\byteAt s (f+1)=61
   ·rw [if_pos e2]
    refine ⟨⟨fun _=>⟨e2.2.1,(kindOf_6 _).1 e2.1,e2.2.2⟩,fun _=>rfl⟩,⟨fun h=>(by cases h),fun h=>absurd e2.2 h.2.2⟩,fun _=>rfl,fun h=>by cases h⟩
   ·rw [if_neg e2]
    refine ⟨⟨fun h=>absurd h (kindOf_not _).1,fun h=>absurd ⟨(kindOf_6 _).2 h.2.1,h.1,h.2.2⟩ e2⟩,⟨fun h=>?_,fun h=>(kindOf_6 _).2 h.2.1⟩,fun h=>absurd h (kindOf_not _).1,fun _=>rfl⟩
    have h3:=(kindOf_6 _).1 h
    refine ⟨?_,h3,fun h4=>e2 ⟨h,h4⟩⟩
    by_cases h4:f < s.size
    ·exact h4
    ·rw [byteAt_past (by omega)] at h3
     cases h3
theorem is_bang {s:ByteArray} {x:Sc} (hb:x.bad=-1):isR s 33 x=true ↔ endOf blankB s x.pos < s.size/\byteAt s (endOf blankB s x.pos)=33:=by
 unfold isR
 rw [decide_eq_true (by omega:x.bad < 0)]
 simp
theorem sign_law {s:ByteArray} {x:Sc} (hb:x.bad=-1) :
  (∀ g st2,signOf s (wordAt s x.pos)=(some g,st2)->(signR s x).1=g/\(signR s x).2.bad=-1/\(signR s x).2.pos<=s.size/\wordAt s (signR s x).2.pos=st2/\(signR s x).2.out=x.out/\endOf blankB s x.pos<=(signR s x).2.pos) /\
  (∀ st2,signOf s (wordAt s x.pos)=(none,st2)->(signR s x).2.bad=(st2.2.1:Nat)):=by
 have hfrom:=wordAt_from s x.pos
 obtain ⟨b5,b6,t5,t6⟩:=word_bang (s:=s) (i:=x.pos)
 by_cases h4:(wordAt s x.pos).1=4
 ·rw [signOf_eq h4]
  refine ⟨fun g st2 h=>?_,fun st2 h=>by simp at h⟩
  simp only [Prod.mk.injEq,Option.some.injEq] at h
  obtain ⟨rfl,rfl⟩:=h
  have he:isR s 61 x=true:=(is_equal hb).2 h4
  obtain ⟨e1,e2⟩:=to_equal (s:=s) (i:=x.pos) h4
  have hS:signR s x=(true,(blanksR s x).next):=by unfold signR; rw [if_pos he]
  rw [hS]
  exact ⟨rfl,hb,by show endOf blankB s x.pos+1<=_; omega,by rw [e1]; rfl,rfl,Nat.le_succ _⟩
 ·have he:¬ isR s 61 x=true:=fun h=>h4 ((is_equal hb).1 h)
  by_cases h5:(wordAt s x.pos).1=5
  ·rw [signOf_ne h5]
   refine ⟨fun g st2 h=>?_,fun st2 h=>by simp at h⟩
   simp only [Prod.mk.injEq,Option.some.injEq] at h
   obtain ⟨rfl,rfl⟩:=h
   obtain ⟨c1,c2,c3⟩:=b5.1 h5
   have hbg:isR s 33 x=true:=(is_bang hb).2 ⟨by omega,c2⟩
   have hS:signR s x=(false,(blanksR s x).next.next):=by
    unfold signR
    rw [if_neg he,if_pos hbg,if_neg]
    show ¬ (s.size<=endOf blankB s x.pos+1\/byteAt s (endOf blankB s x.pos+1) ≠ 61)
    rw [c3]
    simp
    omega
   rw [hS]
   refine ⟨rfl,hb,by show endOf blankB s x.pos+1+1<=_; omega,by rw [t5 h5]; rfl,rfl,by show _<=endOf blankB s x.pos+1+1; omega⟩
  ·by_cases h6:(wordAt s x.pos).1=6
   ·rw [signOf_bang h6]
    refine ⟨fun g st2 h=>by simp at h,fun st2 h=>?_⟩
    simp only [Prod.mk.injEq,true_and] at h
    subst h
    obtain ⟨c1,c2,c3⟩:=b6.1 h6
    have hbg:isR s 33 x=true:=(is_bang hb).2 ⟨c1,c2⟩
    have hS:signR s x=(false,(noR (blanksR s x).next).next):=by
     unfold signR
     rw [if_neg he,if_pos hbg,if_pos]
     show s.size<=endOf blankB s x.pos+1\/byteAt s (endOf blankB s x.pos+1) ≠ 61
     by_cases h9:s.size<=endOf blankB s x.pos+1
     ·exact .inl h9
     ·exact .inr fun h8=>c3 ⟨by omega,h8⟩
    rw [hS]
    show (noR (blanksR s x).next).bad=_
    unfold noR
    rw [if_pos (by show x.bad < 0; omega),t6 h6]
    rfl
   ·rw [signOf_no h4 h5 h6]
    refine ⟨fun g st2 h=>by simp at h,fun st2 h=>?_⟩
    simp only [Prod.mk.injEq,true_and] at h
    subst h
    have hbg:¬ isR s 33 x=true:=fun h=>by
     obtain ⟨c1,c2⟩:=(is_bang hb).1 h
     by_cases h9:endOf blankB s x.pos+1 < s.size/\byteAt s (endOf blankB s x.pos+1)=61
     ·exact h5 (b5.2 ⟨h9.1,c2,h9.2⟩)
     ·exact h6 (b6.2 ⟨c1,c2,h9⟩)
    have hS:signR s x=(false,noR (blanksR s x)):=by unfold signR; rw [if_neg he,if_neg hbg]
    rw [hS,hfrom]
    show (noR (blanksR s x)).bad=_
    unfold noR
    rw [if_pos (by show x.bad < 0; omega)]
    rfl
theorem errOf_range {n:Nat} {t:Tm n} {d:Nat} {k:Int} {p:Nat} (h:rangeOf n t d=some (k,p)):errOf k=3:=by
 have:=rangeOf_kind h
 simp only at this
 have hk:k=3\/k=4\/k=5:=by omega
 rcases hk with rfl | rfl | rfl <;> rfl
theorem refRead_eq (s:ByteArray):(∀ x,(readOf s).1=some x->refRead s=(some (eraseS x),0,0))/\((readOf s).1=none->refRead s=(none,errOf (readOf s).2.1,(((readOf s).2.2:Nat):Int))):=by
 by_cases hl:200 < s.size
 ·have e:readOf s=(none,1,0):=by unfold readOf; rw [if_pos hl]
  refine ⟨fun x hx=>(by rw [e] at hx; cases hx),fun _=>?_⟩
  unfold refRead
  rw [if_pos hl,e]
  rfl
 ·have hx0:OutOK (-1) (wordAt s 0).2.1:=.inl rfl
  obtain ⟨aS,aN⟩:=term_law s (s.size+1) 0 ⟨0,-1,-1⟩ rfl (Nat.zero_le _) (by show s.size < 0+_; omega) hx0
  have hbadall:∀ p:Nat,0<=(scanR s).x.bad->(scanR s).x.bad=(p:Nat)->refRead s=(none,2,((p:Nat):Int)):=fun p h1 h2=>by
   unfold refRead
   rw [if_neg hl,if_pos h1,h2]
  have hread:∀ st:Wd,sentOf s (fuelOf s) (wordAt s 0)=(none,st)->readOf s=(none,2,st.2.1):=fun st h=>by unfold readOf; rw [if_neg hl,h]
  have hscan:(scanR s).x=(if (blanksR s (termR s (s.size+1) 0 (signR s (termR s (s.size+1) 0 ⟨0,-1,-1⟩).2).2).2).bad < 0/\(blanksR s (termR s (s.size+1) 0 (signR s (termR s (s.size+1) 0 ⟨0,-1,-1⟩).2).2).2).pos < s.size then noR (blanksR s (termR s (s.size+1) 0 (signR s (termR s (s.size+1) 0 ⟨0,-1,-1⟩).2).2).2) else (blanksR s (termR s (s.size+1) 0 (signR s (termR s (s.size+1) 0 ⟨0,-1,-1⟩).2).2).2)):=rfl
  have hl1:(scanR s).l=(termR s (s.size+1) 0 ⟨0,-1,-1⟩).1:=rfl
  have hl2:(scanR s).eq=(signR s (termR s (s.size+1) 0 ⟨0,-1,-1⟩).2).1:=rfl
  have hl3:(scanR s).r=(termR s (s.size+1) 0 (signR s (termR s (s.size+1) 0 ⟨0,-1,-1⟩).2).2).1:=rfl
  -- once wrong,it stays so
  have hstay:∀ p:Nat,(termR s (s.size+1) 0 (signR s (termR s (s.size+1) 0 ⟨0,-1,-1⟩).2).2).2.bad=(p:Nat)->(scanR s).x.bad=(p:Nat):=fun p h=>by
   have h2:(blanksR s (termR s (s.size+1) 0 (signR s (termR s (s.size+1) 0 ⟨0,-1,-1⟩).2).2).2).bad=(p:Nat):=h
   rw [hscan,if_neg (by omega)]
   exact h2
  have hnone:∀ st:Wd,sentOf s (fuelOf s) (wordAt s 0)=(none,st)->(scanR s).x.bad=(st.2.1:Nat)->(∀ x,(readOf s).1=some x->refRead s=(some (eraseS x),0,0))/\((readOf s).1=none->refRead s=(none,errOf (readOf s).2.1,(((readOf s).2.2:Nat):Int))):=fun st h1 h2=>by
   have e:=hread st h1
   refine ⟨fun x hx=>(by rw [e] at hx; cases hx),fun _=>?_⟩
   rw [hbadall st.2.1 (by omega) h2,e]
   rfl
  cases h1:termOf s (s.size+1) (wordAt s 0) with
  | mk o1 st1 =>
   cases o1 with
   | none =>
    have hb:=aN st1 h1
    refine hnone st1 (by unfold sentOf; rw [show termOf s (fuelOf s) (wordAt s 0)=_ from h1]) (hstay _ ?_)
    rw [termR_keep _ _ (by rw [signR_keep (by rw [hb]; omega),hb]; omega),signR_keep (by rw [hb]; omega),hb]
   | some l =>
    have A:=aS l st1 h1
    obtain ⟨bS,bN⟩:=sign_law (s:=s) A.bad
    rw [A.word] at bS bN
    cases h2:signOf s st1 with
    | mk o2 st2 =>
     cases o2 with
     | none =>
      have hb:=bN st2 h2
      refine hnone st2 (by unfold sentOf; rw [show termOf s (fuelOf s) (wordAt s 0)=_ from h1]; simp only; rw [h2]) (hstay _ ?_)
      rw [termR_keep _ _ (by rw [hb]; omega),hb]
     | some g =>
      obtain ⟨g1,g2,g3,g4,g5,g6⟩:=bS g st2 h2
      have hfr1:st1.2.1=endOf blankB s (termR s (s.size+1) 0 ⟨0,-1,-1⟩).2.pos:=by rw [<- A.word,wordAt_from]
      have hO2:OutOK (signR s (termR s (s.size+1) 0 ⟨0,-1,-1⟩).2).2.out (wordAt s (signR s (termR s (s.size+1) 0 ⟨0,-1,-1⟩).2).2.pos).2.1:=by
       rw [g5]
       refine A.later.mono ?_
       rw [wordAt_from,hfr1]
       have:=(endOf_le blankB s _ g3).1
       omega
      obtain ⟨cS,cN⟩:=term_law s (s.size+1) 0 (signR s (termR s (s.size+1) 0 ⟨0,-1,-1⟩).2).2 g2 g3 (by omega) hO2
      rw [g4] at cS cN
      cases h3:termOf s (s.size+1) st2 with
      | mk o3 st3 =>
       cases o3 with
       | none=>exact hnone st3 (by unfold sentOf; rw [show termOf s (fuelOf s) (wordAt s 0)=_ from h1]; simp only; rw [h2]; simp only; rw [show termOf s (fuelOf s) st2=_ from h3]) (hstay _ (cN st3 h3))
       | some r =>
        have C:=cS r st3 h3
        have hfr3:st3.2.1=endOf blankB s (termR s (s.size+1) 0 (signR s (termR s (s.size+1) 0 ⟨0,-1,-1⟩).2).2).2.pos:=by rw [<- C.word,wordAt_from]
        have hseven:st3.1=7 ↔ endOf blankB s (termR s (s.size+1) 0 (signR s (termR s (s.size+1) 0 ⟨0,-1,-1⟩).2).2).2.pos=s.size:=by rw [<- C.word]; exact word_seven
        have hble:=endOf_le blankB s _ C.pos
        have hbb:(blanksR s (termR s (s.size+1) 0 (signR s (termR s (s.size+1) 0 ⟨0,-1,-1⟩).2).2).2).bad=-1:=C.bad
        have hbp:(blanksR s (termR s (s.size+1) 0 (signR s (termR s (s.size+1) 0 ⟨0,-1,-1⟩).2).2).2).pos=endOf blankB s (termR s (s.size+1) 0 (signR s (termR s (s.size+1) 0 ⟨0,-1,-1⟩).2).2).2.pos:=rfl
        by_cases h7:st3.1=7
        ·have h7':=hseven.1 h7
         have hsn:sentOf s (fuelOf s) (wordAt s 0)=(some ⟨l,g,r⟩,st3):=by unfold sentOf; rw [show termOf s (fuelOf s) (wordAt s 0)=_ from h1]; simp only; rw [h2]; simp only; rw [show termOf s (fuelOf s) st2=_ from h3]; simp only; rw [if_pos h7]
         have hxx:(scanR s).x=blanksR s (termR s (s.size+1) 0 (signR s (termR s (s.size+1) 0 ⟨0,-1,-1⟩).2).2).2:=by rw [hscan,if_neg (by rw [hbp]; omega)]
         have hxb:(scanR s).x.bad=-1:=by rw [hxx]; exact hbb
         have hxo:(scanR s).x.out=orO (orO (-1) (rangeOf (s.size+1) l 0)) (rangeOf (s.size+1) r 0):=by
          rw [hxx]
          show (termR s (s.size+1) 0 (signR s (termR s (s.size+1) 0 ⟨0,-1,-1⟩).2).2).2.out=_
          rw [C.out,g5,A.out]
         cases ra:rangeOf (s.size+1) l 0 with
         | some c =>
          obtain ⟨k,p⟩:=c
          have hrr:readOf s=(none,k,p):=by
           have ra':rangeOf (fuelOf s) l 0=some (k,p):=ra
           unfold readOf
           rw [if_neg hl,hsn]
           simp only [ra']
          rw [ra] at hxo
          have ho:(scanR s).x.out=(p:Nat):=by rw [hxo]; simp [orO]
          refine ⟨fun x hx=>(by rw [hrr] at hx; cases hx),fun _=>?_⟩
          unfold refRead
          rw [if_neg hl,if_neg (by omega),if_pos (by omega),ho,hrr,errOf_range ra]
         | none =>
          cases rb:rangeOf (s.size+1) r 0 with
          | some c =>
           obtain ⟨k,p⟩:=c
           have hrr:readOf s=(none,k,p):=by
            have ra':rangeOf (fuelOf s) l 0=none:=ra
            have rb':rangeOf (fuelOf s) r 0=some (k,p):=rb
            unfold readOf
            rw [if_neg hl,hsn]
            simp only [ra',rb']
           rw [ra,rb] at hxo
           have ho:(scanR s).x.out=(p:Nat):=by rw [hxo]; simp [orO]
           refine ⟨fun x hx=>(by rw [hrr] at hx; cases hx),fun _=>?_⟩
           unfold refRead
           rw [if_neg hl,if_neg (by omega),if_pos (by omega),ho,hrr,errOf_range rb]
          | none =>
           have hrr:readOf s=(some ⟨l,g,r⟩,0,0):=by
            have ra':rangeOf (fuelOf s) l 0=none:=ra
            have rb':rangeOf (fuelOf s) r 0=none:=rb
            unfold readOf
            rw [if_neg hl,hsn]
            simp only [ra',rb']
           rw [ra,rb] at hxo
           have ho:(scanR s).x.out=-1:=by rw [hxo]; simp [orO]
           refine ⟨fun x hx=>?_,fun hx=>(by rw [hrr] at hx; cases hx)⟩
           rw [hrr] at hx
           cases hx
           unfold refRead
           rw [if_neg hl,if_neg (by omega),if_neg (by omega),hl1,hl2,hl3,A.term,g1,C.term]
           rfl
        ·refine hnone st3 (by unfold sentOf; rw [show termOf s (fuelOf s) (wordAt s 0)=_ from h1]; simp only; rw [h2]; simp only; rw [show termOf s (fuelOf s) st2=_ from h3]; simp only; rw [if_neg h7]) ?_
         have hlt:endOf blankB s (termR s (s.size+1) 0 (signR s (termR s (s.size+1) 0 ⟨0,-1,-1⟩).2).2).2.pos < s.size:=by
          have:=fun e=>h7 (hseven.2 e)
          omega
         rw [hscan,if_pos ⟨by omega,by rw [hbp]; exact hlt⟩]
         unfold noR
         rw [if_pos (by omega),hfr3]
         rfl
def idxT (x:ByteArray):List Trm->Option Nat
 | []=>none
 | t :: l=>if t.text=x then some 0 else (idxT x l).map (·+1)
theorem idxT_some {x:ByteArray}:∀ {l:List Trm} {i:Nat},idxT x l=some i->∃ t,l[i]?=some t/\t.text=x
 | [],i,h=>by cases h
 | t :: l,i,h=>by
  unfold idxT at h
  split at h
  ·cases h
   exact ⟨t,rfl,‹_›⟩
  ·obtain ⟨j,hj,rfl⟩:=Option.map_eq_some_iff.1 h
   obtain ⟨u,h1,h2⟩:=idxT_some hj
   exact ⟨u,by simpa using h1,h2⟩
theorem idxT_none {x:ByteArray}:∀ {l:List Trm},idxT x l=none->∀ t ∈ l,t.text ≠ x
 | [],_,t,ht=>by cases ht
 | u :: l,h,t,ht=>by
  unfold idxT at h
  split at h
  ·cases h
  ·rename_i hne
   have h1:idxT x l=none:=by simpa using h
   simp only [List.mem_cons] at ht
   rcases ht with rfl | ht
   ·exact hne
   ·exact idxT_none h1 t ht
structure TermsOK (l:List Trm):Prop where
 ok:∀ t ∈ l,TrmOK t
 nodup:l.Nodup
 parts:∀ (nm:ByteArray) (ps:List Trm),Trm.node nm ps ∈ l->∀ p ∈ ps,p ∈ l
theorem nodup_at {α:Type} {l:List α} (h:l.Nodup) {i j:Nat} {x:α} (hi:l[i]?=some x) (hj:l[j]?=some x):i=j:=by
 have h1:=(List.getElem?_eq_some_iff.1 hi)
 have h2:=(List.getElem?_eq_some_iff.1 hj)
 obtain ⟨l1,e1⟩:=h1
 obtain ⟨l2,e2⟩:=h2
 have hp:=List.pairwise_iff_getElem.1 h
 rcases Nat.lt_trichotomy i j with h3 | h3 | h3
 ·exact absurd (e1.trans e2.symm) (hp i j l1 l2 h3)
 ·exact h3
 ·exact absurd (e2.trans e1.symm) (hp j i l2 l1 h3)
theorem TermsOK.idx {l:List Trm} (h:TermsOK l) {t:Trm} (ht:TrmOK t) {i:Nat}:idxT t.text l=some i ↔ l[i]?=some t:=by
 constructor
 ·intro hi
  obtain ⟨u,h1,h2⟩:=idxT_some hi
  rw [h1,text_inj (h.ok u (List.mem_of_getElem? h1)) ht h2]
 ·intro hi
  cases hq:idxT t.text l with
  | none=>exact absurd rfl (idxT_none hq t (List.mem_of_getElem? hi))
  | some j =>
   obtain ⟨u,h1,h2⟩:=idxT_some hq
   rw [text_inj (h.ok u (List.mem_of_getElem? h1)) ht h2] at h1
   rw [nodup_at h.nodup hi h1]
theorem TermsOK.idx_none {l:List Trm} (h:TermsOK l) {t:Trm} (ht:TrmOK t):idxT t.text l=none ↔ t ∉ l:=by
 constructor
 ·exact fun hn hm=>idxT_none hn t hm rfl
 ·intro hn
  cases hq:idxT t.text l with
  | none=>rfl
  | some j=>exact absurd (List.mem_of_getElem? ((h.idx ht).1 hq)) hn
mutual
/-- A term and all its parts are known. -/
def addR:Trm->List Trm->List Trm
 | .node nm ps,W=>if (idxT (Trm.node nm ps).text (addRL ps W)).isSome then addRL ps W else addRL ps W++[.node nm ps]
def addRL:List Trm->List Trm->List Trm
 | [],W=>W
 | p :: ps,W=>addRL ps (addR p W)
end
mutual
theorem addR_ok:∀ (t:Trm) (W:List Trm),TrmOK t->TermsOK W->TermsOK (addR t W)/\(∀ x,x ∈ addR t W ↔ x ∈ W\/Part x t)/\∃ V,addR t W=W++V
 | .node nm ps,W,ht,hW=>by
  have hps:∀ p ∈ ps,TrmOK p:=by cases ht with | mk _ h=>exact h
  obtain ⟨h1,h2,V,h3⟩:=addRL_ok ps W hps hW
  unfold addR
  by_cases hc:(idxT (Trm.node nm ps).text (addRL ps W)).isSome
  ·rw [if_pos hc]
   have hm:Trm.node nm ps ∈ addRL ps W:=by
    obtain ⟨i,hi⟩:=Option.isSome_iff_exists.1 hc
    exact List.mem_of_getElem? ((h1.idx ht).1 hi)
   refine ⟨h1,fun x=>⟨fun hx=>?_,fun hx=>?_⟩,V,h3⟩
   ·rcases (h2 x).1 hx with h | ⟨p,hp,h⟩
    ·exact .inl h
    ·exact .inr (.within hp h)
   ·rcases hx with h | h
    ·exact (h2 x).2 (.inl h)
    ·cases h with
     | self=>exact hm
     | within hp h=>exact (h2 x).2 (.inr ⟨_,hp,h⟩)
  ·rw [if_neg hc]
   have hn:Trm.node nm ps ∉ addRL ps W:=(h1.idx_none ht).1 (by simpa using hc)
   refine ⟨⟨fun t hm=>?_,?_,fun nm' qs hm p hp=>?_⟩,fun x=>⟨fun hx=>?_,fun hx=>?_⟩,V++[.node nm ps],by rw [h3,List.append_assoc]⟩
   ·simp only [List.mem_append,List.mem_singleton] at hm
    rcases hm with hm | rfl
    ·exact h1.ok t hm
    ·exact ht
   ·rw [List.nodup_append]
    exact ⟨h1.nodup,by simp,fun a ha b hb e=>by simp only [List.mem_singleton] at hb; subst hb e; exact hn ha⟩
   ·simp only [List.mem_append,List.mem_singleton] at hm ⊢
    rcases hm with hm | hm
    ·exact .inl (h1.parts nm' qs hm p hp)
    ·cases hm
     exact .inl ((h2 p).2 (.inr ⟨p,hp,.self p⟩))
   ·simp only [List.mem_append,List.mem_singleton] at hx
    rcases hx with hx | rfl
    ·rcases (h2 x).1 hx with h | ⟨p,hp,h⟩
     ·exact .inl h
     ·exact .inr (.within hp h)
    ·exact .inr (.self _)
   ·simp only [List.mem_append,List.mem_singleton]
    rcases hx with h | h
    ·exact .inl ((h2 x).2 (.inl h))
    ·cases h with
     | self=>exact .inr rfl
     | within hp h=>exact .inl ((h2 x).2 (.inr ⟨_,hp,h⟩))
theorem addRL_ok:∀ (ps:List Trm) (W:List Trm),(∀ p ∈ ps,TrmOK p)->TermsOK W->TermsOK (addRL ps W)/\(∀ x,x ∈ addRL ps W ↔ x ∈ W\/∃ p ∈ ps,Part x p)/\∃ V,addRL ps W=W++V
 | [],W,_,hW=>by
  unfold addRL
  exact ⟨hW,fun x=>⟨.inl,fun h=>h.elim id (fun ⟨p,hp,_⟩=>by cases hp)⟩,[],by simp⟩
 | p :: ps,W,hp,hW=>by
  obtain ⟨h1,h2,V,h3⟩:=addR_ok p W (hp p (by simp)) hW
  obtain ⟨h4,h5,U,h6⟩:=addRL_ok ps (addR p W) (fun q hq=>hp q (by simp [hq])) h1
  unfold addRL
  refine ⟨h4,fun x=>?_,V++U,by rw [h6,h3,List.append_assoc]⟩
  rw [h5 x,h2 x]
  simp only [List.mem_cons,exists_eq_or_imp]
  constructor
  ·rintro ((h | h) | h)
   ·exact .inl h
   ·exact .inr (.inl h)
   ·exact .inr (.inr h)
  ·rintro (h | h | h)
   ·exact .inl (.inl h)
   ·exact .inl (.inr h)
   ·exact .inr h
end
def STOK (s:ST):Prop:=TrmOK s.l/\TrmOK s.r
def termsR (L:List ST):List Trm:=L.foldl (fun W s=>addR s.r (addR s.l W)) []
theorem termsR_snoc (L:List ST) (s:ST):termsR (L++[s])=addR s.r (addR s.l (termsR L)):=by simp [termsR]
theorem TermsOK.none:TermsOK []:=⟨fun t h=>(by cases h),List.nodup_nil,fun nm ps h=>(by cases h)⟩
theorem termsR_from:∀ (L:List ST) (W:List Trm),(∀ s ∈ L,STOK s)->TermsOK W->TermsOK (L.foldl (fun W s=>addR s.r (addR s.l W)) W)/\∀ x,x ∈ L.foldl (fun W s=>addR s.r (addR s.l W)) W ↔ x ∈ W\/known L x
 | [],W,_,hW=>⟨hW,fun x=>⟨.inl,fun h=>h.elim id (fun ⟨s,hs,_⟩=>by cases hs)⟩⟩
 | s :: L,W,hL,hW=>by
  have hs:=hL s (by simp)
  obtain ⟨h1,h2,_⟩:=addR_ok s.l W hs.1 hW
  obtain ⟨h3,h4,_⟩:=addR_ok s.r _ hs.2 h1
  obtain ⟨h5,h6⟩:=termsR_from L _ (fun t ht=>hL t (by simp [ht])) h3
  refine ⟨h5,fun x=>?_⟩
  rw [List.foldl_cons,h6 x,h4 x,h2 x]
  unfold known
  simp only [List.mem_cons,exists_eq_or_imp]
  constructor
  ·rintro (((h | h) | h) | h)
   ·exact .inl h
   ·exact .inr (.inl (.inl h))
   ·exact .inr (.inl (.inr h))
   ·exact .inr (.inr h)
  ·rintro (h | (h | h) | h)
   ·exact .inl (.inl (.inl h))
   ·exact .inl (.inl (.inr h))
   ·exact .inl (.inr h)
   ·exact .inr h
theorem termsR_ok {L:List ST} (hL:∀ s ∈ L,STOK s):TermsOK (termsR L)/\∀ x,x ∈ termsR L ↔ known L x:=by
 obtain ⟨h1,h2⟩:=termsR_from L [] hL TermsOK.none
 exact ⟨h1,fun x=>by rw [show (x ∈ termsR L ↔ _) from h2 x]; simp⟩
theorem Holds.count {S:WS} {L:List ST} (h:Holds S L) (hL:∀ s ∈ L,STOK s):S.shapes.length=(termsR L).length:=by
 obtain ⟨hT,hm⟩:=termsR_ok hL
 apply Nat.le_antisymm
 ·obtain ⟨l,hl,hp⟩:=choose_list (P:=fun i j=>∃ t,DenE S t i/\(termsR L)[j]?=some t) S.shapes.length (fun i hi=>by
   obtain ⟨t,kt,dt⟩:=h.term i hi
   obtain ⟨j,hj⟩:=List.getElem?_of_mem ((hm t).2 kt)
   exact ⟨j,t,dt,hj⟩)
  rw [<- hl]
  refine nodup_below _ l (nodup_of fun i j x hi hj=>?_) fun x hx=>?_
  ·obtain ⟨t,d1,e1⟩:=hp i x hi
   obtain ⟨u,d2,e2⟩:=hp j x hj
   rw [e1] at e2
   obtain rfl:=Option.some.inj e2
   exact d1.inj h.fine.web.base d2
  ·obtain ⟨i,hi⟩:=List.getElem?_of_mem hx
   obtain ⟨t,_,e⟩:=hp i x hi
   exact (List.getElem?_eq_some_iff.1 e).1
 ·obtain ⟨l,hl,hp⟩:=choose_list (P:=fun i j=>∃ t,(termsR L)[i]?=some t/\DenE S t j) (termsR L).length (fun i hi=>by
   have e:=List.getElem?_eq_getElem hi
   obtain ⟨j,hj⟩:=h.num _ ((hm _).1 (List.mem_of_getElem? e))
   exact ⟨j,_,e,hj⟩)
  rw [<- hl]
  refine nodup_below _ l (nodup_of fun i j x hi hj=>?_) fun x hx=>?_
  ·obtain ⟨t,e1,d1⟩:=hp i x hi
   obtain ⟨u,e2,d2⟩:=hp j x hj
   rw [d1.fn d2] at e1
   exact nodup_at hT.nodup e1 e2
  ·obtain ⟨i,hi⟩:=List.getElem?_of_mem hx
   obtain ⟨t,_,d⟩:=hp i x hi
   exact d.lt
where
 nodup_of:∀ {l:List Nat},(∀ (i j:Nat) (x:Nat),l[i]?=some x->l[j]?=some x->i=j)->l.Nodup
 | [],_=>List.nodup_nil
 | a :: l,h=>by
  refine List.nodup_cons.2 ⟨fun hm=>?_,nodup_of fun i j x hi hj=>by have:=h (i+1) (j+1) x (by simpa using hi) (by simpa using hj); omega⟩
  obtain ⟨i,hi⟩:=List.getElem?_of_mem hm
  have:=h 0 (i+1) a (by simp) (by simpa using hi)
  omega
end Go.Proofs.YtmfkpllnmmfpiaaGreatDoor
