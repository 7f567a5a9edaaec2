/- RefDraw, Plain -/
import Derived.Test.YtmfkpllnmmfpiaaGreatDoorRefLawA
import Derived.Test.YtmfkpllnmmfpiaaGreatDoorJoinLaw2A
import Derived.Lib.AppendStr
import Derived.Deep.DeepMust
set_option maxHeartbeats 16000000
set_option maxRecDepth 100000
namespace Go.Proofs.YtmfkpllnmmfpiaaGreatDoor
open Go.RowKit
def clsAt (c:List Nat) (i:Nat):Nat:=c.getD i 0
def joinC (c:List Nat) (a b:Nat):List Nat:=c.map fun x=>if x=clsAt c a then clsAt c b else x
theorem joinC_length (c:List Nat) (a b:Nat):(joinC c a b).length=c.length:=by simp [joinC]
theorem joinC_at {c:List Nat} {a b i:Nat} (hi:i < c.length):clsAt (joinC c a b) i=if clsAt c i=clsAt c a then clsAt c b else clsAt c i:=by
 unfold clsAt joinC
 rw [List.getD_eq_getElem?_getD,List.getElem?_map,List.getD_eq_getElem?_getD,List.getElem?_eq_getElem hi]
 rfl
def clsOf (ts:List Trm) (c:List Nat) (t:Trm):Nat:=clsAt c ((idxT t.text ts).getD 0)
def partsSame (ts:List Trm) (c:List Nat):List Trm->List Trm->Bool
 | [],[]=>true
 | p :: ps,q :: qs=>if clsOf ts c p=clsOf ts c q then partsSame ts c ps qs else false
 | _,_=>false
def sameR (ts:List Trm) (c:List Nat):Trm->Trm->Bool
 | .node nm ps,.node nm' qs=>if nm=nm'/\ps.length=qs.length then partsSame ts c ps qs else false
theorem sameR_node (ts:List Trm) (c:List Nat) (nm nm':ByteArray) (ps qs:List Trm):sameR ts c (.node nm ps) (.node nm' qs)=if nm=nm'/\ps.length=qs.length then partsSame ts c ps qs else false:=rfl
theorem partsSame_iff {ts:List Trm} {c:List Nat}:∀ {ps qs:List Trm},ps.length=qs.length->(partsSame ts c ps qs=true ↔ ∀ (i:Nat) (p q:Trm),ps[i]?=some p->qs[i]?=some q->clsOf ts c p=clsOf ts c q)
 | [],[],_=>⟨fun _ i p q h=>by simp at h,fun _=>rfl⟩
 | [],_ :: _,h=>by simp at h
 | _ :: _,[],h=>by simp at h
 | p :: ps,q :: qs,h=>by
  have ih:=partsSame_iff (ts:=ts) (c:=c) (ps:=ps) (qs:=qs) (by simpa using h)
  unfold partsSame
  by_cases hc:clsOf ts c p=clsOf ts c q
  ·rw [if_pos hc,ih]
   constructor
   ·intro hall i a b ha hb
    cases i with
    | zero=>simp only [List.getElem?_cons_zero,Option.some.injEq] at ha hb; subst ha hb; exact hc
    | succ i=>exact hall i a b (by simpa using ha) (by simpa using hb)
   ·exact fun hall i a b ha hb=>hall (i+1) a b (by simpa using ha) (by simpa using hb)
  ·rw [if_neg hc]
   exact ⟨fun hf=>(by cases hf),fun hall=>absurd (hall 0 p q rfl rfl) hc⟩
def pairR (ts:List Trm) (i k:Nat) (c:List Nat × Bool):List Nat × Bool :=
 if clsAt c.1 i=clsAt c.1 k then c
 else match ts[i]?,ts[k]? with
  | some t,some u=>if sameR ts c.1 t u then (joinC c.1 i k,true) else c
  | _,_=>c
def rowR (ts:List Trm) (i:Nat):Nat->List Nat × Bool->List Nat × Bool
 | 0,c=>c
 | k+1,c=>pairR ts i k (rowR ts i k c)
def passR (ts:List Trm):Nat->List Nat × Bool->List Nat × Bool
 | 0,c=>c
 | i+1,c=>rowR ts i i (passR ts i c)
def loopR (ts:List Trm):Nat->List Nat->List Nat
 | 0,c=>c
 | f+1,c=>if (passR ts ts.length (c,false)).2 then loopR ts f (passR ts ts.length (c,false)).1 else (passR ts ts.length (c,false)).1
def eqsR (ts:List Trm) (c:List Nat) (s:ST):List Nat:=if s.eq then joinC c ((idxT s.l.text ts).getD 0) ((idxT s.r.text ts).getD 0) else c
def drawnR (L:List ST):List Nat:=loopR (termsR L) ((termsR L).length+1) (L.foldl (eqsR (termsR L)) (List.range (termsR L).length))
def kinds (n:Nat) (c:List Nat):Nat:=((List.range n).filter fun x=>decide (x ∈ c)).length
structure ClsOK (L:List ST) (ts:List Trm) (c:List Nat):Prop where
 len:c.length=ts.length
 lt:∀ x ∈ c,x < ts.length
 sound:∀ R,ClosedT L R->∀ (i j:Nat) (t u:Trm),ts[i]?=some t->ts[j]?=some u->clsAt c i=clsAt c j->R t u
theorem clsAt_mem {c:List Nat} {i:Nat} (h:i < c.length):clsAt c i ∈ c:=by
 unfold clsAt
 rw [List.getD_eq_getElem?_getD,List.getElem?_eq_getElem h]
 exact List.getElem_mem h
theorem ClsOK.join {L:List ST} {ts:List Trm} {c:List Nat} (h:ClsOK L ts c) {a b:Nat} {ta tb:Trm} (ha:ts[a]?=some ta) (hb:ts[b]?=some tb) (hR:∀ R,ClosedT L R->R ta tb):ClsOK L ts (joinC c a b):=by
 have la:a < c.length:=by rw [h.len]; exact (List.getElem?_eq_some_iff.1 ha).1
 have lb:b < c.length:=by rw [h.len]; exact (List.getElem?_eq_some_iff.1 hb).1
 refine ⟨by rw [joinC_length]; exact h.len,fun x hx=>?_,fun R hRc i j t u hi hj e=>?_⟩
 ·unfold joinC at hx
  obtain ⟨y,hy,rfl⟩:=List.mem_map.1 hx
  split
  ·exact h.lt _ (clsAt_mem lb)
  ·exact h.lt y hy
 ·have li:i < c.length:=by rw [h.len]; exact (List.getElem?_eq_some_iff.1 hi).1
  have lj:j < c.length:=by rw [h.len]; exact (List.getElem?_eq_some_iff.1 hj).1
  rw [joinC_at li,joinC_at lj] at e
  have hab:=hR R hRc
  have s:=fun (p q:Nat) (x y:Trm) h1 h2 h3=>h.sound R hRc p q x y h1 h2 h3
  by_cases h1:clsAt c i=clsAt c a
  ·have r1:=s i a t ta hi ha h1
   rw [if_pos h1] at e
   by_cases h2:clsAt c j=clsAt c a
   ·exact hRc.trans _ _ _ r1 (hRc.symm _ _ (s j a u ta hj ha h2))
   ·rw [if_neg h2] at e
    exact hRc.trans _ _ _ (hRc.trans _ _ _ r1 hab) (s b j tb u hb hj e)
  ·rw [if_neg h1] at e
   by_cases h2:clsAt c j=clsAt c a
   ·rw [if_pos h2] at e
    exact hRc.trans _ _ _ (s i b t tb hi hb e) (hRc.trans _ _ _ (hRc.symm _ _ hab) (hRc.symm _ _ (s j a u ta hj ha h2)))
   ·rw [if_neg h2] at e
    exact s i j t u hi hj e
theorem joinC_keeps {c:List Nat} {a b i j:Nat} (hi:i < c.length) (hj:j < c.length) (h:clsAt c i=clsAt c j):clsAt (joinC c a b) i=clsAt (joinC c a b) j:=by
 rw [joinC_at hi,joinC_at hj,h]
theorem joinC_one {c:List Nat} {a b:Nat} (ha:a < c.length) (hb:b < c.length):clsAt (joinC c a b) a=clsAt (joinC c a b) b:=by
 rw [joinC_at ha,joinC_at hb,if_pos rfl]
 split
 ·rfl
 ·rfl
theorem filter_less {α:Type} {p q:α->Bool}:∀ {l:List α},(∀ x ∈ l,q x=true->p x=true)->(l.filter q).length<=(l.filter p).length
 | [],_=>Nat.le_refl _
 | a :: l,h=>by
  have ih:=filter_less (p:=p) (q:=q) (l:=l) (fun x hx=>h x (by simp [hx]))
  by_cases hq:q a=true
  ·have hp:=h a (by simp) hq
   simp only [List.filter_cons,hq,hp,if_true,List.length_cons]
   omega
  ·simp only [List.filter_cons,hq,Bool.false_eq_true,if_false]
   split
   ·simp only [List.length_cons]; omega
   ·exact ih
theorem filter_less1 {α:Type} {p q:α->Bool} {a:α}:∀ {l:List α},(∀ x ∈ l,q x=true->p x=true)->a ∈ l->p a=true->q a=false->(l.filter q).length < (l.filter p).length
 | b :: l,h,hm,hp,hq=>by
  have h':∀ x ∈ l,q x=true->p x=true:=fun x hx=>h x (by simp [hx])
  simp only [List.mem_cons] at hm
  rcases hm with rfl | hm
  ·have ih:=filter_less (p:=p) (q:=q) (l:=l) h'
   simp only [List.filter_cons,hp,hq,if_true,Bool.false_eq_true,if_false,List.length_cons]
   omega
  ·have ih:=filter_less1 h' hm hp hq
   by_cases hqb:q b=true
   ·have hpb:=h b (by simp) hqb
    simp only [List.filter_cons,hqb,hpb,if_true,List.length_cons]
    omega
   ·simp only [List.filter_cons,hqb,Bool.false_eq_true,if_false]
    split
    ·simp only [List.length_cons]; omega
    ·exact ih
theorem kinds_join {L:List ST} {ts:List Trm} {c:List Nat} (h:ClsOK L ts c) {a b:Nat} (ha:a < c.length) (hb:b < c.length) (hne:clsAt c a ≠ clsAt c b):kinds ts.length (joinC c a b) < kinds ts.length c:=by
 have hm:∀ x,x ∈ joinC c a b->x ∈ c/\x ≠ clsAt c a:=fun x hx=>by
  unfold joinC at hx
  obtain ⟨y,hy,rfl⟩:=List.mem_map.1 hx
  split
  ·exact ⟨clsAt_mem hb,fun e=>hne e.symm⟩
  ·exact ⟨hy,‹_›⟩
 refine filter_less1 (a:=clsAt c a) (fun x _ hx=>?_) (List.mem_range.2 (h.lt _ (clsAt_mem ha))) (by simpa using clsAt_mem ha) (by simpa using fun hx=>(hm _ hx).2 rfl)
 simp only [decide_eq_true_eq] at hx ⊢
 exact (hm x hx).1
theorem same_drawn {L:List ST} {ts:List Trm} {c:List Nat} (hT:TermsOK ts) (hk:∀ t ∈ ts,known L t) (h:ClsOK L ts c) {t u:Trm} (ht:t ∈ ts) (hu:u ∈ ts) (hs:sameR ts c t u=true):∀ R,ClosedT L R->R t u:=fun R hR=>by
 obtain ⟨nm,ps⟩:=t
 obtain ⟨nm',qs⟩:=u
 rw [sameR_node] at hs
 split at hs
 ·rename_i hc
  obtain ⟨rfl,hl⟩:=hc
  refine hR.cong nm ps qs (hk _ ht) (hk _ hu) hl fun i p q hp hq=>?_
  have hmp:=hT.parts _ _ ht p (List.mem_of_getElem? hp)
  have hmq:=hT.parts _ _ hu q (List.mem_of_getElem? hq)
  have e:=(partsSame_iff hl).1 hs i p q hp hq
  obtain ⟨a,ha⟩:=List.getElem?_of_mem hmp
  obtain ⟨b,hb⟩:=List.getElem?_of_mem hmq
  have e1:=(hT.idx (hT.ok p hmp)).2 ha
  have e2:=(hT.idx (hT.ok q hmq)).2 hb
  unfold clsOf at e
  rw [e1,e2] at e
  exact h.sound R hR a b p q ha hb e
 ·cases hs
structure Passed (L:List ST) (ts:List Trm) (c d:List Nat × Bool):Prop where
 ok:ClsOK L ts c.1->ClsOK L ts d.1
 keep:∀ i j,i < ts.length->j < ts.length->ClsOK L ts c.1->clsAt c.1 i=clsAt c.1 j->clsAt d.1 i=clsAt d.1 j
 turned:c.2=true->d.2=true
 same:d.2=false->d=c
 less:ClsOK L ts c.1->kinds ts.length d.1<=kinds ts.length c.1
 less1:ClsOK L ts c.1->c.2=false->d.2=true->kinds ts.length d.1 < kinds ts.length c.1
theorem Passed.refl (L:List ST) (ts:List Trm) (c:List Nat × Bool):Passed L ts c c:=⟨id,fun _ _ _ _ _ h=>h,id,fun _=>rfl,fun _=>Nat.le_refl _,fun _ h1 h2=>by rw [h1] at h2; cases h2⟩
theorem Passed.trans {L:List ST} {ts:List Trm} {c d e:List Nat × Bool} (h:Passed L ts c d) (k:Passed L ts d e):Passed L ts c e:=by
 refine ⟨fun o=>k.ok (h.ok o),fun i j hi hj o q=>k.keep i j hi hj (h.ok o) (h.keep i j hi hj o q),fun q=>k.turned (h.turned q),fun q=>?_,fun o=>Nat.le_trans (k.less (h.ok o)) (h.less o),fun o q1 q2=>?_⟩
 ·have e1:=k.same q
  rw [e1] at q ⊢
  exact h.same q
 ·cases hd:d.2 with
  | true=>exact Nat.lt_of_le_of_lt (k.less (h.ok o)) (h.less1 o q1 hd)
  | false =>
   have e1:=h.same hd
   rw [e1] at k
   exact k.less1 o q1 q2
theorem pairR_passed {L:List ST} {ts:List Trm} (hT:TermsOK ts) (hk:∀ t ∈ ts,known L t) (i k:Nat) (c:List Nat × Bool):Passed L ts c (pairR ts i k c):=by
 unfold pairR
 split
 ·exact Passed.refl L ts c
 ·rename_i hne
  split
  ·rename_i t u hi hj
   split
   ·rename_i hs
    refine ⟨fun o=>o.join hi hj (same_drawn hT hk o (List.mem_of_getElem? hi) (List.mem_of_getElem? hj) hs),fun a b ha hb o e=>joinC_keeps (by rw [o.len]; exact ha) (by rw [o.len]; exact hb) e,fun _=>rfl,fun h=>(by cases h),fun o=>Nat.le_of_lt ?_,fun o _ _=>?_⟩
    ·exact kinds_join o (by rw [o.len]; exact (List.getElem?_eq_some_iff.1 hi).1) (by rw [o.len]; exact (List.getElem?_eq_some_iff.1 hj).1) hne
    ·exact kinds_join o (by rw [o.len]; exact (List.getElem?_eq_some_iff.1 hi).1) (by rw [o.len]; exact (List.getElem?_eq_some_iff.1 hj).1) hne
   ·exact Passed.refl L ts c
  ·exact Passed.refl L ts c
theorem rowR_passed {L:List ST} {ts:List Trm} (hT:TermsOK ts) (hk:∀ t ∈ ts,known L t) (i:Nat):∀ k c,Passed L ts c (rowR ts i k c)
 | 0,c=>Passed.refl L ts c
 | k+1,c=>(rowR_passed hT hk i k c).trans (pairR_passed hT hk i k _)
theorem passR_passed {L:List ST} {ts:List Trm} (hT:TermsOK ts) (hk:∀ t ∈ ts,known L t):∀ i c,Passed L ts c (passR ts i c)
 | 0,c=>Passed.refl L ts c
 | i+1,c=>(passR_passed hT hk i c).trans (rowR_passed hT hk i i _)
def Still (ts:List Trm) (c:List Nat):Prop:=∀ (i k:Nat) (t u:Trm),k < i->ts[i]?=some t->ts[k]?=some u->clsAt c i=clsAt c k\/sameR ts c t u=false
theorem rowR_still {L:List ST} {ts:List Trm} (hT:TermsOK ts) (hk:∀ t ∈ ts,known L t) (i:Nat):∀ (m:Nat) (c:List Nat),(rowR ts i m (c,false)).2=false->∀ (k:Nat) (t u:Trm),k < m->ts[i]?=some t->ts[k]?=some u->clsAt c i=clsAt c k\/sameR ts c t u=false
 | 0,_,_,k,_,_,hkm,_,_=>absurd hkm (Nat.not_lt_zero _)
 | m+1,c,h,k,t,u,hkm,hi,hj=>by
  have hP:=pairR_passed (L:=L) hT hk i m (rowR ts i m (c,false))
  have h1:pairR ts i m (rowR ts i m (c,false))=rowR ts i m (c,false):=hP.same h
  have h2:(rowR ts i m (c,false)).2=false:=by rw [<- h1]; exact h
  by_cases e:k < m
  ·exact rowR_still (L:=L) hT hk i m c h2 k t u e hi hj
  ·obtain rfl:k=m:=by omega
   have h3:=(rowR_passed (L:=L) hT hk i k (c,false)).same h2
   have h4:(pairR ts i k (c,false)).2=false:=by rw [h3] at h1; rw [h1]
   unfold pairR at h4
   by_cases hc:clsAt c i=clsAt c k
   ·exact .inl hc
   ·right
    rw [if_neg hc,hi,hj] at h4
    simp only at h4
    cases hs:sameR ts c t u with
    | false=>rfl
    | true=>rw [hs] at h4; simp at h4
theorem passR_still {L:List ST} {ts:List Trm} (hT:TermsOK ts) (hk:∀ t ∈ ts,known L t):∀ (m:Nat) (c:List Nat),(passR ts m (c,false)).2=false->∀ (i k:Nat) (t u:Trm),i < m->k < i->ts[i]?=some t->ts[k]?=some u->clsAt c i=clsAt c k\/sameR ts c t u=false
 | 0,_,_,i,_,_,_,him,_,_,_=>absurd him (Nat.not_lt_zero _)
 | m+1,c,h,i,k,t,u,him,hki,hi,hj=>by
  have hP:=rowR_passed (L:=L) hT hk m m (passR ts m (c,false))
  have h1:rowR ts m m (passR ts m (c,false))=passR ts m (c,false):=hP.same h
  have h2:(passR ts m (c,false)).2=false:=by rw [<- h1]; exact h
  by_cases e:i < m
  ·exact passR_still (L:=L) hT hk m c h2 i k t u e hki hi hj
  ·obtain rfl:i=m:=by omega
   have h3:=(passR_passed (L:=L) hT hk i (c,false)).same h2
   exact rowR_still (L:=L) hT hk i i c (by rw [h3] at h1; rw [h1]) k t u hki hi hj
theorem loopR_end {L:List ST} {ts:List Trm} (hT:TermsOK ts) (hk:∀ t ∈ ts,known L t):∀ (f:Nat) (c:List Nat),ClsOK L ts c->kinds ts.length c < f->ClsOK L ts (loopR ts f c)/\Still ts (loopR ts f c)/\∀ i j,i < ts.length->j < ts.length->clsAt c i=clsAt c j->clsAt (loopR ts f c) i=clsAt (loopR ts f c) j
 | 0,_,_,h=>absurd h (Nat.not_lt_zero _)
 | f+1,c,h,hf=>by
  have hP:=passR_passed (L:=L) hT hk ts.length (c,false)
  have ho:=hP.ok h
  unfold loopR
  by_cases ht:(passR ts ts.length (c,false)).2=true
  ·rw [if_pos ht]
   have hl:=hP.less1 h rfl ht
   obtain ⟨a,b,d⟩:=loopR_end hT hk f (passR ts ts.length (c,false)).1 ho (by simp only at hl; omega)
   exact ⟨a,b,fun i j hi hj e=>d i j hi hj (hP.keep i j hi hj h e)⟩
  ·rw [if_neg ht]
   have ht':(passR ts ts.length (c,false)).2=false:=by simpa using ht
   have e:=hP.same ht'
   rw [e]
   refine ⟨h,fun i k t u hki hi hj=>?_,fun i j _ _ q=>q⟩
   exact passR_still (L:=L) hT hk ts.length c ht' i k t u (List.getElem?_eq_some_iff.1 hi).1 hki hi hj
theorem kinds_le (n:Nat) (c:List Nat):kinds n c<=n:=by
 unfold kinds
 have:=List.length_filter_le (fun x=>decide (x ∈ c)) (List.range n)
 simpa using this
theorem eqsR_end {L:List ST} {ts:List Trm} (hT:TermsOK ts) (hk:∀ t,t ∈ ts ↔ known L t):∀ (M:List ST) (c:List Nat),(∀ s ∈ M,s ∈ L)->(∀ s ∈ M,STOK s)->ClsOK L ts c->ClsOK L ts (M.foldl (eqsR ts) c)/\(∀ i j,i < ts.length->j < ts.length->clsAt c i=clsAt c j->clsAt (M.foldl (eqsR ts) c) i=clsAt (M.foldl (eqsR ts) c) j)/\∀ s ∈ M,s.eq=true->clsOf ts (M.foldl (eqsR ts) c) s.l=clsOf ts (M.foldl (eqsR ts) c) s.r
 | [],c,_,_,h=>⟨h,fun _ _ _ _ e=>e,fun s hs=>by cases hs⟩
 | s :: M,c,hM,hO,h=>by
  have hs:=hM s (by simp)
  have hso:=hO s (by simp)
  obtain ⟨a,ha⟩:=List.getElem?_of_mem ((hk s.l).2 ⟨s,hs,.inl (.self _)⟩)
  obtain ⟨b,hb⟩:=List.getElem?_of_mem ((hk s.r).2 ⟨s,hs,.inr (.self _)⟩)
  have la:=(List.getElem?_eq_some_iff.1 ha).1
  have lb:=(List.getElem?_eq_some_iff.1 hb).1
  have ea:=(hT.idx hso.1).2 ha
  have eb:=(hT.idx hso.2).2 hb
  have h1:ClsOK L ts (eqsR ts c s):=by
   unfold eqsR
   split
   ·rw [ea,eb]
    exact h.join ha hb fun R hR=>hR.said s hs ‹_›
   ·exact h
  have h2:∀ i j,i < ts.length->j < ts.length->clsAt c i=clsAt c j->clsAt (eqsR ts c s) i=clsAt (eqsR ts c s) j:=fun i j hi hj e=>by
   unfold eqsR
   split
   ·exact joinC_keeps (by rw [h.len]; exact hi) (by rw [h.len]; exact hj) e
   ·exact e
  obtain ⟨k1,k2,k3⟩:=eqsR_end hT hk M (eqsR ts c s) (fun t ht=>hM t (by simp [ht])) (fun t ht=>hO t (by simp [ht])) h1
  refine ⟨k1,fun i j hi hj e=>k2 i j hi hj (h2 i j hi hj e),fun t ht he=>?_⟩
  simp only [List.mem_cons] at ht
  rcases ht with rfl | ht
  ·rw [List.foldl_cons]
   unfold clsOf
   rw [ea,eb]
   refine k2 a b la lb ?_
   unfold eqsR
   rw [if_pos he,ea,eb]
   exact joinC_one (by rw [h.len]; exact la) (by rw [h.len]; exact lb)
  ·exact k3 t ht he
theorem rangeC_ok (L:List ST) (ts:List Trm):ClsOK L ts (List.range ts.length):=by
 refine ⟨by simp,fun x hx=>List.mem_range.1 hx,fun R hR i j t u hi hj e=>?_⟩
 have li:=(List.getElem?_eq_some_iff.1 hi).1
 have lj:=(List.getElem?_eq_some_iff.1 hj).1
 unfold clsAt at e
 rw [List.getD_eq_getElem?_getD,List.getElem?_range li,List.getD_eq_getElem?_getD,List.getElem?_range lj] at e
 simp only [Option.getD_some] at e
 subst e
 rw [hi] at hj
 obtain rfl:=Option.some.inj hj
 exact hR.refl _
theorem drawnR_iff {L:List ST} (hL:∀ s ∈ L,STOK s) {i j:Nat} {t u:Trm} (hi:(termsR L)[i]?=some t) (hj:(termsR L)[j]?=some u):clsAt (drawnR L) i=clsAt (drawnR L) j ↔ EqT L t u:=by
 obtain ⟨hT,hk⟩:=termsR_ok hL
 have hk':∀ t ∈ termsR L,known L t:=fun t ht=>(hk t).1 ht
 obtain ⟨e1,e2,e3⟩:=eqsR_end hT hk L (List.range (termsR L).length) (fun s hs=>hs) hL (rangeC_ok L (termsR L))
 obtain ⟨l1,l2,l3⟩:=loopR_end hT hk' ((termsR L).length+1) _ e1 (by have:=kinds_le (termsR L).length (L.foldl (eqsR (termsR L)) (List.range (termsR L).length)); omega)
 have hd:loopR (termsR L) ((termsR L).length+1) (L.foldl (eqsR (termsR L)) (List.range (termsR L).length))=drawnR L:=rfl
 rw [hd] at l1 l2 l3
 constructor
 ·exact fun e R hR=>l1.sound R hR i j t u hi hj e
 ·intro h
  have hc:ClosedT L (fun t u=>t=u\/∃ i j,(termsR L)[i]?=some t/\(termsR L)[j]?=some u/\clsAt (drawnR L) i=clsAt (drawnR L) j):=by
   refine ⟨fun t=>.inl rfl,fun t u h=>?_,fun t u v h k=>?_,fun s hs he=>?_,fun nm ps qs k1 k2 hl hp=>?_⟩
   ·rcases h with rfl | ⟨i,j,a,b,e⟩
    ·exact .inl rfl
    ·exact .inr ⟨j,i,b,a,e.symm⟩
   ·rcases h with rfl | ⟨i,j,a,b,e⟩
    ·exact k
    ·rcases k with rfl | ⟨j',k',a',b',e'⟩
     ·exact .inr ⟨i,j,a,b,e⟩
     ·obtain rfl:=nodup_at hT.nodup b a'
      exact .inr ⟨i,k',a,b',e.trans e'⟩
   ·obtain ⟨a,ha⟩:=List.getElem?_of_mem ((hk s.l).2 ⟨s,hs,.inl (.self _)⟩)
    obtain ⟨b,hb⟩:=List.getElem?_of_mem ((hk s.r).2 ⟨s,hs,.inr (.self _)⟩)
    have h3:=e3 s hs he
    unfold clsOf at h3
    rw [(hT.idx (hL s hs).1).2 ha,(hT.idx (hL s hs).2).2 hb] at h3
    exact .inr ⟨a,b,ha,hb,l3 a b (List.getElem?_eq_some_iff.1 ha).1 (List.getElem?_eq_some_iff.1 hb).1 h3⟩
   ·obtain ⟨a,ha⟩:=List.getElem?_of_mem ((hk _).2 k1)
    obtain ⟨b,hb⟩:=List.getElem?_of_mem ((hk _).2 k2)
    have hcls:∀ (i:Nat) (p q:Trm),ps[i]?=some p->qs[i]?=some q->clsOf (termsR L) (drawnR L) p=clsOf (termsR L) (drawnR L) q:=fun i p q hp1 hq1=>by
     have mp:=hT.parts _ _ (List.mem_of_getElem? ha) p (List.mem_of_getElem? hp1)
     have mq:=hT.parts _ _ (List.mem_of_getElem? hb) q (List.mem_of_getElem? hq1)
     rcases hp i p q hp1 hq1 with rfl | ⟨x,y,h1,h2,h3⟩
     ·rfl
     ·unfold clsOf
      rw [(hT.idx (hT.ok p mp)).2 h1,(hT.idx (hT.ok q mq)).2 h2]
      exact h3
    have hs1:sameR (termsR L) (drawnR L) (.node nm ps) (.node nm qs)=true:=by
     rw [sameR_node,if_pos ⟨rfl,hl⟩]
     exact (partsSame_iff hl).2 hcls
    have hs2:sameR (termsR L) (drawnR L) (.node nm qs) (.node nm ps)=true:=by
     rw [sameR_node,if_pos ⟨rfl,hl.symm⟩]
     exact (partsSame_iff hl.symm).2 fun i p q hp1 hq1=>(hcls i q p hq1 hp1).symm
    refine .inr ⟨a,b,ha,hb,?_⟩
    rcases Nat.lt_trichotomy a b with h3 | h3 | h3
    ·rcases l2 b a _ _ h3 hb ha with h4 | h4
     ·exact h4.symm
     ·rw [hs2] at h4; cases h4
    ·rw [h3]
    ·rcases l2 a b _ _ h3 ha hb with h4 | h4
     ·exact h4
     ·rw [hs1] at h4; cases h4
  rcases h _ hc with rfl | ⟨a,b,h1,h2,h3⟩
  ·rw [nodup_at hT.nodup hi hj]
  ·rw [nodup_at hT.nodup hi h1,nodup_at hT.nodup hj h2]
   exact h3
def clashR (L:List ST):Bool:=L.any fun s=>!s.eq && (clsOf (termsR L) (drawnR L) s.l == clsOf (termsR L) (drawnR L) s.r)
theorem clashR_iff {L:List ST} (hL:∀ s ∈ L,STOK s):clashR L=true ↔ ClashT L:=by
 obtain ⟨hT,hk⟩:=termsR_ok hL
 unfold clashR ClashT
 rw [List.any_eq_true]
 have key:∀ s ∈ L,(clsOf (termsR L) (drawnR L) s.l=clsOf (termsR L) (drawnR L) s.r ↔ EqT L s.l s.r):=fun s hs=>by
  obtain ⟨a,ha⟩:=List.getElem?_of_mem ((hk s.l).2 ⟨s,hs,.inl (.self _)⟩)
  obtain ⟨b,hb⟩:=List.getElem?_of_mem ((hk s.r).2 ⟨s,hs,.inr (.self _)⟩)
  unfold clsOf
  rw [(hT.idx (hL s hs).1).2 ha,(hT.idx (hL s hs).2).2 hb]
  exact drawnR_iff hL ha hb
 constructor
 ·rintro ⟨s,hs,h⟩
  simp only [Bool.and_eq_true,Bool.not_eq_true',beq_iff_eq] at h
  exact ⟨s,hs,h.1,(key s hs).1 h.2⟩
 ·rintro ⟨s,hs,h0,h⟩
  refine ⟨s,hs,?_⟩
  simp only [Bool.and_eq_true,Bool.not_eq_true',beq_iff_eq]
  exact ⟨h0,(key s hs).2 h⟩
theorem info_byte:(Tryz.prog.info? 5).map (fun i=>(i.zero,i.size,i.bytes))=some (some (.int .u8 0),1,1):=by kernel_rfl
def partsTo (f:Nat->List UInt8) (s:Sh):Nat->List UInt8
 | 0=>[]
 | q+1=>partsTo f s q++(if q=0 then [40] else [44,32])++f (partAt s q)
def plainF (S:WS):Nat->Nat->List UInt8
 | 0,_=>[]
 | f+1,i=>(shapeAt S i).1.data.toList++if (shapeAt S i).2.1=0 then [] else partsTo (plainF S f) (shapeAt S i) (shapeAt S i).2.1++[41]
def bytesV (l:List UInt8):List Value:=l.map fun b=>.int .u8 (b.toNat:Int)
theorem bytesV_append (a b:List UInt8):bytesV (a++b)=bytesV a++bytesV b:=by simp [bytesV]
theorem strCells_bytes (s:ByteArray):Lib.strCells s=bytesV s.data.toList:=by
 simp [Lib.strCells,bytesV]
theorem Upd.of_below_list {B:Nat} {w w':World} (h:Below B w w'):Upd ((List.range w.heap.size).filter (fun k=>decide (B<=k))) w w' :=
 ⟨h.os,h.tape,h.output,h.size,fun k hk hn=>h.block k (by
  simp only [List.mem_filter,List.mem_range,decide_eq_true_eq,not_and] at hn
  have:=hn hk
  omega)⟩
theorem WebAt.below {w w':World} {B wb:Nat} {H:Hd} {Z:Nat->Prop} {S:WS} (h:WebAt w wb H Z S) (hb:Below B w w') (hZ:∀ k,Z k->k < B):WebAt w' wb H Z S :=
 h.later (Upd.of_below_list hb) fun k hk hm=>by
  simp only [List.mem_filter,List.mem_range,decide_eq_true_eq] at hm
  have:=hZ k hk
  omega
structure Kept (w w':World):Prop where
 size:w.heap.size<=w'.heap.size
 block:∀ k,k < w.heap.size->(∀ c fz,w.heap[k]? ≠ some (.cells c 5 fz))->w'.heap[k]?=w.heap[k]?
theorem Kept.refl (w:World):Kept w w:=⟨Nat.le_refl _,fun _ _ _=>rfl⟩
theorem Kept.trans {a b c:World} (h:Kept a b) (k:Kept b c):Kept a c :=
 ⟨Nat.le_trans h.size k.size,fun i hi hn=>(k.block i (Nat.lt_of_lt_of_le hi h.size) (fun c fz e=>hn c fz (by rw [<- h.block i hi hn]; exact e))).trans (h.block i hi hn)⟩
theorem Kept.alloc {a w:World} (h:Kept a w) (o:Obj):Kept a (w.alloc o):=h.trans ⟨by simp,fun k hk _=>Below.heap_alloc _ _ _ hk⟩
theorem Kept.grown {a w w':World} {B n:Nat} {v:Value} {xs:List Value} (h:Kept a w) (hr:w.ownsRow B 5 1 v n xs) (hg:w.grownBy w' v.ownBlock):Kept a w' :=
 h.trans ⟨hg.size,fun k hk hn=>hg.block k hk (fun e=>by
  rcases hr.2 with ⟨hv,_⟩ | ⟨g,cap,cur,hv,_,hh,_⟩
  ·rw [hv] at e; simp [Value.ownBlock] at e
  ·rw [hv] at e
   simp only [own_slice,Option.some.injEq] at e
   subst e
   exact hn _ _ hh)⟩
structure ShBox (w:World) (A:Nat) (s:Sh):Prop where
 box:BoxSh w A s
 kind:∃ c fz,w.heap[A]?=some (.cells c 141 fz)
theorem ShBox.new (w:World) (s:Sh):ShBox (w.alloc (.cells #[.string s.1,.int .i64 s.2.1,.int .i64 s.2.2.1,.int .i64 s.2.2.2.1,.int .i64 s.2.2.2.2] 141)) w.heap.size s :=
 ⟨⟨by simp,by go_simp,by go_simp,by go_simp,by go_simp,by go_simp⟩,_,_,heap_alloc_new w _⟩
theorem ShBox.kept {w w':World} {A:Nat} {s:Sh} (h:ShBox w A s) (k:Kept w w'):ShBox w' A s:=by
 obtain ⟨c,fz,hk⟩:=h.kind
 have hb:w'.heap[A]?=w.heap[A]?:=k.block A h.box.1 (fun c' fz' e=>by rw [hk] at e; cases e)
 have hc:=fun o=>World.cell?_of_block (w:=w) (w':=w') (a:=⟨A,o,none⟩) hb
 exact ⟨⟨Nat.lt_of_lt_of_le h.box.1 k.size,(hc 0).trans h.box.2.1,(hc 1).trans h.box.2.2.1,(hc 2).trans h.box.2.2.2.1,(hc 3).trans h.box.2.2.2.2.1,(hc 4).trans h.box.2.2.2.2.2⟩,c,fz,hb.trans hk⟩
structure TextAt (w wk:World) (wb B:Nat) (H:Hd) (Z:Nat->Prop) (S:WS) (v:Value) (xs:List UInt8):Prop where
 web:WebAt wk wb H Z S
 row:wk.ownsRow B 5 1 v xs.length (bytesV xs)
 below:Below B w wk
 kept:Kept w wk
theorem TextAt.put {w wk w':World} {wb B:Nat} {H:Hd} {Z:Nat->Prop} {S:WS} {v v':Value} {xs ys:List UInt8} (h:TextAt w wk wb B H Z S v xs) (hZ:∀ k,Z k->k < B) (hBw:B<=w.heap.size) (hr:w'.ownsRow B 5 1 v' (xs.length+ys.length) (bytesV xs++bytesV ys)) (hg:wk.grownBy w' v.ownBlock):TextAt w w' wb B H Z S v' (xs++ys):=by
 have hb:Below B wk w':=⟨hg.os,hg.tape,hg.output,hg.size,fun k hk=>hg.block k (Nat.lt_of_lt_of_le hk (Nat.le_trans hBw h.below.size)) (fun e=>by have:=(h.row.lt k e.symm).1; omega)⟩
 exact ⟨h.web.below hb hZ,by rw [bytesV_append,List.length_append]; exact hr,h.below.trans hb,h.kept.grown h.row hg⟩
theorem TextAt.alloc {w wk:World} {wb B:Nat} {H:Hd} {Z:Nat->Prop} {S:WS} {v:Value} {xs:List UInt8} (h:TextAt w wk wb B H Z S v xs) (hBw:B<=w.heap.size) (o:Obj):TextAt w (wk.alloc o) wb B H Z S v xs :=
 ⟨h.web.later ((Upd.refl [] wk).alloc o) (fun _ _=>by simp),((Upd.refl [] wk).alloc o).ownsRow h.row (fun _ _=>by simp),h.below.alloc (Nat.le_trans hBw h.below.size) o,h.kept.alloc o⟩
def PlainOK (f:Nat):Prop:=∀ (w:World) (wb B:Nat) (H:Hd) (Z:Nat->Prop) (S:WS) (v:Value) (xs:List UInt8) (i:Nat),WebAt w wb H Z S->Base S->(∀ k,Z k->k < B)->B<=w.heap.size->i < S.shapes.length->i < f->w.ownsRow B 5 1 v xs.length (bytesV xs) ->
 (∀ g j,(plainF S g j).length<=1000)->xs.length+5000 * f<=10000000 ->
 Calls Tryz.prog 123 #[.pointer (some ⟨wb,0,none⟩),v,.int .i64 i] w fun e w'=>∃ v',e=.returned v'/\TextAt w w' wb B H Z S v' (xs++plainF S f i)
def sepT (q:Nat):ByteArray:=if q=0 then ⟨#[40]⟩ else ⟨#[44,32]⟩
theorem sepT_bytes (q:Nat):(sepT q).data.toList=if q=0 then [40] else [44,32]:=by unfold sepT; split <;> rfl
theorem sepT_size (q:Nat):(sepT q).size<=2/\(sepT q).size=(sepT q).data.toList.length:=by
 constructor
 ·unfold sepT
  split
  ·show 1<=2; omega
  ·show 2<=2; omega
 ·simp
theorem partsTo_length {f:Nat->List UInt8} (hf:∀ j,(f j).length<=1000) (s:Sh):∀ q,(partsTo f s q).length<=1002 * q
 | 0=>by simp [partsTo]
 | q+1=>by
  have:=partsTo_length hf s q
  have:=hf (partAt s q)
  simp only [partsTo,List.length_append]
  split <;> simp <;> omega
theorem plain_succ (f:Nat) (hF:PlainOK f):PlainOK (f+1):=by
 intro w wb B H Z S v xs i hweb hB hZ hBw hi hif hrow hsm hxs
 obtain ⟨i0,hi0,hz0,hz1,hz2⟩:=info_parts info_byte
 have hsh:=shapeAt_some hi
 have hg:=hB.good i _ hsh
 obtain ⟨g,cap,hd,hcap,hmax⟩:∃ g cap,H.shapes=.slice (some ⟨g,0,none⟩) S.shapes.length cap/\S.shapes.length<=cap/\cap<=maxLen:=by
  rcases ownsRow_slice hweb.rs with ⟨_,h0⟩ | hh
  ·omega
  ·exact hh
 have c1:=hweb.c1
 rw [hd] at c1
 have hrs:=hweb.rs
 rw [hd] at hrs
 obtain ⟨k0,k1,k2,k3,k4⟩:=row5_cells hrs hsh
 have hi':(i:Int) < (S.shapes.length:Int):=by omega
 have hname:=hg.name
 have hpl:Hid (plainF S (f+1) i=(shapeAt S i).1.data.toList++if (shapeAt S i).2.1=0 then [] else partsTo (plainF S f) (shapeAt S i) (shapeAt S i).2.1++[41]):=rfl
 have HF:=hide (fun (wk:World) (vk:Value) (ys:List UInt8) (q:Nat) (h:TextAt w wk wb B H Z S vk ys) (hq:q < i) (hy:ys.length+5000 * f<=10000000)=>hF wk wb B H Z S vk ys q h.web hB hZ (Nat.le_trans hBw h.below.size) (by omega) (by omega) h.row hsm hy)
 have H0:Hid (TextAt w (w.alloc (.cells #[.string (shapeAt S i).1,.int .i64 (shapeAt S i).2.1,.int .i64 (shapeAt S i).2.2.1,.int .i64 (shapeAt S i).2.2.2.1,.int .i64 (shapeAt S i).2.2.2.2] 141)) wb B H Z S v xs):=(⟨hweb,hrow,Below.refl _ _,Kept.refl _⟩:TextAt w w wb B H Z S v xs).alloc hBw _
 have hbox:=ShBox.new w (shapeAt S i)
 have hsml:=hsm
 have Hg:=hide hg
 have hcnt:=hg.count
 have hrow1:=H0.out.row
 have hszn:(shapeAt S i).1.size=(shapeAt S i).1.data.toList.length:=by simp
 clear hsh hrs hd hweb hrow hg hB
 generalize shapeAt S i=sh at *
 have Hszn:=hide hszn
 have h63:xs.length+sh.1.size<=maxLen:=by unfold maxLen; omega
 have hby:xs.length+sh.1.size<=140737488355328:=by omega
 clear hszn
 have hbase:B<=(w.alloc (.cells #[.string sh.1,.int .i64 sh.2.1,.int .i64 sh.2.2.1,.int .i64 sh.2.2.2.1,.int .i64 sh.2.2.2.2] 141)).heap.size:=by simp; omega
 go_enter Tryz.func123,Tryz.ntmps123
 go_upto_region 3 with (at_builtin; go_must (refine Lib.wpList_append_own_string _ rfl _ _ 186 9 rfl B 5 i0 Tryz.underlying186 Tryz.underlying9 hi0 hz0 hz1 hz2 _ _ _ rfl hrow1 sh.1 rfl h63 hby hbase ?_); intro v2 w2 hown2 hg2 hnil2)
 have H2:=hide (H0.out.put hZ hBw (by rw [<- Hszn.out,<- strCells_bytes]; exact hown2) hg2)
 have hb2:=hbox.kept (H0.out.kept.size |> fun _=>(Kept.refl _).grown hrow1 hg2)
 clear hown2 hg2 hnil2 H0 hbox hrow1 h63 hby hbase k0 k1 k2 k3 k4 c1
 obtain ⟨_,q0,q1,q2,q3,q4⟩:=hb2.box
 obtain ⟨g2,n2,cap2,hv2⟩:∃ (g:Option Addr) (n c:Nat),v2=.slice g n c:=by obtain ⟨g,c,e⟩:=slice_len H2.out.row; exact ⟨g,_,c,e⟩
 subst hv2
 by_cases hc:sh.2.1=0
 ·have hc':((sh.2.1:Int) == 0)=true:=by simp; omega
  have HE:Hid (plainF S (f+1) i=sh.1.data.toList):=by show _=_; rw [hpl.out,if_pos hc,List.append_nil]
  clear hc
  go_wp2
  go_ret
  exact ⟨_,rfl,by rw [HE.out]; exact H2.out⟩
 ·have hc':((sh.2.1:Int) == 0)=false:=by simp; omega
  have HE:Hid (plainF S (f+1) i=sh.1.data.toList++(partsTo (plainF S f) sh sh.2.1++[41])):=by show _=_; rw [hpl.out,if_neg hc]
  have hpos:0 < sh.2.1:=by omega
  have Hb2:=hide hb2
  have hc3:(sh.2.1:Int)<=3:=by omega
  clear hc hb2 hpl
  go_wp2
  go_loopw [1,8,31] (fun v8 sg ix wr=>∃ q:Nat,q<=sh.2.1/\ix=.int .i64 q/\sg=.string (sepT q)/\Hid (TextAt w wr wb B H Z S v8 (xs++sh.1.data.toList++partsTo (plainF S f) sh q)/\ShBox wr w.heap.size sh)) (fun _ _ ix _=>sh.2.1 - (intOf ix).toNat)
  case atStart=>exact ⟨0,by omega,rfl,rfl,by rw [show partsTo (plainF S f) sh 0=[] from rfl,List.append_nil]; exact H2.out,Hb2.out⟩
  case round =>
   obtain ⟨q,hq,rfl,rfl,HQ⟩:=hrel
   clear H2 Hb2 q0 q1 q2 q3 q4
   have hlen:=partsTo_length (f:=plainF S f) (fun j=>hsml f j) sh q
   have hszn:=Hszn.out
   have hxl:(xs++sh.1.data.toList++partsTo (plainF S f) sh q).length<=xs.length+4100:=by simp only [List.length_append]; omega
   clear hszn
   by_cases hqc:q < sh.2.1
   ·have hqc':(q:Int) < (sh.2.1:Int):=by omega
    have hcq:=HQ.out.2.box.part q (by omega)
    have hpq:=Hg.out.part q hqc
    have hrow3:=HQ.out.1.row
    obtain ⟨z1,z2⟩:=sepT_size q
    have h63:(xs++sh.1.data.toList++partsTo (plainF S f) sh q).length+(sepT q).size<=maxLen:=by unfold maxLen; omega
    have hby:(xs++sh.1.data.toList++partsTo (plainF S f) sh q).length+(sepT q).size<=140737488355328:=by omega
    have hbase:B<=wr.heap.size:=Nat.le_trans hBw HQ.out.1.below.size
    have HN:Hid (partsTo (plainF S f) sh (q+1)=partsTo (plainF S f) sh q++(sepT q).data.toList++plainF S f (partAt sh q)):=by show _=_; rw [sepT_bytes]; rfl
    have hs1:(⟨#[44,32]⟩:ByteArray)=sepT (q+1):=rfl
    have Hs1:=hide hs1
    have Hpl:=hide (hsml f (partAt sh q))
    clear hs1
    generalize hYs:xs++sh.1.data.toList++partsTo (plainF S f) sh q=ys at *
    have HYs:=hide hYs
    clear hYs
    generalize sepT q=sq at *
    have Hz2:=hide z2
    clear z2
    generalize partAt sh q=pq at *
    go_upto_region 10 with (at_builtin; go_must (refine Lib.wpList_append_own_string _ rfl _ _ 186 9 rfl B 5 i0 Tryz.underlying186 Tryz.underlying9 hi0 hz0 hz1 hz2 _ _ _ rfl hrow3 sq rfl h63 hby hbase ?_); intro v3 w3 hown3 hg3 hnil3)
    have H3:=hide (HQ.out.1.put hZ hBw (by rw [<- Hz2.out,<- strCells_bytes]; exact hown3) hg3)
    have Hb3:=hide (HQ.out.2.kept ((Kept.refl _).grown hrow3 hg3))
    clear hown3 hg3 hnil3
    have hl2:sq.data.toList.length<=2:=by rw [<- Hz2.out]; exact z1
    have HC4:=hide (HF.out w3 v3 _ pq H3.out hpq (by simp only [List.length_append]; omega))
    clear hl2
    go_wp2_with (go_at_call 123; refine HC4.out.mono ?_; rintro e w4 ⟨v4,rfl,ht4⟩; have H4:=hide ht4; clear ht4)
    go_roundw
    case measure=>simp [intOf]; omega
    case rel =>
     refine ⟨q+1,by omega,by go_num,by rw [<- Hs1.out],?_,(Hb3.out.kept H4.out.kept)⟩
     have h4:=H4.out
     have h3:=H3.out
     have e:xs++sh.1.data.toList++partsTo (plainF S f) sh (q+1)=ys++sq.data.toList++plainF S f pq:=by rw [HN.out,<- HYs.out]; simp only [List.append_assoc]
     rw [e]
     exact ⟨h4.web,h4.row,h3.below.trans h4.below,h3.kept.trans h4.kept⟩
   ·obtain rfl:q=sh.2.1:=by omega
    have hge:¬ (sh.2.1:Int) < (sh.2.1:Int):=by omega
    have H5:=hide (HQ.out.1.alloc hBw (.cells #[.int .u8 41] 5))
    have hrow5:=H5.out.row
    have hone:∀ u ∈ ([.int .u8 41]:List Value),u.oneCell'=true:=fun u hu=>by
     simp at hu
     subst hu
     rfl
    have h63:(xs++sh.1.data.toList++partsTo (plainF S f) sh sh.2.1).length+1<=maxLen:=by unfold maxLen; omega
    have hby:((xs++sh.1.data.toList++partsTo (plainF S f) sh sh.2.1).length+1) * 1<=140737488355328:=by omega
    have hbase:B<=(wr.alloc (.cells #[.int .u8 41] 5)).heap.size:=Nat.le_trans hBw H5.out.below.size
    have HE2:Hid (xs++plainF S (f+1) i=xs++sh.1.data.toList++partsTo (plainF S f) sh sh.2.1++[41]):=by show _=_; rw [HE.out]; simp only [List.append_assoc]
    clear HQ HE
    generalize xs++sh.1.data.toList++partsTo (plainF S f) sh sh.2.1=ys at *
    go_wp2_with (at_builtin; go_must (refine wpList_append_lies _ rfl _ _ 186 rfl B 5 i0 (.int .u8 0) 1 1 Tryz.underlying186 hi0 hz0 hz1 hz2 rfl (by decide) _ _ _ rfl hrow5 ⟨wr.heap.size,0,none⟩ 1 1 [.int .u8 41] rfl rfl (cell_one_new _ _ _) hone (by decide) h63 hby hbase _ rfl ?_); intro g6 cap6 w6 hown6 hg6 hat6 hlt6)
    go_ret
    refine ⟨_,rfl,?_⟩
    rw [HE2.out]
    exact H5.out.put hZ hBw hown6 hg6
theorem plain_ok:∀ f,PlainOK f
 | 0=>fun _ _ _ _ _ _ _ _ _ _ _ _ _ _ h=>by omega
 | f+1=>plain_succ f (plain_ok f)
end Go.Proofs.YtmfkpllnmmfpiaaGreatDoor
