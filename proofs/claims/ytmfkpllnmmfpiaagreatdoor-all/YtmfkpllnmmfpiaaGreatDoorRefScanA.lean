/- Row, PowLaw, Sem, RefText, RefScan -/
import Derived.Test.YtmfkpllnmmfpiaaGreatDoorCards
import Derived.Test.YtmfkpllnmmfpiaaGreatDoorTie
import Derived.Test.YtmfkpllnmmfpiaaGreatDoorBookA
import Derived.ProofKit
import Derived.OpenShut
import Derived.Deep.DeepHandedRow
import Derived.Lib.LaidTab
import Derived.LaidSub
import Derived.Test.YtmfkpllnmmfpiaaGreatDoorWebHeapA
import Derived.Test.YtmfkpllnmmfpiaaGreatDoorRangeA
set_option maxHeartbeats 16000000
set_option maxRecDepth 100000
namespace Go.Proofs.YtmfkpllnmmfpiaaGreatDoor
open Go.ChangeShapes Go.WideShapes Go.ChangeAt Go.RowKit
theorem own:ownKnob Tryz.prog.godebug=none:=by kernel_rfl
theorem errnos_place:Tryz.prog.globalNamed "akin/akin.errnos"=some 0:=by kernel_rfl
theorem errnos_type:(Tryz.prog.globals[0]?).map (·.type)=some 155:=by kernel_rfl
theorem errTab_of {W:World} (h:laidMetH Tryz.prog [("akin/akin.errnos",Rows.laid_akin_akin_errnos)] W):ErrTab W:=by
 have h1:laidMet Tryz.prog [("akin/akin.errnos",Lib.tabData .i64 errZ)] W:=(laidMetH_iff.1 h).1
 have ht:Lib.TabIs Tryz.prog W "akin/akin.errnos" .i64 errZ:=Lib.tabIs_of_head errnos_place errnos_type Tryz.underlying155 Tryz.underlying47 (by kernel_rfl) (by kernel_rfl) h1
 have hc:=fun i hi=>ht.cell errnos_place i hi
 exact ⟨World.block_lt_of_cell? _ _ (hc 0 (by decide)),hc⟩
noncomputable def laidWorld (os:Os):World :=
 { World.holding Tryz.prog os ⟨#[],#[],[]⟩ with heap:=(World.holding Tryz.prog os ⟨#[],#[],[]⟩).heap.modify 0 fun
   | .cells _ t frozen=>.cells #[.int .i64 0,.int .i64 1,.int .i64 2,.int .i64 3,.int .i64 3,.int .i64 3] t frozen
   | o=>o }
def Only (Q:ByteArray->Nat->Prop) (S:WS):Prop:=∀ (i:Nat) (s:Sh),S.shapes[i]?=some s->Q s.1 s.2.1
theorem addAll_length {α:Type} {f:WS->α->Nat × WS}:∀ (l:List α) (S:WS),(addAll f S l).1.length=l.length
 | [],_=>rfl
 | x :: l,S=>by simp [addAll,addAll_length l]
theorem sayM_shapes {n:Nat} {S:WS} (h:Web S) {x:Snt n} (hx:NarrowS x) (hr:S.shapes.length+sizeS x<=400):(sayM S x).shapes=(Go.Proofs.YtmfkpllnmmfpiaaGreatDoor.addM n (Go.Proofs.YtmfkpllnmmfpiaaGreatDoor.addM n S x.left).2 x.right).2.shapes:=by
 obtain ⟨⟨a1,a2⟩,a3⟩:=addM_end n S x.left h hx.1
 have a4:=addM_adds n S x.left h.base.inv hx.1
 obtain ⟨⟨b1,b2⟩,b3⟩:=addM_end n (Go.Proofs.YtmfkpllnmmfpiaaGreatDoor.addM n S x.left).2 x.right a1 hx.2
 have b4:=addM_adds n (Go.Proofs.YtmfkpllnmmfpiaaGreatDoor.addM n S x.left).2 x.right a1.base.inv hx.2
 unfold sizeS at hr
 unfold sayM
 simp only
 generalize (Go.Proofs.YtmfkpllnmmfpiaaGreatDoor.addM n S x.left).2=P at *
 generalize (Go.Proofs.YtmfkpllnmmfpiaaGreatDoor.addM n S x.left).1=i at *
 generalize (Go.Proofs.YtmfkpllnmmfpiaaGreatDoor.addM n P x.right).2=Q at *
 generalize (Go.Proofs.YtmfkpllnmmfpiaaGreatDoor.addM n P x.right).1=j at *
 have l1:=a4.hi
 have l2:=b4.hi
 have l3:=b4.lo
 have e1:=b1.base.inv.len
 split
 ·have hJ:=b1.joining (i:=i) (j:=j) (by have:=a4.lt; omega) (by have:=b4.lt; omega)
  exact (joinF_end _ _ _ hJ (by simp only [noteM]; omega) (Nat.le_refl (need [(i,j)] (noteM Q (0,i,j))))).joined.shapes
 ·rfl
section
variable {S:WS} {R:Nat->Nat->Prop}
end
inductive Trm where
 | node (name:ByteArray) (parts:List Trm):Trm
def erase:(n:Nat)->Tm n->Trm
 | 0,t=>nomatch t
 | n+1,t=>.node t.name (t.parts.map (erase n))
inductive Part:Trm->Trm->Prop where
 | self (t:Trm):Part t t
 | within {nm:ByteArray} {ps:List Trm} {p t:Trm}:p ∈ ps->Part t p->Part t (.node nm ps)
structure ST where
 eq:Bool
 l:Trm
 r:Trm
def known (L:List ST) (t:Trm):Prop:=∃ s ∈ L,Part t s.l\/Part t s.r
structure ClosedT (L:List ST) (R:Trm->Trm->Prop):Prop where
 refl:∀ t,R t t
 symm:∀ t u,R t u->R u t
 trans:∀ t u v,R t u->R u v->R t v
 said:∀ s ∈ L,s.eq=true->R s.l s.r
 cong:∀ (nm:ByteArray) (ps qs:List Trm),known L (.node nm ps)->known L (.node nm qs)->ps.length=qs.length->(∀ (i:Nat) (p q:Trm),ps[i]?=some p->qs[i]?=some q->R p q)->R (.node nm ps) (.node nm qs)
def EqT (L:List ST) (t u:Trm):Prop:=∀ R,ClosedT L R->R t u
def ClashT (L:List ST):Prop:=∃ s ∈ L,s.eq=false/\EqT L s.l s.r
theorem known.mono {L M:List ST} (h:∀ s ∈ L,s ∈ M) {t:Trm} (k:known L t):known M t:=let ⟨s,hs,hp⟩:=k; ⟨s,h s hs,hp⟩
theorem ClosedT.mono {L M:List ST} (h:∀ s ∈ L,s ∈ M) {R:Trm->Trm->Prop} (k:ClosedT M R):ClosedT L R :=
 ⟨k.refl,k.symm,k.trans,fun s hs=>k.said s (h s hs),fun nm ps qs k1 k2=>k.cong nm ps qs (k1.mono h) (k2.mono h)⟩
theorem EqT.mono {L M:List ST} (h:∀ s ∈ L,s ∈ M) {t u:Trm} (k:EqT L t u):EqT M t u:=fun R hR=>k R (hR.mono h)
theorem ClashT.mono {L M:List ST} (h:∀ s ∈ L,s ∈ M) (k:ClashT L):ClashT M:=let ⟨s,hs,h0,he⟩:=k; ⟨s,h s hs,h0,he.mono h⟩
inductive DenE (S:WS):Trm->Nat->Prop where
 | mk {nm:ByteArray} {ps:List Trm} {ks:List Nat} {i:Nat}:S.shapes[i]?=some (shapeOf nm ks)->ps.length=ks.length->ks.length<=3->(∀ (j:Nat) (p:Trm) (k:Nat),ps[j]?=some p->ks[j]?=some k->DenE S p k)->DenE S (.node nm ps) i
theorem DenE.mono {S T:WS} (h:∀ (i:Nat) (s:Sh),S.shapes[i]?=some s->T.shapes[i]?=some s) {t:Trm} {i:Nat} (k:DenE S t i):DenE T t i:=by
 induction k with
 | mk h1 h2 h3 _ ih=>exact .mk (h _ _ h1) h2 h3 ih
theorem DenE.lt {S:WS} {t:Trm} {i:Nat} (h:DenE S t i):i < S.shapes.length:=by
 cases h with
 | mk h1 _ _ _=>exact (List.getElem?_eq_some_iff.1 h1).1
theorem AllIs.at {α β:Type} {R:α->β->Prop}:∀ {xs:List α} {ys:List β},AllIs R xs ys->∀ (j:Nat) (a:α) (b:β),xs[j]?=some a->ys[j]?=some b->R a b
 | x :: _,y :: _,h,0,a,b,ha,hb=>by
  simp only [List.getElem?_cons_zero,Option.some.injEq] at ha hb
  subst ha hb
  exact h.1
 | _ :: _,_ :: _,h,j+1,a,b,ha,hb=>AllIs.at h.2 j a b (by simpa using ha) (by simpa using hb)
 | [],[],_,j,_,_,ha,_=>by simp at ha
 | [],_ :: _,h,_,_,_,_,_=>h.elim
 | _ :: _,[],h,_,_,_,_,_=>h.elim
theorem AllIs.fromR {α β:Type} {R:α->β->Prop}:∀ {xs:List α} {ys:List β},AllIs R xs ys->∀ y ∈ ys,∃ x ∈ xs,R x y
 | x :: _,y :: _,h,b,hb=>by
  simp only [List.mem_cons] at hb
  rcases hb with rfl | hb
  ·exact ⟨x,by simp,h.1⟩
  ·obtain ⟨a,ha,hr⟩:=AllIs.fromR h.2 b hb
   exact ⟨a,by simp [ha],hr⟩
 | [],[],_,_,hb=>by cases hb
 | [],_ :: _,h,_,_=>h.elim
 | _ :: _,[],h,_,_=>h.elim
theorem AllIs.fromL {α β:Type} {R:α->β->Prop}:∀ {xs:List α} {ys:List β},AllIs R xs ys->∀ x ∈ xs,∃ y ∈ ys,R x y
 | x :: _,y :: _,h,b,hb=>by
  simp only [List.mem_cons] at hb
  rcases hb with rfl | hb
  ·exact ⟨y,by simp,h.1⟩
  ·obtain ⟨a,ha,hr⟩:=AllIs.fromL h.2 b hb
   exact ⟨a,by simp [ha],hr⟩
 | [],[],_,_,hb=>by cases hb
 | [],_ :: _,h,_,_=>h.elim
 | _ :: _,[],h,_,_=>h.elim
theorem Den.erase {S:WS}:∀ {n:Nat} {t:Tm n} {i:Nat},Narrow n t->Den S n t i->DenE S (Go.Proofs.YtmfkpllnmmfpiaaGreatDoor.erase n t) i
 | 0,_,_,_,h=>h.elim
 | n+1,t,i,hn,⟨ks,h1,h2⟩=>by
  have hl:=h2.length
  refine .mk h1 (by simpa using hl) (by rw [<- hl]; exact hn.2.1) fun j p k hp hk=>?_
  rw [List.getElem?_map] at hp
  obtain ⟨x,hx,rfl⟩:=Option.map_eq_some_iff.1 hp
  exact Den.erase (allOf_mem hn.2.2 (List.mem_of_getElem? hx)) (h2.at j x k hx hk)
theorem DenE.part {S:WS} {t u:Trm} (hp:Part u t):∀ {i:Nat},DenE S t i->∃ j,DenE S u j:=by
 induction hp with
 | self _=>exact fun {i} h=>⟨i,h⟩
 | within hm _ ih =>
  intro i h
  cases h with
  | mk h1 h2 _ h4 =>
   obtain ⟨j,hj⟩:=List.getElem?_of_mem hm
   have hlt:=(List.getElem?_eq_some_iff.1 hj).1
   rw [h2] at hlt
   exact ih (h4 j _ _ hj (List.getElem?_eq_getElem hlt))
theorem list_ext {α:Type} {l m:List α} (hl:l.length=m.length) (h:∀ (j:Nat) (a b:α),l[j]?=some a->m[j]?=some b->a=b):l=m:=by
 refine List.ext_getElem? fun j=>?_
 by_cases hj:j < l.length
 ·have hj':j < m.length:=by omega
  rw [List.getElem?_eq_getElem hj,List.getElem?_eq_getElem hj',h j _ _ (List.getElem?_eq_getElem hj) (List.getElem?_eq_getElem hj')]
 ·rw [List.getElem?_eq_none (by omega),List.getElem?_eq_none (by omega)]
theorem DenE.inj {S:WS} (hB:Base S) {t:Trm} {i:Nat} (h:DenE S t i):∀ {j:Nat},DenE S t j->i=j:=by
 induction h with
 | @mk nm ps ks i h1 h2 h3 _ ih =>
  intro j k
  cases k with
  | @mk _ _ ls _ g1 g2 g3 g4 =>
   have e:ks=ls:=list_ext (by omega) (fun n a b ha hb=>by
    have hn:=(List.getElem?_eq_some_iff.1 ha).1
    rw [<- h2] at hn
    have hp:=List.getElem?_eq_getElem hn
    exact ih n _ a hp ha (g4 n _ b hp hb))
   subst e
   exact hB.inj h1 g1
theorem shapeOf_inj {nm nm':ByteArray} {ks ls:List Nat} (hk:ks.length<=3) (h:shapeOf nm ks=shapeOf nm' ls):nm=nm'/\ks=ls:=by
 unfold shapeOf at h
 simp only [Prod.mk.injEq] at h
 obtain ⟨h0,h1,h2,h3,h4⟩:=h
 refine ⟨h0,list_ext h1 fun j a b ha hb=>?_⟩
 have hj:=(List.getElem?_eq_some_iff.1 ha).1
 rw [List.getD_eq_getElem?_getD,List.getD_eq_getElem?_getD] at h2 h3 h4
 match j,hj with
 | 0,_=>rw [ha,hb] at h2; exact h2
 | 1,_=>rw [ha,hb] at h3; exact h3
 | 2,_=>rw [ha,hb] at h4; exact h4
 | j+3,hj=>omega
theorem DenE.fn {S:WS} {t:Trm} {i:Nat} (h:DenE S t i):∀ {u:Trm},DenE S u i->t=u:=by
 induction h with
 | mk h1 h2 h3 _ ih =>
  intro u k
  cases k with
  | mk g1 g2 g3 g4 =>
   rw [h1] at g1
   obtain ⟨rfl,rfl⟩:=shapeOf_inj h3 (Option.some.inj g1)
   congr 1
   exact list_ext (by omega) (fun n a b ha hb=>by
    have hn:=(List.getElem?_eq_some_iff.1 ha).1
    rw [h2] at hn
    have hp:=List.getElem?_eq_getElem hn
    exact ih n a _ ha hp (g4 n b _ hb hp))
structure Holds (S:WS) (L:List ST):Prop where
 fine:Fine S
 num:∀ t,known L t->∃ i,DenE S t i
 term:∀ i,i < S.shapes.length->∃ t,known L t/\DenE S t i
 said:AllIs (fun (x:Nat × Nat × Nat) (s:ST)=>x.1=(if s.eq then 0 else 1)/\DenE S s.l x.2.1/\DenE S s.r x.2.2) S.said L
theorem Holds.left {S:WS} {L:List ST} (h:Holds S L) {x:Nat × Nat × Nat} (hx:x ∈ S.said):∃ s ∈ L,x.1=(if s.eq then 0 else 1)/\DenE S s.l x.2.1/\DenE S s.r x.2.2:=h.said.fromL x hx
theorem partAt_shapeOf {nm:ByteArray} {ks:List Nat} (h3:ks.length<=3) {j k:Nat} (hj:ks[j]?=some k):partAt (shapeOf nm ks) j=k:=by
 have hlt:=(List.getElem?_eq_some_iff.1 hj).1
 match j,hj,hlt with
 | 0,hj,_=>show ks.getD 0 0=k; rw [List.getD_eq_getElem?_getD,hj]; rfl
 | 1,hj,_=>show ks.getD 1 0=k; rw [List.getD_eq_getElem?_getD,hj]; rfl
 | 2,hj,_=>show ks.getD 2 0=k; rw [List.getD_eq_getElem?_getD,hj]; rfl
 | j+3,_,hlt=>omega
theorem Holds.to_web {S:WS} {L:List ST} (h:Holds S L) {R:Trm->Trm->Prop} (hR:ClosedT L R):Closed S (fun i j=>i=j\/∃ t u,DenE S t i/\DenE S u j/\R t u):=by
 have hB:=h.fine.web.base
 refine ⟨fun i=>.inl rfl,fun i j hij=>?_,fun i j k hij hjk=>?_,fun x hx h0=>?_,fun i j s t hi hj h0 h1 hk=>?_⟩
 ·rcases hij with rfl | ⟨t,u,d1,d2,r⟩
  ·exact .inl rfl
  ·exact .inr ⟨u,t,d2,d1,hR.symm _ _ r⟩
 ·rcases hij with rfl | ⟨t,u,d1,d2,r⟩
  ·exact hjk
  ·rcases hjk with rfl | ⟨u',v,d3,d4,r'⟩
   ·exact .inr ⟨t,u,d1,d2,r⟩
   ·obtain rfl:=d2.fn d3
    exact .inr ⟨t,v,d1,d4,hR.trans _ _ _ r r'⟩
 ·obtain ⟨s,hs,e,d1,d2⟩:=h.left hx
  have he:s.eq=true:=by
   cases hq:s.eq with
   | true=>rfl
   | false=>rw [hq] at e; simp at e; omega
  exact .inr ⟨s.l,s.r,d1,d2,hR.said s hs he⟩
 ·obtain ⟨a,ka,da⟩:=h.term i (List.getElem?_eq_some_iff.1 hi).1
  obtain ⟨b,kb,db⟩:=h.term j (List.getElem?_eq_some_iff.1 hj).1
  refine .inr ⟨a,b,da,db,?_⟩
  cases da with
  | mk g1 g2 g3 g4 =>
   cases db with
   | mk f1 f2 f3 f4 =>
    rename_i nm ps ks nm' qs ls
    rw [g1] at hi
    rw [f1] at hj
    obtain rfl:=(Option.some.inj hi).symm
    obtain rfl:=(Option.some.inj hj).symm
    have h0':nm=nm':=h0
    have h1':ks.length=ls.length:=h1
    subst h0'
    refine hR.cong nm ps qs ka kb (by omega) fun n p q hp hq=>?_
    have n1:=(List.getElem?_eq_some_iff.1 hp).1
    have n2:=(List.getElem?_eq_some_iff.1 hq).1
    have e1:=List.getElem?_eq_getElem (show n < ks.length by omega)
    have e2:=List.getElem?_eq_getElem (show n < ls.length by omega)
    have d1:=g4 n p _ hp e1
    have d2:=f4 n q _ hq e2
    have hr:=hk n (show n < ks.length by omega)
    rw [partAt_shapeOf g3 e1,partAt_shapeOf f3 e2] at hr
    rcases hr with hr | ⟨t,u,d3,d4,r⟩
    ·rw [hr] at d1
     obtain rfl:=d1.fn d2
     exact hR.refl _
    ·obtain rfl:=d1.fn d3
     obtain rfl:=d2.fn d4
     exact r
theorem Holds.to_terms {S:WS} {L:List ST} (h:Holds S L):ClosedT L (fun t u=>t=u\/∃ i j,DenE S t i/\DenE S u j/\classAt S i=classAt S j):=by
 have hB:=h.fine.web.base
 refine ⟨fun t=>.inl rfl,fun t u htu=>?_,fun t u v htu huv=>?_,fun s hs he=>?_,fun nm ps qs k1 k2 hl hp=>?_⟩
 ·rcases htu with rfl | ⟨i,j,d1,d2,e⟩
  ·exact .inl rfl
  ·exact .inr ⟨j,i,d2,d1,e.symm⟩
 ·rcases htu with rfl | ⟨i,j,d1,d2,e⟩
  ·exact huv
  ·rcases huv with rfl | ⟨j',k,d3,d4,e'⟩
   ·exact .inr ⟨i,j,d1,d2,e⟩
   ·obtain rfl:=d2.inj hB d3
    exact .inr ⟨i,k,d1,d4,e.trans e'⟩
 ·obtain ⟨x,hx,h0,d1,d2⟩:=h.said.fromR s hs
  rw [if_pos he] at h0
  exact .inr ⟨_,_,d1,d2,h.fine.web.eqs x hx h0⟩
 ·obtain ⟨i,di⟩:=h.num _ k1
  obtain ⟨j,dj⟩:=h.num _ k2
  refine .inr ⟨i,j,di,dj,?_⟩
  have hi:=di.lt
  have hj:=dj.lt
  have hlen:=hB.inv.len
  rw [h.fine.web.eq_iff (by omega) (by omega)]
  intro R hR
  cases di with
  | mk g1 g2 g3 g4 =>
   cases dj with
   | mk f1 f2 f3 f4 =>
    rename_i ks ls
    refine hR.cong i j _ _ g1 f1 rfl (show ks.length=ls.length by omega) fun n hn=>?_
    have hn':n < ks.length:=hn
    have e1:=List.getElem?_eq_getElem hn'
    have e2:=List.getElem?_eq_getElem (show n < ls.length by omega)
    have p1:=List.getElem?_eq_getElem (show n < ps.length by omega)
    have p2:=List.getElem?_eq_getElem (show n < qs.length by omega)
    rw [partAt_shapeOf g3 e1,partAt_shapeOf f3 e2]
    have d1:=g4 n _ _ p1 e1
    have d2:=f4 n _ _ p2 e2
    rcases hp n _ _ p1 p2 with he | ⟨a,b,d3,d4,e⟩
    ·rw [he] at d1
     rw [d1.inj hB d2]
     exact hR.refl _
    ·obtain rfl:=d1.inj hB d3
     obtain rfl:=d2.inj hB d4
     exact (h.fine.web.eq_iff (by have:=d1.lt; omega) (by have:=d2.lt; omega)).1 e R hR
theorem Holds.eq_iff {S:WS} {L:List ST} (h:Holds S L) {t u:Trm} {i j:Nat} (d1:DenE S t i) (d2:DenE S u j):classAt S i=classAt S j ↔ EqT L t u:=by
 have hB:=h.fine.web.base
 have hlen:=hB.inv.len
 constructor
 ·intro he R hR
  have h1:=(h.fine.web.eq_iff (by have:=d1.lt; omega) (by have:=d2.lt; omega)).1 he _ (h.to_web hR)
  rcases h1 with rfl | ⟨a,b,d3,d4,r⟩
  ·obtain rfl:=d1.fn d2
   exact hR.refl _
  ·obtain rfl:=d1.fn d3
   obtain rfl:=d2.fn d4
   exact r
 ·intro he
  rcases he _ h.to_terms with rfl | ⟨a,b,d3,d4,e⟩
  ·rw [d1.inj hB d2]
  ·obtain rfl:=d1.inj hB d3
   obtain rfl:=d2.inj hB d4
   exact e
theorem Holds.clash_iff {S:WS} {L:List ST} (h:Holds S L):clashM S=true ↔ ClashT L:=by
 unfold clashM
 rw [List.any_eq_true]
 constructor
 ·rintro ⟨x,hx,hb⟩
  obtain ⟨s,hs,e,d1,d2⟩:=h.left hx
  unfold badOf at hb
  simp only [Bool.and_eq_true,beq_iff_eq] at hb
  refine ⟨s,hs,?_,(h.eq_iff d1 d2).1 hb.2⟩
  cases hq:s.eq with
  | false=>rfl
  | true=>rw [hq] at e; simp at e; omega
 ·rintro ⟨s,hs,h0,he⟩
  obtain ⟨x,hx,e,d1,d2⟩:=h.said.fromR s hs
  refine ⟨x,hx,?_⟩
  rw [h0] at e
  unfold badOf
  simp only [Bool.and_eq_true,beq_iff_eq]
  exact ⟨by simpa using e,(h.eq_iff d1 d2).2 he⟩
mutual
/-- A term's plain text,as bytes. -/
def Trm.txt:Trm->List UInt8
 | .node nm ps=>nm.data.toList++(match ps with
  | []=>[]
  | p :: qs=>40 :: (p.txt++Trm.txtR qs))
/-- The parts behind the first one,and the closing bracket. -/
def Trm.txtR:List Trm->List UInt8
 | []=>[41]
 | p :: qs=>44 :: 32 :: (p.txt++Trm.txtR qs)
end
structure NameOK (nm:ByteArray):Prop where
 pos:nm.data.toList ≠ []
 word:∀ c ∈ nm.data.toList,wordB (c.toNat:Int)=true
inductive TrmOK:Trm->Prop where
 | mk {nm:ByteArray} {ps:List Trm}:NameOK nm->(∀ p ∈ ps,TrmOK p)->TrmOK (.node nm ps)
def Stops (A:List UInt8):Prop:=∀ c B,A=c :: B->wordB (c.toNat:Int)=false/\c ≠ 40
theorem word_split:∀ {l m A B:List UInt8},(∀ c ∈ l,wordB (c.toNat:Int)=true)->(∀ c ∈ m,wordB (c.toNat:Int)=true)->(∀ c C,A=c :: C->wordB (c.toNat:Int)=false)->(∀ c C,B=c :: C->wordB (c.toNat:Int)=false)->l++A=m++B->l=m/\A=B
 | [],[],A,B,_,_,_,_,h=>⟨rfl,h⟩
 | [],d :: m,A,B,_,hm,hA,_,h=>by
  have h1:=hA d (m++B) h
  rw [hm d (by simp)] at h1
  cases h1
 | c :: l,[],A,B,hl,_,_,hB,h=>by
  have h1:=hB c (l++A) h.symm
  rw [hl c (by simp)] at h1
  cases h1
 | c :: l,d :: m,A,B,hl,hm,hA,hB,h=>by
  simp only [List.cons_append,List.cons.injEq] at h
  obtain ⟨rfl,h2⟩:=h
  obtain ⟨e1,e2⟩:=word_split (fun x hx=>hl x (by simp [hx])) (fun x hx=>hm x (by simp [hx])) hA hB h2
  exact ⟨by rw [e1],e2⟩
theorem stops_rest (qs:List Trm) (A:List UInt8):Stops (Trm.txtR qs++A):=fun c B h=>by
 cases qs with
 | nil=>simp only [Trm.txtR,List.cons_append,List.nil_append,List.cons.injEq] at h; rw [<- h.1]; decide
 | cons p qs=>simp only [Trm.txtR,List.cons_append,List.cons.injEq] at h; rw [<- h.1]; decide
mutual
theorem txt_inj:∀ (t u:Trm) (A B:List UInt8),TrmOK t->TrmOK u->Stops A->Stops B->t.txt++A=u.txt++B->t=u/\A=B
 | .node nm ps,.node nm' qs,A,B,ht,hu,hA,hB,h=>by
  cases ht with
  | mk hn hp =>
   cases hu with
   | mk hn' hq =>
    match ps,qs,hp,hq,h with
    | [],[],_,_,h =>
     simp only [Trm.txt,List.append_nil] at h
     obtain ⟨e1,e2⟩:=word_split hn.word hn'.word (fun c C e=>(hA c C e).1) (fun c C e=>(hB c C e).1) h
     exact ⟨by rw [ByteArray.ext (Array.ext' e1)],e2⟩
    | [],q :: qs,_,_,h =>
     simp only [Trm.txt,List.append_nil,List.append_assoc,List.cons_append] at h
     obtain ⟨_,e2⟩:=word_split hn.word hn'.word (fun c C e=>(hA c C e).1) (fun c C e=>by cases e; decide) h
     exact absurd rfl (hA _ _ e2).2
    | p :: ps,[],_,_,h =>
     simp only [Trm.txt,List.append_nil,List.append_assoc,List.cons_append] at h
     obtain ⟨_,e2⟩:=word_split hn.word hn'.word (fun c C e=>by cases e; decide) (fun c C e=>(hB c C e).1) h
     exact absurd rfl (hB _ _ e2.symm).2
    | p :: ps,q :: qs,hp,hq,h =>
     simp only [Trm.txt,List.append_assoc,List.cons_append] at h
     obtain ⟨e1,e2⟩:=word_split hn.word hn'.word (fun c C e=>by cases e; decide) (fun c C e=>by cases e; decide) h
     simp only [List.cons.injEq,true_and] at e2
     obtain ⟨e3,e4⟩:=txt_inj p q _ _ (hp p (by simp)) (hq q (by simp)) (stops_rest ps A) (stops_rest qs B) e2
     obtain ⟨e5,e6⟩:=txtR_inj ps qs A B (fun x hx=>hp x (by simp [hx])) (fun x hx=>hq x (by simp [hx])) e4
     exact ⟨by rw [ByteArray.ext (Array.ext' e1),e3,e5],e6⟩
theorem txtR_inj:∀ (ps qs:List Trm) (A B:List UInt8),(∀ p ∈ ps,TrmOK p)->(∀ p ∈ qs,TrmOK p)->Trm.txtR ps++A=Trm.txtR qs++B->ps=qs/\A=B
 | [],[],A,B,_,_,h=>by
  simp only [Trm.txtR,List.cons_append,List.nil_append,List.cons.injEq,true_and] at h
  exact ⟨rfl,h⟩
 | [],q :: qs,A,B,_,_,h=>by
  simp only [Trm.txtR,List.cons_append,List.nil_append,List.cons.injEq] at h
  exact absurd h.1 (by decide)
 | p :: ps,[],A,B,_,_,h=>by
  simp only [Trm.txtR,List.cons_append,List.nil_append,List.cons.injEq] at h
  exact absurd h.1 (by decide)
 | p :: ps,q :: qs,A,B,hp,hq,h=>by
  simp only [Trm.txtR,List.cons_append,List.cons.injEq,true_and,List.append_assoc] at h
  obtain ⟨e3,e4⟩:=txt_inj p q _ _ (hp p (by simp)) (hq q (by simp)) (stops_rest ps A) (stops_rest qs B) h
  obtain ⟨e5,e6⟩:=txtR_inj ps qs A B (fun x hx=>hp x (by simp [hx])) (fun x hx=>hq x (by simp [hx])) e4
  exact ⟨by rw [e3,e5],e6⟩
end
def Trm.text (t:Trm):ByteArray:=⟨t.txt.toArray⟩
theorem text_inj {t u:Trm} (ht:TrmOK t) (hu:TrmOK u) (h:t.text=u.text):t=u:=by
 have e:t.txt=u.txt:=by
  have:=congrArg (fun b:ByteArray=>b.data.toList) h
  simpa [Trm.text] using this
 exact (txt_inj t u [] [] ht hu (fun _ _ h=>by cases h) (fun _ _ h=>by cases h) (by rw [e])).1
structure Sc where
 pos:Nat
 bad:Int
 out:Int
def blanksR (s:ByteArray) (x:Sc):Sc:={ x with pos:=endOf blankB s x.pos }
def noR (x:Sc):Sc:=if x.bad < 0 then { x with bad:=x.pos } else x
def isR (s:ByteArray) (c:Int) (x:Sc):Bool:=decide (x.bad < 0) && decide (endOf blankB s x.pos < s.size) && decide (byteAt s (endOf blankB s x.pos)=c)
def noName:ByteArray:=⟨#[]⟩
def nameR (s:ByteArray) (x:Sc):ByteArray × Sc :=
 if 0<=x.bad\/s.size<=endOf blankB s x.pos then (noName,noR (blanksR s x))
 else if letterB (byteAt s (endOf blankB s x.pos)) then (s.extract (endOf blankB s x.pos) (endOf wordB s (endOf blankB s x.pos)),{ x with pos:=endOf wordB s (endOf blankB s x.pos) })
 else (noName,noR (blanksR s x))
def farR (a:Nat) (x:Sc):Sc:=if x.out < 0\/(a:Int) < x.out then { x with out:=a } else x
def Sc.next (x:Sc):Sc:={ x with pos:=x.pos+1 }
def partsR (s:ByteArray) (f:Sc->Trm × Sc):Nat->Sc->List Trm × Sc
 | 0,x=>([],x)
 | m+1,x=>if isR s 44 (f x).2 then ((f x).1 :: (partsR s f m (blanksR s (f x).2).next).1,(partsR s f m (blanksR s (f x).2).next).2) else ([(f x).1],blanksR s (f x).2)
def closeR (s:ByteArray) (a:Nat) (r:List Trm × Sc):Sc :=
 let z:=if isR s 41 r.2 then (blanksR s r.2).next else (noR (blanksR s r.2)).next
 if 3 < r.1.length then farR a z else z
def headR (s:ByteArray) (d:Nat) (x:Sc):ByteArray × Sc :=
 let r:=nameR s (blanksR s x)
 (r.1,if 8 < r.1.size\/12 < d then farR (blanksR s x).pos r.2 else r.2)
def termR (s:ByteArray):Nat->Nat->Sc->Trm × Sc
 | 0,_,x=>(.node noName [],x)
 | n+1,d,x =>
  if isR s 40 (headR s d x).2 then
   (.node (headR s d x).1 (partsR s (termR s n (d+1)) (s.size+1) (blanksR s (headR s d x).2).next).1,
    closeR s (blanksR s x).pos (partsR s (termR s n (d+1)) (s.size+1) (blanksR s (headR s d x).2).next))
  else (.node (headR s d x).1 [],blanksR s (headR s d x).2)
def signR (s:ByteArray) (x:Sc):Bool × Sc :=
 if isR s 61 x then (true,(blanksR s x).next)
 else if isR s 33 x then
  (false,(if s.size<=(blanksR s x).next.pos\/byteAt s (blanksR s x).next.pos ≠ 61 then noR (blanksR s x).next else (blanksR s x).next).next)
 else (false,noR (blanksR s x))
structure Read3 where
 l:Trm
 eq:Bool
 r:Trm
 x:Sc
def scanR (s:ByteArray):Read3 :=
 let a:=termR s (s.size+1) 0 ⟨0,-1,-1⟩
 let b:=signR s a.2
 let c:=termR s (s.size+1) 0 b.2
 let d:=blanksR s c.2
 ⟨a.1,b.1,c.1,if d.bad < 0/\d.pos < s.size then noR d else d⟩
def refRead (s:ByteArray):Option ST × Int × Int :=
 if 200 < s.size then (none,1,0)
 else if 0<=(scanR s).x.bad then (none,2,(scanR s).x.bad)
 else if 0<=(scanR s).x.out then (none,3,(scanR s).x.out)
 else (some ⟨(scanR s).eq,(scanR s).l,(scanR s).r⟩,0,0)
theorem blank_again (s:ByteArray) (i:Nat):endOf blankB s (endOf blankB s i)=endOf blankB s i:=by
 have key:∀ n i,¬ (runTo blankB s n i < s.size/\blankB (byteAt s (runTo blankB s n i))=true)\/runTo blankB s n i=i+n:=by
  intro n
  induction n with
  | zero=>intro i; exact .inr rfl
  | succ n ih =>
   intro i
   unfold runTo
   by_cases h:i < s.size/\blankB (byteAt s i)=true
   ·rw [if_pos h]
    rcases ih (i+1) with h1 | h1
    ·exact .inl h1
    ·exact .inr (by rw [h1]; omega)
   ·rw [if_neg h]
    exact .inl h
 refine endOf_stop fun hh=>?_
 have hk:=key (s.size - i) i
 rcases hk with h | h
 ·exact h hh
 ·have h2:endOf blankB s i=i+(s.size - i):=h
  have h3:=hh.1
  rw [h2] at h3
  omega
theorem wordAt_again (s:ByteArray) (i:Nat):wordAt s (endOf blankB s i)=wordAt s i:=by
 unfold wordAt
 rw [blank_again]
theorem wordAt_from (s:ByteArray) (i:Nat):(wordAt s i).2.1=endOf blankB s i:=by
 unfold wordAt
 simp only
 repeat' split
 all_goals first | rfl | omega
theorem kindOf_letter {b:Int} (h:letterB b=true):kindOf b=0:=by unfold kindOf; rw [if_pos h]
theorem kindOf_zero {b:Int}:kindOf b=0 ↔ letterB b=true:=by
 unfold kindOf
 by_cases h:letterB b=true
 ·rw [if_pos h]; exact ⟨fun _=>h,fun _=>rfl⟩
 ·rw [if_neg h]
  refine ⟨fun e=>?_,fun e=>absurd e h⟩
  repeat' split at e
  all_goals cases e
theorem not_letter {b:Int} (h:b < 97):¬ letterB b=true:=by
 unfold letterB
 simp
 omega
theorem kindOf_1 (b:Int):kindOf b=1 ↔ b=40:=by
 by_cases h:letterB b=true
 ·rw [kindOf_letter h]
  exact ⟨fun e=>(by cases e),fun e=>absurd h (not_letter (by omega))⟩
 ·unfold kindOf
  rw [if_neg h]
  repeat' split
  all_goals (constructor <;> intro e <;> first | assumption | (exfalso; omega) | rfl)
theorem kindOf_2 (b:Int):kindOf b=2 ↔ b=41:=by
 by_cases h:letterB b=true
 ·rw [kindOf_letter h]
  exact ⟨fun e=>(by cases e),fun e=>absurd h (not_letter (by omega))⟩
 ·unfold kindOf
  rw [if_neg h]
  repeat' split
  all_goals (constructor <;> intro e <;> first | assumption | (exfalso; omega) | rfl)
theorem kindOf_3 (b:Int):kindOf b=3 ↔ b=44:=by
 by_cases h:letterB b=true
 ·rw [kindOf_letter h]
  exact ⟨fun e=>(by cases e),fun e=>absurd h (not_letter (by omega))⟩
 ·unfold kindOf
  rw [if_neg h]
  repeat' split
  all_goals (constructor <;> intro e <;> first | assumption | (exfalso; omega) | rfl)
theorem kindOf_4 (b:Int):kindOf b=4 ↔ b=61:=by
 by_cases h:letterB b=true
 ·rw [kindOf_letter h]
  exact ⟨fun e=>(by cases e),fun e=>absurd h (not_letter (by omega))⟩
 ·unfold kindOf
  rw [if_neg h]
  repeat' split
  all_goals (constructor <;> intro e <;> first | assumption | (exfalso; omega) | rfl)
theorem kindOf_6 (b:Int):kindOf b=6 ↔ b=33:=by
 by_cases h:letterB b=true
 ·rw [kindOf_letter h]
  exact ⟨fun e=>(by cases e),fun e=>absurd h (not_letter (by omega))⟩
 ·unfold kindOf
  rw [if_neg h]
  repeat' split
  all_goals (constructor <;> intro e <;> first | assumption | (exfalso; omega) | rfl)
theorem kindOf_not (b:Int):kindOf b ≠ 5/\kindOf b ≠ 7:=by
 unfold kindOf
 repeat' split
 all_goals (constructor <;> decide)
theorem byteAt_past {s:ByteArray} {i:Nat} (h:s.size<=i):byteAt s i=0:=by
 unfold byteAt
 rw [List.getD_eq_getElem?_getD,List.getElem?_eq_none (by simpa using h)]
 rfl
theorem word_sig {s:ByteArray} {i:Nat} {k c:Int} (hkc:∀ b,kindOf b=k ↔ b=c) (h0:k ≠ 0) (h5:k ≠ 5) (h6:k ≠ 6) (h7:k ≠ 7) (hc:c ≠ 0):((wordAt s i).1=k ↔ endOf blankB s i < s.size/\byteAt s (endOf blankB s i)=c)/\((wordAt s i).1=k->(wordAt s i).2.2=endOf blankB s i+1):=by
 unfold wordAt
 simp only
 generalize endOf blankB s i=f
 by_cases e0:f=s.size
 ·rw [if_pos e0]
  exact ⟨⟨fun h=>absurd h.symm h7,fun h=>by omega⟩,fun h=>absurd h.symm h7⟩
 ·rw [if_neg e0]
  by_cases e1:kindOf (byteAt s f)=0
  ·rw [if_pos e1]
   refine ⟨⟨fun h=>absurd h.symm h0,fun h=>?_⟩,fun h=>absurd h.symm h0⟩
   have:=(hkc _).2 h.2
   exact absurd (this.symm.trans e1) h0
  ·rw [if_neg e1]
   by_cases e2:kindOf (byteAt s f)=6/\f+1 < s.size/\byteAt s (f+1)=61
   ·rw [if_pos e2]
    refine ⟨⟨fun h=>absurd h.symm h5,fun h=>?_⟩,fun h=>absurd h.symm h5⟩
    have:=(hkc _).2 h.2
    exact absurd (this.symm.trans e2.1) h6
   ·rw [if_neg e2]
    refine ⟨⟨fun h=>?_,fun h=>(hkc _).2 h.2⟩,fun _=>rfl⟩
    have h3:=(hkc _).1 h
    by_cases h4:f < s.size
    ·exact ⟨h4,h3⟩
    ·rw [byteAt_past (by omega)] at h3
     exact absurd h3.symm hc
end Go.Proofs.YtmfkpllnmmfpiaaGreatDoor
