/- SayModel, Sentence, Say, Say2 -/
import Derived.Test.YtmfkpllnmmfpiaaGreatDoorJoinLaw2A
import Derived.Test.YtmfkpllnmmfpiaaGreatDoorRangeA
import Derived.Test.YtmfkpllnmmfpiaaGreatDoorJoinA
import Derived.Laws.EntriesVeiled
import Derived.Deep.DeepMust
set_option maxHeartbeats 16000000
set_option maxRecDepth 100000
namespace Go.Proofs.YtmfkpllnmmfpiaaGreatDoor
open Go.RowKit
def Den (S:WS):(n:Nat)->Tm n->Nat->Prop
 | 0,_,_=>False
 | n+1,t,i=>∃ ks,S.shapes[i]?=some (shapeOf t.name ks)/\AllIs (Den S n) t.parts ks
theorem Den.mono {S T:WS} (h:∀ (i:Nat) (s:Sh),S.shapes[i]?=some s->T.shapes[i]?=some s):∀ {n:Nat} {t:Tm n} {i:Nat},Den S n t i->Den T n t i
 | 0,_,_,hd=>hd.elim
 | _+1,_,_,⟨ks,h1,h2⟩=>⟨ks,h _ _ h1,h2.mono fun _ _ hd=>hd.mono h⟩
theorem Den.same {S T:WS} (h:T.shapes=S.shapes) {n:Nat} {t:Tm n} {i:Nat} (hd:Den S n t i):Den T n t i:=hd.mono (by rw [h]; exact fun _ _ e=>e)
theorem Base.inj {S:WS} (h:Base S) {i j:Nat} {s:Sh} (hi:S.shapes[i]?=some s) (hj:S.shapes[j]?=some s):i=j:=by
 have h1:=(h.num s i).2 hi
 have h2:=(h.num s j).2 hj
 rw [h1] at h2
 exact Option.some.inj h2
structure Added (S T:WS):Prop where
 shapes:∀ (i:Nat) (s:Sh),S.shapes[i]?=some s->T.shapes[i]?=some s
 len:S.shapes.length<=T.shapes.length
 classes:∀ i,i < S.classes.length->classAt T i=classAt S i
 said:T.said=S.said
 trail:T.trail.length+1000 * reps T T.classes.length+1002 * S.shapes.length<=S.trail.length+1000 * reps S S.classes.length+1002 * T.shapes.length
 files:T.files+1000 * reps T T.classes.length+1001 * S.shapes.length<=S.files+1000 * reps S S.classes.length+1001 * T.shapes.length
theorem Added.refl (S:WS):Added S S:=⟨fun _ _ h=>h,Nat.le_refl _,fun _ _=>rfl,rfl,Nat.le_refl _,Nat.le_refl _⟩
theorem Added.trans {S T U:WS} (h:Added S T) (k:Added T U) (hS:S.classes.length<=T.classes.length):Added S U:=by
 have h1:=h.trail
 have h2:=h.files
 have k1:=k.trail
 have k2:=k.files
 exact ⟨fun i s hi=>k.shapes i s (h.shapes i s hi),Nat.le_trans h.len k.len,fun i hi=>(k.classes i (by omega)).trans (h.classes i hi),k.said.trans h.said,by omega,by omega⟩
theorem reps_snoc {S S':WS} {c:Nat} (h:S'.classes=S.classes++[c]):reps S' S'.classes.length<=reps S S.classes.length+1:=by
 have hl:S'.classes.length=S.classes.length+1:=by rw [h]; simp
 rw [hl]
 rw [reps]
 rw [reps_congr (S:=S') (T:=S) S.classes.length (fun i hi=>by rw [classAt_snoc_lt h hi])]
 split <;> omega
theorem Base.entered {S:WS} (h:Base S) (s:Sh):Added S (enterM S s).2:=by
 obtain ⟨c,E⟩:=h.inv.entered s
 obtain ⟨_,_,e3,e4,e5,_⟩:=h.inv.enter s
 generalize (enterM S s).2=S' at *
 have hr:=reps_snoc E.classes
 refine ⟨fun i t hi=>?_,by omega,fun i hi=>classAt_snoc_lt E.classes hi,E.said,by omega,by omega⟩
 rw [E.shapes,List.getElem?_append_left (List.getElem?_eq_some_iff.1 hi).1]
 exact hi
theorem shapeOf_ok {name:ByteArray} {ks:List Nat} {n:Nat} (hn:name.size<=1000) (hl:ks.length<=3) (hk:∀ k ∈ ks,k < n):ShOK n (shapeOf name ks):=by
 have get:∀ i,i < ks.length->ks.getD i 0 < n:=fun i hi=>by
  rw [List.getD_eq_getElem?_getD,List.getElem?_eq_getElem hi]
  exact hk _ (List.getElem_mem hi)
 have none':∀ i,ks.length<=i->ks.getD i 0=0:=fun i hi=>by rw [List.getD_eq_getElem?_getD,List.getElem?_eq_none (by omega)]; rfl
 refine ⟨hn,hl,fun j hj=>?_,fun j hj h3=>?_⟩
 ·have hj':j < ks.length:=hj
  have hg:=get j hj'
  match j,hj',hg with
  | 0,_,hg=>exact hg
  | 1,_,hg=>exact hg
  | 2,_,hg=>exact hg
  | j+3,hj',_=>omega
 ·have hj':ks.length<=j:=hj
  have hg:=none' j hj'
  match j,h3,hg with
  | 0,_,hg=>exact hg
  | 1,_,hg=>exact hg
  | 2,_,hg=>exact hg
  | j+3,h3,_=>omega
structure AddEnd (S:WS) (T:WS):Prop where
 web:Web T
 added:Added S T
theorem addAll_end {α:Type} {f:WS->α->Nat × WS} {ok:α->Prop} {den:WS->α->Nat->Prop} (hf:∀ S x,Web S->ok x->AddEnd S (f S x).2/\den (f S x).2 x (f S x).1)
  (hm:∀ S T x i,(∀ (i:Nat) (s:Sh),S.shapes[i]?=some s->T.shapes[i]?=some s)->den S x i->den T x i):∀ (l:List α) (S:WS),Web S->allOf ok l->AddEnd S (addAll f S l).2/\AllIs (den (addAll f S l).2) l (addAll f S l).1
 | [],S,h,_=>⟨⟨h,Added.refl S⟩,trivial⟩
 | x :: l,S,h,hok=>by
  obtain ⟨⟨a1,a2⟩,a3⟩:=hf S x h hok.1
  obtain ⟨⟨b1,b2⟩,b3⟩:=addAll_end hf hm l _ a1 hok.2
  have e1:=h.base.inv.len
  have e2:=a1.base.inv.len
  have e3:=a2.len
  exact ⟨⟨b1,a2.trans b2 (by omega)⟩,hm _ _ _ _ b2.shapes a3,b3⟩
theorem addM_end:∀ (n:Nat) (S:WS) (t:Tm n),Web S->Narrow n t->AddEnd S (addM n S t).2/\Den (addM n S t).2 n t (addM n S t).1
 | 0,_,_,_,h=>h.elim
 | n+1,S,t,h,hn=>by
  obtain ⟨⟨a1,a2⟩,a3⟩:=addAll_end (den:=fun S x i=>Den S n x i) (addM_end n) (fun _ _ _ _ hst hd=>Den.mono hst hd) t.parts S h hn.2.2
  obtain ⟨⟨b1,b2,b3,b4,b5,b6,b7⟩,hl⟩:=addAll_adds (addM_adds n) t.parts S h.base.inv hn.2.2
  unfold addM
  simp only
  generalize (addAll (addM n) S t.parts).2=T at *
  generalize (addAll (addM n) S t.parts).1=ks at *
  split
  ·rename_i k hk
   exact ⟨⟨a1,a2⟩,ks,(a1.base.num _ _).1 hk,a3⟩
  ·rename_i hk
   have hs:ShOK T.shapes.length (shapeOf t.name ks):=shapeOf_ok hn.1 (by rw [hl]; exact hn.2.1) b2
   have e1:=h.base.inv.len
   have e2:=a1.base.inv.len
   have hA:=a1.base.entered (shapeOf t.name ks)
   refine ⟨⟨a1.enter hs hk,a2.trans hA (by omega)⟩,ks,?_,a3.mono fun _ _ hd=>hd.mono hA.shapes⟩
   obtain ⟨c,E⟩:=a1.base.inv.entered (shapeOf t.name ks)
   rw [E.shapes,(a1.base.inv.enter _).2.1]
   simp
def sayM {n:Nat} (S:WS) (x:Snt n):WS :=
 let p:=addM n S x.left
 let q:=addM n p.2 x.right
 if x.eq then joinM (noteM q.2 (0,p.1,q.1)) p.1 q.1 else noteM q.2 (1,p.1,q.1)
def sizeS {n:Nat} (x:Snt n):Nat:=sizeT n x.left+sizeT n x.right
def NarrowS {n:Nat} (x:Snt n):Prop:=Narrow n x.left/\Narrow n x.right
structure Pot (S:WS):Prop where
 trail:S.trail.length+1000 * reps S S.classes.length<=1002 * S.shapes.length+S.said.length
 files:S.files+1000 * reps S S.classes.length<=1001 * S.shapes.length
theorem Added.pot {S T:WS} (h:Added S T) (hp:Pot S):Pot T:=by
 have h1:=h.trail
 have h2:=h.files
 have h3:=hp.trail
 have h4:=hp.files
 exact ⟨by rw [h.said]; omega,by omega⟩
theorem noteM_pot {S:WS} (hp:Pot S) (x:Nat × Nat × Nat):Pot (noteM S x):=by
 have h3:=hp.trail
 have h4:=hp.files
 have e:reps (noteM S x) S.classes.length=reps S S.classes.length:=reps_congr _ fun _ _=>Iff.rfl
 refine ⟨?_,?_⟩
 ·show (S.trail++[_]).length+1000 * reps (noteM S x) S.classes.length<=1002 * S.shapes.length+(S.said++[x]).length
  rw [e]
  simp only [List.length_append,List.length_singleton]
  omega
 ·show S.files+1000 * reps (noteM S x) S.classes.length<=1001 * S.shapes.length
  rw [e]
  exact h4
theorem Joined.pot {S T:WS} (h:Joined S T) (hp:Pot S):Pot T:=by
 have h1:=h.trail
 have h2:=h.files
 have h3:=hp.trail
 have h4:=hp.files
 exact ⟨by rw [h.said,h.shapes]; omega,by rw [h.shapes]; omega⟩
structure SaidEnd {n:Nat} (S:WS) (x:Snt n) (T:WS):Prop where
 web:Web T
 shapes:∀ (i:Nat) (s:Sh),S.shapes[i]?=some s->T.shapes[i]?=some s
 len:T.shapes.length<=S.shapes.length+sizeS x
 said:∃ i j,Den T n x.left i/\Den T n x.right j/\T.said=S.said++[((if x.eq then 0 else 1),i,j)]
 pot:Pot S->Pot T
 goes:∀ S0,Goes S0 S->Goes S0 T
theorem Web.joining {S:WS} (h:Web S) {i j:Nat} (hi:i < S.classes.length) (hj:j < S.classes.length):Joining [(i,j)] (noteM S (0,i,j)):=by
 refine ⟨h.base.note hi hj,fun p hp=>?_,fun k s hk=>?_⟩
 ·simp only [List.mem_singleton] at hp
  subst hp
  exact ⟨hi,hj,fun R hR=>hR.said (0,i,j) (by simp [noteM]) rfl⟩
 ·obtain ⟨t,h1,h2⟩:=h.stable k s hk
  exact ⟨t,by rw [key_same (S:=noteM S (0,i,j)) (T:=S) rfl]; exact h1,.inl h2⟩
theorem sayM_end {n:Nat} {S:WS} (h:Web S) {x:Snt n} (hx:NarrowS x) (hr:S.shapes.length+sizeS x<=400):SaidEnd S x (sayM S x):=by
 obtain ⟨⟨a1,a2⟩,a3⟩:=addM_end n S x.left h hx.1
 have a4:=addM_adds n S x.left h.base.inv hx.1
 obtain ⟨⟨b1,b2⟩,b3⟩:=addM_end n (addM n S x.left).2 x.right a1 hx.2
 have b4:=addM_adds n (addM n S x.left).2 x.right a1.base.inv hx.2
 unfold sizeS at hr
 have hg:∀ S0,Goes S0 S->Goes S0 (addM n (addM n S x.left).2 x.right).2:=fun S0 h0=>Goes.addM n _ _ a1.base.inv hx.2 (by have:=a4.hi; omega) (Goes.addM n S x.left h.base.inv hx.1 (by omega) h0)
 unfold sayM
 simp only
 generalize (addM n S x.left).2=P at *
 generalize (addM n S x.left).1=i at *
 generalize (addM n P x.right).2=Q at *
 generalize (addM n P x.right).1=j at *
 have l1:=a4.hi
 have l2:=b4.hi
 have l3:=b4.lo
 have e1:=b1.base.inv.len
 have hi:i < Q.classes.length:=by have:=a4.lt; omega
 have hj:j < Q.classes.length:=by have:=b4.lt; omega
 have di:Den Q n x.left i:=a3.mono b2.shapes
 have hsaid:Q.said=S.said:=b2.said.trans a2.said
 have hshapes:∀ (i:Nat) (s:Sh),S.shapes[i]?=some s->Q.shapes[i]?=some s:=fun i s hi=>b2.shapes i s (a2.shapes i s hi)
 cases hxe:x.eq with
 | false =>
  simp only [Bool.false_eq_true,if_false]
  exact ⟨b1.note_unequal (by simp) hi hj,hshapes,by unfold sizeS; simp only [noteM]; omega,⟨i,j,Den.same (S:=Q) (T:=noteM Q (1,i,j)) rfl di,Den.same (S:=Q) (T:=noteM Q (1,i,j)) rfl b3,by simp [noteM,hsaid,hxe]⟩,fun hp=>noteM_pot (b2.pot (a2.pot hp)) _,fun S0 h0=>(hg S0 h0).note _⟩
 | true =>
  simp only [if_true]
  have hJ:=b1.joining hi hj
  have hN:(noteM Q (0,i,j)).classes.length<=400:=by simp only [noteM]; omega
  have E:=joinF_end _ _ _ hJ hN (Nat.le_refl (need [(i,j)] (noteM Q (0,i,j))))
  have hgj:∀ S0,Goes S0 S->Goes S0 (joinM (noteM Q (0,i,j)) i j):=fun S0 h0=>Goes.joinF _ _ _ hJ hN ((hg S0 h0).note _)
  unfold joinM at *
  generalize joinF (need [(i,j)] (noteM Q (0,i,j))) [(i,j)] (noteM Q (0,i,j))=T at *
  have hTs:T.shapes=Q.shapes:=E.joined.shapes
  have hTd:T.said=Q.said++[(0,i,j)]:=E.joined.said
  have hcl:T.classes.length=Q.classes.length:=E.joined.clen
  refine ⟨⟨E.base,fun y hy h0=>?_,E.stable⟩,by rw [hTs]; exact hshapes,by rw [hTs]; unfold sizeS; omega,⟨i,j,di.same hTs,b3.same hTs,by simp [hTd,hsaid,hxe]⟩,fun hp=>E.joined.pot (noteM_pot (b2.pot (a2.pot hp)) _),hgj⟩
  rw [hTd] at hy
  simp only [List.mem_append,List.mem_singleton] at hy
  rcases hy with hy | rfl
  ·obtain ⟨c1,c2⟩:=b1.base.saidLt y hy
   exact E.joined.merges _ _ c1 c2 (b1.eqs y hy h0)
  ·exact E.pairs (i,j) (by simp)
def IsSnt (w:World) (F:Nat->Prop) (n:Nat) (l:V3) (k:Int) (r:V3) (x:Snt n):Prop:=IsTm w F n l x.left/\k=signInt x.eq/\IsTm w F n r x.right
def SentDone (n:Nat) (s:ByteArray) (r:Nat) (st:Wd) (w:World) (e:Ending) (w':World):Prop :=
 ∃ (a:ByteArray) (p:Int) (g:Option Addr) (l c:Nat) (k:Int) (a':ByteArray) (p':Int) (g':Option Addr) (l' c':Nat) (b:Bool),
  e=.returned (.tuple #[.agg #[.string a,.int .i64 p,.slice g l c,.int .i64 k,.string a',.int .i64 p',.slice g' l' c'],.bool b]) /\
  Rd w' r s (sentOf s n st).2.1 (sentOf s n st).2.2.1 (sentOf s n st).2.2.2/\Upd [r] w w'/\b=(sentOf s n st).1.isSome /\
  ∀ x,(sentOf s n st).1=some x->IsSnt w' (fun k=>w.heap.size<=k) n (.string a,.int .i64 p,.slice g l c) k (.string a',.int .i64 p',.slice g' l' c') x
section
variable {s:ByteArray} {n:Nat} {st st1 st2 st3:Wd} {l r:Tm n} {g:Bool}
theorem sentOf_1 (h:termOf s n st=(none,st1)):sentOf s n st=(none,st1):=by simp [sentOf,h]
theorem sentOf_2 (h:termOf s n st=(some l,st1)) (h2:signOf s st1=(none,st2)):sentOf s n st=(none,st2):=by simp [sentOf,h,h2]
theorem sentOf_3 (h:termOf s n st=(some l,st1)) (h2:signOf s st1=(some g,st2)) (h3:termOf s n st2=(none,st3)):sentOf s n st=(none,st3):=by simp [sentOf,h,h2,h3]
theorem sentOf_4 (h:termOf s n st=(some l,st1)) (h2:signOf s st1=(some g,st2)) (h3:termOf s n st2=(some r,st3)) (h7:st3.1 ≠ 7):sentOf s n st=(none,st3):=by simp [sentOf,h,h2,h3,h7]
theorem sentOf_5 (h:termOf s n st=(some l,st1)) (h2:signOf s st1=(some g,st2)) (h3:termOf s n st2=(some r,st3)) (h7:st3.1=7):sentOf s n st=(some ⟨l,g,r⟩,st3):=by simp [sentOf,h,h2,h3,h7]
end
abbrev zero7:Array Value:=#[.string ⟨#[]⟩,.int .i64 0,.slice none 0 0,.int .i64 0,.string ⟨#[]⟩,.int .i64 0,.slice none 0 0]
structure Box7 (w:World) (B:Nat):Prop where
 lt:B < w.heap.size
 all:∀ o,o < 7->w.cell? ⟨B,o,none⟩=zero7[o]?
 free:∀ o,w.frozen? ⟨B,o,none⟩=false
theorem Box7.later {w w':World} {L:List Nat} {B:Nat} (h:Box7 w B) (hu:Upd L w w') (hB:B ∉ L):Box7 w' B :=
 ⟨Nat.lt_of_lt_of_le h.lt hu.size,fun o ho=>(hu.cell (p:=⟨B,o,none⟩) h.lt hB).trans (h.all o ho),fun o=>(hu.frozen (p:=⟨B,o,none⟩) h.lt hB).trans (h.free o)⟩
theorem Box7.new (w:World) (t:TypeId):Box7 (w.alloc (.cells zero7 t)) w.heap.size:=by
 refine ⟨by simp,fun o ho=>?_,fun o=>by rw [frozen?_alloc_cells]; simp [World.frozen?]⟩
 simp
theorem upd7 (w:World) (B:Nat) (v0 v1 v2 v3 v4 v5 v6:Value):Upd [B] w (((((((w.setCell ⟨B,0,none⟩ v0).setCell ⟨B,1,none⟩ v1).setCell ⟨B,2,none⟩ v2).setCell ⟨B,3,none⟩ v3).setCell ⟨B,4,none⟩ v4).setCell ⟨B,5,none⟩ v5).setCell ⟨B,6,none⟩ v6) :=
 (((((((Upd.refl [B] w).setCell (by simp) _).setCell (by simp) _).setCell (by simp) _).setCell (by simp) _).setCell (by simp) _).setCell (by simp) _).setCell (by simp) _
theorem Box7.cells {w:World} {B:Nat} (h:Box7 w B):w.cell? ⟨B,0,none⟩=some (.string ⟨#[]⟩)/\w.cell? ⟨B,1,none⟩=some (.int .i64 0)/\w.cell? ⟨B,2,none⟩=some (.slice none 0 0)/\w.cell? ⟨B,3,none⟩=some (.int .i64 0) /\
  w.cell? ⟨B,4,none⟩=some (.string ⟨#[]⟩)/\w.cell? ⟨B,5,none⟩=some (.int .i64 0)/\w.cell? ⟨B,6,none⟩=some (.slice none 0 0) :=
 ⟨h.all 0 (by decide),h.all 1 (by decide),h.all 2 (by decide),h.all 3 (by decide),h.all 4 (by decide),h.all 5 (by decide),h.all 6 (by decide)⟩
theorem signOf_fit {s:ByteArray} {st:Wd} (h:Fit s st) (hg:(signOf s st).1.isSome=true):Fit s (signOf s st).2/\st.2.1<=(signOf s st).2.2.1:=by
 have hw:=wordAt_le s st.2.2 h.size
 have hle:=h.le
 unfold signOf at hg ⊢
 split
 ·exact ⟨Fit.next s _ h.size,by simp only; omega⟩
 ·rename_i h4
  rw [if_neg h4] at hg
  split
  ·exact ⟨Fit.next s _ h.size,by simp only; omega⟩
  ·rename_i h5
   rw [if_neg h5] at hg
   split at hg <;> cases hg
theorem sentence_any (s:ByteArray) (n r:Nat) (st:Wd) (w:World) (hs:s.size<=200) (hrd:Rd w r s st.1 st.2.1 st.2.2) (hfit:Fit s st) (hn:s.size < n+st.2.1) :
  Calls Tryz.prog 125 #[.pointer (some ⟨r,0,none⟩)] w (SentDone n s r st w):=by
 have hrlt:=hrd.lt
 have hb7:=Box7.new w 101
 have hu0:=(Upd.refl [r] w).alloc (.cells zero7 101)
 have hrd0:=hrd.later ((Upd.refl [] w).alloc (.cells zero7 101)) (by simp)
 go_enter Tryz.func125,Tryz.ntmps125
 go_wp2_with fail
 refine (term_ok n s r st _ hs hrd0 hfit hn).mono ?_
 rintro e w1 ⟨a,p,g,l,c,b,rfl,hrd1,hu1,hb,ht⟩
 have hb71:=hb7.later hu1 (by simp; omega)
 have hU1:=hu0.trans hu1
 have hsz1:=hu1.size
 simp at hsz1
 cases hres:termOf s n st with
 | mk o st1 =>
  have hfit1:=(termOf_fit n st hfit).1
  have hle1:=(termOf_fit n st hfit).2
  rw [hres] at hrd1 hb ht hfit1 hle1
  simp only at hrd1 hb ht hfit1 hle1
  cases o with
  | none =>
   obtain rfl:b=false:=hb
   have HE:Hid (sentOf s n st=(none,st1)):=sentOf_1 hres
   have HB:Hid (Box7 w1 w.heap.size):=hb71
   have hb72:=hb71.later ((Upd.refl [] _).alloc (.cells #[.string a,.int .i64 p,.slice g l c] 98)) (by simp)
   obtain ⟨d0,d1,d2,d3,d4,d5,d6⟩:=hb72.cells
   have df:=hb72.free
   clear hres ht hb71 hb72 hb7 hu1 hu0 hrd0 hrd
   go_wp2
   refine bodyPost_ret (v:=.tuple #[.agg zero7,.bool false]) (by simp [results,Tryz.results125,go_sem,d0,d1,d2,d3,d4,d5,d6]) rfl ?_
   refine ⟨_,_,none,0,0,0,_,_,none,0,0,false,rfl,?_,?_,?_,?_⟩
   ·rw [HE.out]; exact (hrd1.later ((Upd.refl [] _).alloc _) (by simp)).later (upd7 _ _ _ _ _ _ _ _ _) (by simp; omega)
   ·exact (hU1.alloc _).trans' (upd7 _ _ _ _ _ _ _ _ _) (fun x hx hl=>by simp at hx; omega)
   ·rw [HE.out]; rfl
   ·intro x hx; rw [HE.out] at hx; cases hx
  | some lt =>
   obtain rfl:b=true:=hb
   have htl:=ht lt rfl
   clear ht hb7 hu1 hu0 hrd0 hrd
   go_wp2_with fail
   have hbx:=Box3.new w1 (.string a) (.int .i64 p) (.slice g l c) 98
   have hrd1a:=hrd1.later ((Upd.refl [] _).alloc (.cells #[.string a,.int .i64 p,.slice g l c] 98)) (by simp)
   refine (sign_any s r st1 _ hs hrd1a hfit1).mono ?_
   rintro e w2 ⟨k,rfl,hrd2,hu2,hk⟩
   have hrw1:r ∉ [w1.heap.size]:=by simp; have:=hrd1.lt; omega
   have hr2:w1.heap.size ∉ [r]:=by simp; have:=hrd1.lt; omega
   have hr3:w.heap.size ∉ [r]:=by simp; omega
   have hb72:=(hb71.later ((Upd.refl [] _).alloc (.cells #[.string a,.int .i64 p,.slice g l c] 98)) (by simp)).later hu2 hr3
   have hbx2:=hbx.later hu2 hr2
   have hU2:=(hU1.alloc (.cells #[.string a,.int .i64 p,.slice g l c] 98)).trans hu2
   have htl2:=(htl.later ((Upd.refl [] _).alloc (.cells #[.string a,.int .i64 p,.slice g l c] 98)) (fun _ _=>by simp)).later hu2 (fun k hk hm=>by simp at hk hm; omega)
   have hsz2:=hu2.size
   simp at hsz2
   clear hb71 hbx hU1 htl hu2 hrd1 hrd1a
   cases hsg:signOf s st1 with
   | mk o2 st2 =>
    have hfit2:=signOf_fit hfit1
    rw [hsg] at hrd2 hk hfit2
    simp only at hrd2 hk hfit2
    cases o2 with
    | none =>
     have HE:Hid (sentOf s n st=(none,st2)):=sentOf_2 hres hsg
     obtain ⟨d0,d1,d2,d3,d4,d5,d6⟩:=hb72.cells
     have df:=hb72.free
     clear hres hsg hk hfit2 hb72 hbx2 htl2
     go_wp2
     refine bodyPost_ret (v:=.tuple #[.agg zero7,.bool false]) (by simp [results,Tryz.results125,go_sem,d0,d1,d2,d3,d4,d5,d6]) rfl ?_
     refine ⟨_,_,none,0,0,0,_,_,none,0,0,false,rfl,?_,?_,?_,?_⟩
     ·rw [HE.out]; exact hrd2.later (upd7 _ _ _ _ _ _ _ _ _) (by simp; omega)
     ·exact hU2.trans' (upd7 _ _ _ _ _ _ _ _ _) (fun x hx hl=>by simp at hx; omega)
     ·rw [HE.out]; rfl
     ·intro x hx; rw [HE.out] at hx; cases hx
    | some gq =>
     obtain rfl:=hk gq rfl
     obtain ⟨hfit2,hle2⟩:=hfit2 rfl
     clear hk
     go_wp2_with fail
     refine (term_ok n s r st2 _ hs hrd2 hfit2 (by omega)).mono ?_
     rintro e w3 ⟨a',p',g',l',c',b,rfl,hrd3,hu3,hb,ht⟩
     have hb73:=hb72.later hu3 hr3
     have hbx3:=hbx2.later hu3 hr2
     have hU3:=hU2.trans hu3
     have htl3:=htl2.later hu3 (fun k hk hm=>by simp at hk hm; omega)
     have hsz3:=hu3.size
     clear hb72 hbx2 hU2 htl2 hu3 hrd2
     cases hres3:termOf s n st2 with
     | mk o3 st3 =>
      rw [hres3] at hrd3 hb ht
      simp only at hrd3 hb ht
      have HB:Hid (Box7 w3 w.heap.size):=hb73
      have hb74:=hb73.later ((Upd.refl [] _).alloc (.cells #[.string a',.int .i64 p',.slice g' l' c'] 98)) (by simp)
      have hbx4:=hbx3.later ((Upd.refl [] _).alloc (.cells #[.string a',.int .i64 p',.slice g' l' c'] 98)) (by simp)
      have hrd4:=hrd3.later ((Upd.refl [] _).alloc (.cells #[.string a',.int .i64 p',.slice g' l' c'] 98)) (by simp)
      obtain ⟨d0,d1,d2,d3,d4,d5,d6⟩:=hb74.cells
      have df:=hb74.free
      obtain ⟨x0,x1,x2,x3,x4⟩:=hbx4
      obtain ⟨y0,y1,y2,y3,y4,y5⟩:=hrd4
      clear hb73 hb74 hbx3
      have hn1:w.heap.size ≠ w1.heap.size:=by omega
      have hn2:w.heap.size ≠ w3.heap.size:=by omega
      have hn3:w.heap.size ≠ r:=by omega
      have hn4:w1.heap.size ≠ w3.heap.size:=by omega
      cases o3 with
      | none =>
       obtain rfl:b=false:=hb
       have HE:Hid (sentOf s n st=(none,st3)):=sentOf_3 hres hsg hres3
       clear hres hsg hres3 ht
       go_wp2
       go_region
       go_wp2
       refine bodyPost_ret (v:=.tuple #[.agg #[.string a,.int .i64 p,.slice g l c,.int .i64 (signInt gq),.string a',.int .i64 p',.slice g' l' c'],.bool false]) (by simp [results,Tryz.results125,go_sem,d0,d1,d2,d3,d4,d5,d6]) rfl ?_
       clear d0 d1 d2 d3 d4 d5 d6 df x0 x1 x2 x3 x4 y0 y1 y2 y3 y4 y5
       have U7:=upd7 (w3.alloc (.cells #[.string a',.int .i64 p',.slice g' l' c'] 98)) w.heap.size (.string a) (.int .i64 p) (.slice g l c) (.int .i64 (signInt gq)) (.string a') (.int .i64 p') (.slice g' l' c') |>.drew
       have U8:=((Upd.refl [] w3).alloc (.cells #[.string a',.int .i64 p',.slice g' l' c'] 98))
       refine ⟨_,_,_,_,_,_,_,_,_,_,_,_,rfl,?_,?_,?_,?_⟩
       ·rw [HE.out]; exact (hrd3.later U8 (by simp)).later U7 (by simp; omega)
       ·exact (hU3.alloc _).trans' U7 (fun x hx hl=>by simp at hx; omega)
       ·rw [HE.out]; rfl
       ·intro x hx; rw [HE.out] at hx; cases hx
      | some rt =>
       obtain rfl:b=true:=hb
       have htr:=ht rt rfl
       by_cases h7:st3.1=7
       ·have h7':(st3.1 == 7)=true:=by simp [h7]
        have HE:Hid (sentOf s n st=(some ⟨lt,gq,rt⟩,st3)):=sentOf_5 hres hsg hres3 h7
        clear hres hsg hres3 ht h7
        go_wp2
        go_region
        go_wp2
        refine bodyPost_ret (v:=.tuple #[.agg #[.string a,.int .i64 p,.slice g l c,.int .i64 (signInt gq),.string a',.int .i64 p',.slice g' l' c'],.bool true]) (by simp [results,Tryz.results125,go_sem,d0,d1,d2,d3,d4,d5,d6]) rfl ?_
        clear d0 d1 d2 d3 d4 d5 d6 df x0 x1 x2 x3 x4 y0 y1 y2 y3 y4 y5
        have U7:=upd7 (w3.alloc (.cells #[.string a',.int .i64 p',.slice g' l' c'] 98)) w.heap.size (.string a) (.int .i64 p) (.slice g l c) (.int .i64 (signInt gq)) (.string a') (.int .i64 p') (.slice g' l' c') |>.drew
        have U8:=((Upd.refl [] w3).alloc (.cells #[.string a',.int .i64 p',.slice g' l' c'] 98))
        refine ⟨_,_,_,_,_,_,_,_,_,_,_,_,rfl,?_,?_,?_,?_⟩
        ·rw [HE.out]; exact (hrd3.later U8 (by simp)).later U7 (by simp; omega)
        ·exact (hU3.alloc _).trans' U7 (fun x hx hl=>by simp at hx; omega)
        ·rw [HE.out]; rfl
        ·intro x hx
         rw [HE.out] at hx
         obtain rfl:=Option.some.inj hx
         refine ⟨?_,rfl,?_⟩
         ·exact ((htl3.later U8 (fun _ _=>by simp)).later U7 (fun k hk hm=>by simp at hk hm; omega)).mono (fun k hk _=>by first | omega | (simp at hk; omega))
         ·exact ((htr.later U8 (fun _ _=>by simp)).later U7 (fun k hk hm=>by simp at hk hm; omega)).mono (fun k hk _=>by first | omega | (simp at hk; omega))
       ·have h7':(st3.1 == 7)=false:=by simp [h7]
        have HE:Hid (sentOf s n st=(none,st3)):=sentOf_4 hres hsg hres3 h7
        clear hres hsg hres3 ht h7
        go_wp2
        go_region
        go_wp2
        refine bodyPost_ret (v:=.tuple #[.agg #[.string a,.int .i64 p,.slice g l c,.int .i64 (signInt gq),.string a',.int .i64 p',.slice g' l' c'],.bool false]) (by simp [results,Tryz.results125,go_sem,d0,d1,d2,d3,d4,d5,d6]) rfl ?_
        clear d0 d1 d2 d3 d4 d5 d6 df x0 x1 x2 x3 x4 y0 y1 y2 y3 y4 y5
        have U7:=upd7 (w3.alloc (.cells #[.string a',.int .i64 p',.slice g' l' c'] 98)) w.heap.size (.string a) (.int .i64 p) (.slice g l c) (.int .i64 (signInt gq)) (.string a') (.int .i64 p') (.slice g' l' c') |>.drew
        have U8:=((Upd.refl [] w3).alloc (.cells #[.string a',.int .i64 p',.slice g' l' c'] 98))
        refine ⟨_,_,_,_,_,_,_,_,_,_,_,_,rfl,?_,?_,?_,?_⟩
        ·rw [HE.out]; exact (hrd3.later U8 (by simp)).later U7 (by simp; omega)
        ·exact (hU3.alloc _).trans' U7 (fun x hx hl=>by simp at hx; omega)
        ·rw [HE.out]; rfl
        ·intro x hx; rw [HE.out] at hx; cases hx
structure Fine (S:WS):Prop where
 web:Web S
 pot:Pot S
theorem Fine.trail {S:WS} (h:Fine S) (hn:S.shapes.length<=400) (hs:S.said.length<=1000):S.trail.length+1000 * reps S S.classes.length<=500000/\S.files+1000 * reps S S.classes.length<=500000:=by
 have h1:=h.pot.trail
 have h2:=h.pot.files
 omega
theorem sayUnequal_any (w:World) (wb:Nat) (H:Hd) (Z:Nat->Prop) (S:WS) (i j:Nat) (h:WebAt w wb H Z S) (hb:S.trail.length<=10000000) (hsd:S.said.length<=1000000) :
  Calls Tryz.prog 95 #[.pointer (some ⟨wb,0,none⟩),.int .i64 i,.int .i64 j] w fun e w'=>∃ H',e=.returned (.tuple #[])/\WebAt w' wb H' (fun k=>Z k\/w.heap.size<=k) (noteM S (1,i,j))/\Upd (H.blocks wb) w w'/\∀ k ∈ H'.blocks wb,k ∈ H.blocks wb\/w.heap.size<=k:=by
 have HC:=hide (note_any w wb H Z S (1,i,j) h hb hsd)
 clear h
 go_enter Tryz.func95,Tryz.ntmps95
 go_wp2_with (go_at_call 127; refine HC.out.mono ?_; rintro e w2 ⟨H2,rfl,hw2,hu2,hH2⟩; have Hw2:=hide hw2; have Hu2:=hide hu2; have HH2:=hide hH2; clear hw2 hu2 hH2)
 go_end0
 exact ⟨H2,rfl,Hw2.out,Hu2.out,HH2.out⟩
theorem sayEqual_any (w:World) (wb:Nat) (H:Hd) (Z:Nat->Prop) (S:WS) (i j:Nat) (h:WebAt w wb H Z S) (hF:Fine S) (hi:i < S.classes.length) (hj:j < S.classes.length) (hn:S.shapes.length<=400) (hsd:S.said.length<=900) :
  Calls Tryz.prog 94 #[.pointer (some ⟨wb,0,none⟩),.int .i64 i,.int .i64 j] w fun e w'=>∃ H',e=.returned (.tuple #[])/\WebAt w' wb H' (fun k=>Z k\/w.heap.size<=k) (joinM (noteM S (0,i,j)) i j)/\Upd (H.blocks wb) w w'/\∀ k ∈ H'.blocks wb,k ∈ H.blocks wb\/w.heap.size<=k:=by
 have hlen:=hF.web.base.inv.len
 have ht:=hF.trail hn (by omega)
 have HC:=hide (note_any w wb H Z S (0,i,j) h (by omega) (by omega))
 have hp:=noteM_pot hF.pot (0,i,j)
 have hJ:=hF.web.joining hi hj
 have hltb:=h.mem_lt
 have HP:=hide (⟨hp.trail,hp.files⟩:_/\_)
 have HL:=hide (fun (w2:World) (H2:Hd) (hw2:WebAt w2 wb H2 (fun k=>(Z k\/w.heap.size<=k)/\k < w2.heap.size) (noteM S (0,i,j)))=>join_any w2 wb H2 _ (noteM S (0,i,j)) i j hw2 (fun k hk=>hk.2) hJ (by show S.classes.length<=_; omega) (by have:=hp.trail; simp only [noteM,List.length_append,List.length_singleton] at this ⊢; omega) (by have:=hp.files; simp only [noteM] at this ⊢; omega))
 clear h hp hJ
 go_enter Tryz.func94,Tryz.ntmps94
 go_wp2_with (first
  | (go_at_call 127; refine HC.out.mono ?_; rintro e w2 ⟨H2,rfl,hw2,hu2,hH2⟩; have Hw2:=hide hw2; have Hu2:=hide hu2; have HH2:=hide hH2; clear hw2 hu2 hH2)
  | (go_at_call 128; refine (HL.out w2 H2 (Hw2.out.mono (fun k hk hl=>⟨hk,hl⟩))).mono ?_; rintro e w3 ⟨H3,rfl,hw3,hu3,hH3⟩; have Hw3:=hide hw3; have Hu3:=hide hu3; have HH3:=hide hH3; clear hw3 hu3 hH3))
 go_end0
 have s2:=Hu2.out.size
 refine ⟨H3,rfl,Hw3.out.mono (fun k hk _=>?_),Hu2.out.trans' Hu3.out (fun k hk hl=>?_),fun k hk=>?_⟩
 ·rcases hk with hk | hk
  ·exact hk.1
  ·exact .inr (by omega)
 ·rcases HH2.out k hk with h1 | h1
  ·exact h1
  ·omega
 ·rcases HH3.out k hk with h1 | h1
  ·exact HH2.out k h1
  ·exact .inr (by omega)
theorem say_fin {w W2 w3 w4 w5:World} {wb:Nat} {H H3 H4 H5:Hd} {Z:Nat->Prop} {T:WS} (hs2:w.heap.size+2<=W2.heap.size) (U2:Upd [] w W2) (hu3:Upd (H.blocks wb) W2.drew w3) (hH3:∀ k ∈ H3.blocks wb,k ∈ H.blocks wb\/W2.drew.heap.size<=k) (hu4:Upd (H3.blocks wb) w3 w4) (hH4:∀ k ∈ H4.blocks wb,k ∈ H3.blocks wb\/w3.heap.size<=k)
  (hw5:WebAt w5 wb H5 (fun k=>((Z k\/W2.drew.heap.size<=k)/\k < w4.heap.size)\/w4.heap.size<=k) T) (hu5:Upd (H4.blocks wb) w4 w5) (hH5:∀ k ∈ H5.blocks wb,k ∈ H4.blocks wb\/w4.heap.size<=k) :
  WebAt w5 wb H5 (fun k=>Z k\/w.heap.size<=k) T/\Upd (H.blocks wb) w w5/\∀ k ∈ H5.blocks wb,k ∈ H.blocks wb\/w.heap.size<=k:=by
 have e:W2.drew.heap.size=W2.heap.size:=rfl
 have s3:=hu3.size
 have s4:=hu4.size
 have h3:∀ k ∈ H3.blocks wb,k ∈ H.blocks wb\/w.heap.size<=k:=fun k hk=>(hH3 k hk).imp id (fun h=>by omega)
 have h4:∀ k ∈ H4.blocks wb,k ∈ H.blocks wb\/w.heap.size<=k:=fun k hk=>by
  rcases hH4 k hk with h | h
  ·exact h3 k h
  ·exact .inr (by omega)
 refine ⟨hw5.mono (fun k hk _=>?_),(((U2.drew.mono (fun x hx _=>by cases hx)).trans hu3).trans' hu4 (fun k hk hl=>?_)).trans' hu5 (fun k hk hl=>?_),fun k hk=>?_⟩
 ·rcases hk with hk | hk
  ·exact hk.1.imp id (fun h=>by omega)
  ·exact .inr (by omega)
 ·rcases h3 k hk with h | h
  ·exact h
  ·omega
 ·rcases h4 k hk with h | h
  ·exact h
  ·omega
 ·rcases hH5 k hk with h | h
  ·exact h4 k h
  ·exact .inr (by omega)
theorem webSay_any (w:World) (wb n:Nat) (H:Hd) (Z F:Nat->Prop) (S:WS) (l r:V3) (k:Int) (x:Snt n) (h:WebAt w wb H Z S) (hs:IsSnt w F n l k r x) (hFZ:∀ k,F k->¬ Z k) (hZ:∀ k,Z k->k < w.heap.size) (hF:Fine S) (hx:NarrowS x) (hn:S.shapes.length+sizeS x<=400) (hsd:S.said.length<=900) :
  Calls Tryz.prog 57 #[.pointer (some ⟨wb,0,none⟩),.agg #[l.1,l.2.1,l.2.2,.int .i64 k,r.1,r.2.1,r.2.2]] w fun e w'=>∃ H',e=.returned (.tuple #[])/\WebAt w' wb H' (fun k=>Z k\/w.heap.size<=k) (sayM S x)/\Upd (H.blocks wb) w w'/\∀ k ∈ H'.blocks wb,k ∈ H.blocks wb\/w.heap.size<=k:=by
 obtain ⟨hl,hk,hr⟩:=hs
 obtain ⟨a,p,g,ll,cap,rfl⟩:=hl.form
 obtain ⟨a',p',g',ll',cap',rfl⟩:=hr.form
 simp only
 obtain ⟨W2,hW2⟩:∃ W2,W2=(w.alloc (.cells #[.string a,.int .i64 p,.slice g ll cap,.int .i64 k,.string a',.int .i64 p',.slice g' ll' cap'] 101)).alloc (.cells #[.func (.func 94) #[] #[],.func (.func 95) #[] #[]] 159):=⟨_,rfl⟩
 have Hk:=hide hk
 clear hk
 have U2:Upd [] w W2:=hW2 ▸ ((Upd.refl [] w).alloc _).alloc _
 have hs2:w.heap.size+2<=W2.heap.size:=by rw [hW2]; simp
 have b0:W2.cell? ⟨w.heap.size,0,none⟩=some (.string a):=by rw [hW2]; go_simp
 have b1:W2.cell? ⟨w.heap.size,1,none⟩=some (.int .i64 p):=by rw [hW2]; go_simp
 have b2:W2.cell? ⟨w.heap.size,2,none⟩=some (.slice g ll cap):=by rw [hW2]; go_simp
 have b3:W2.cell? ⟨w.heap.size,3,none⟩=some (.int .i64 k):=by rw [hW2]; go_simp
 have b4:W2.cell? ⟨w.heap.size,4,none⟩=some (.string a'):=by rw [hW2]; go_simp
 have b5:W2.cell? ⟨w.heap.size,5,none⟩=some (.int .i64 p'):=by rw [hW2]; go_simp
 have b6:W2.cell? ⟨w.heap.size,6,none⟩=some (.slice g' ll' cap'):=by rw [hW2]; go_simp
 have t0:W2.cell? ⟨w.heap.size+1,0,none⟩=some (.func (.func 94) #[] #[]):=by rw [hW2]; go_simp
 have t1:W2.cell? ⟨w.heap.size+1,1,none⟩=some (.func (.func 95) #[] #[]):=by rw [hW2]; go_simp
 have hltb:=h.mem_lt
 have hBH:∀ k,w.heap.size<=k->k ∉ H.blocks wb:=fun k hk hm=>by have:=hltb k hm; omega
 obtain ⟨⟨p1,p2⟩,p3⟩:=addM_end n S x.left hF.web hx.1
 have p4:=addM_adds n S x.left hF.web.base.inv hx.1
 obtain ⟨⟨q1,q2⟩,q3⟩:=addM_end n (addM n S x.left).2 x.right p1 hx.2
 have q4:=addM_adds n (addM n S x.left).2 x.right p1.base.inv hx.2
 unfold sizeS at hn
 have ht:=hF.trail (by omega) (by omega)
 have C1:=hide (add_ok n W2.drew wb H Z (fun k=>F k/\k < w.heap.size) S (.string a,.int .i64 p,.slice g ll cap) x.left (h.later U2.drew (fun _ _=>by simp)) ((hl.mono (F':=fun k=>F k/\k < w.heap.size) fun k hk hlt=>⟨hk,hlt⟩).later U2.drew (fun _ _=>by simp)) (fun k hk=>hFZ k hk.1) hF.web.base.inv hx.1 ⟨by omega,by omega,by omega⟩ (fun k hk=>by have:=hZ k hk; show k < W2.heap.size; omega))
 have C2:=hide (fun (w3:World) (H3:Hd) (hw3:WebAt w3 wb H3 (fun k=>Z k\/W2.drew.heap.size<=k) (addM n S x.left).2) (hu3:Upd (H.blocks wb) W2.drew w3) =>
  add_ok n w3 wb H3 (fun k=>(Z k\/W2.drew.heap.size<=k)/\k < w3.heap.size) (fun k=>F k/\k < w.heap.size) (addM n S x.left).2 (.string a',.int .i64 p',.slice g' ll' cap') x.right (hw3.mono (fun k hk hl=>⟨hk,hl⟩))
   (((hr.mono (F':=fun k=>F k/\k < w.heap.size) fun k hk hlt=>⟨hk,hlt⟩).later U2.drew (fun _ _=>by simp)).later hu3 (fun k hk hm=>hFZ k hk.1 (h.inZ k hm)))
   (fun k hk hz=>by
    rcases hz.1 with hz | hz
    ·exact hFZ k hk.1 hz
    ·have h1:=hk.2
     have h2:W2.heap.size<=k:=hz
     omega) p1.base.inv hx.2 (by have:=p4.hi; have:=p4.trail; have:=p4.files; exact ⟨by omega,by omega,by omega⟩) (fun k hk=>hk.2))
 have HK:=hide (fun (w3:World) (L:List Nat) (w2:World) (hu3:Upd L w2 w3) (h2:w.heap.size+2<=w2.heap.size) (hn1:w.heap.size ∉ L) (hn2:w.heap.size+1 ∉ L)=>(⟨fun o=>hu3.cell (p:=⟨w.heap.size,o,none⟩) (by show w.heap.size < _; omega) hn1,fun o=>hu3.cell (p:=⟨w.heap.size+1,o,none⟩) (by show w.heap.size+1 < _; omega) hn2⟩:(∀ o,w3.cell? ⟨w.heap.size,o,none⟩=w2.cell? ⟨w.heap.size,o,none⟩)/\(∀ o,w3.cell? ⟨w.heap.size+1,o,none⟩=w2.cell? ⟨w.heap.size+1,o,none⟩)))
 have HN1:=hide (⟨hBH w.heap.size (Nat.le_refl _),hBH (w.heap.size+1) (by omega)⟩:_/\_)
 have HFin:=hide (fun (w4:World) (H4:Hd) (hw4:WebAt w4 wb H4 (fun k=>((Z k\/W2.drew.heap.size<=k))/\k < w4.heap.size) (addM n (addM n S x.left).2 x.right).2)=>(⟨fun _=>sayEqual_any w4 wb H4 _ _ (addM n S x.left).1 (addM n (addM n S x.left).2 x.right).1 hw4 ⟨q1,q2.pot (p2.pot hF.pot)⟩ (by rw [<- q1.base.inv.len]; have:=p4.lt; have:=q4.lo; omega) (by rw [<- q1.base.inv.len]; exact q4.lt) (by have:=p4.hi; have:=q4.hi; omega) (by rw [q2.said,p2.said]; exact hsd),
  fun _=>sayUnequal_any w4 wb H4 _ _ (addM n S x.left).1 (addM n (addM n S x.left).2 x.right).1 hw4 (by have:=p4.trail; have:=q4.trail; omega) (by rw [q2.said,p2.said]; omega)⟩:(x.eq=true->_)/\(x.eq=false->_)))
 have HM:Hid ((x.eq=true->sayM S x=joinM (noteM (addM n (addM n S x.left).2 x.right).2 (0,(addM n S x.left).1,(addM n (addM n S x.left).2 x.right).1)) (addM n S x.left).1 (addM n (addM n S x.left).2 x.right).1)/\(x.eq=false->sayM S x=noteM (addM n (addM n S x.left).2 x.right).2 (1,(addM n S x.left).1,(addM n (addM n S x.left).2 x.right).1))):=⟨fun e=>by unfold sayM; simp [e],fun e=>by unfold sayM; simp [e]⟩
 have HU2:=hide U2
 clear p1 p2 p3 p4 q1 q2 q3 q4 h hl hr hFZ hF hx hBH U2 ht
 generalize addM n S x.left=P at *
 generalize addM n P.2 x.right=Q at *
 generalize hgs:sayM S x=T at *
 clear hgs
 cases hxe:x.eq with
 | true =>
  rw [hxe] at Hk
  have hk0:k=0:=Hk.out
  subst hk0
  have HF2:=hide (fun (w4:World) (H4:Hd) hw4=>(HFin.out w4 H4 hw4).1 hxe)
  have HM2:=hide (HM.out.1 hxe)
  clear hxe Hk HFin HM
  go_enter Tryz.func57,Tryz.ntmps57
  go_wp2_with fail
  rw [<- hW2]
  clear hW2
  go_region_held3 (fun w'=>w'.cell? ⟨w.heap.size,0,none⟩=some (.string a)/\w'.cell? ⟨w.heap.size,1,none⟩=some (.int .i64 p)/\w'.cell? ⟨w.heap.size,2,none⟩=some (.slice g ll cap)/\w'.cell? ⟨w.heap.size,4,none⟩=some (.string a')/\w'.cell? ⟨w.heap.size,5,none⟩=some (.int .i64 p')/\w'.cell? ⟨w.heap.size,6,none⟩=some (.slice g' ll' cap')) ((first | go_keep | (refine ⟨?_,?_,?_,?_,?_,?_⟩ <;> go_simp)))
   (first
    | (go_at_call_of 96 (Value.string a); refine C1.out.mono ?_; rintro e w3 ⟨H3,rfl,hw3,hu3,hH3⟩; obtain ⟨z1,z2⟩:=HK.out w3 _ W2.drew hu3 hs2 HN1.out.1 HN1.out.2; have y0:=(z1 0).trans b0; have y1:=(z1 1).trans b1; have y2:=(z1 2).trans b2; have y3:=(z1 3).trans b3; have y4:=(z1 4).trans b4; have y5:=(z1 5).trans b5; have y6:=(z1 6).trans b6; have y7:=(z2 0).trans t0; have Hw3:=hide hw3; have Hu3:=hide hu3; have HH3:=hide hH3; clear hw3 hu3 hH3 z1 z2)
    | (go_at_call_of 96 (Value.string a'); refine (C2.out w3 H3 Hw3.out Hu3.out).mono ?_; rintro e w4 ⟨H4,rfl,hw4,hu4,hH4⟩; obtain ⟨z1,z2⟩:=HK.out w4 _ w3 hu4 (Nat.le_trans hs2 Hu3.out.size) (fun hm=>(HH3.out _ hm).elim HN1.out.1 (fun (e:W2.heap.size<=_)=>by omega)) (fun hm=>(HH3.out _ hm).elim HN1.out.2 (fun (e:W2.heap.size<=_)=>by omega)); have x0:=(z1 0).trans y0; have x1:=(z1 1).trans y1; have x2:=(z1 2).trans y2; have x3:=(z1 3).trans y3; have x4:=(z1 4).trans y4; have x5:=(z1 5).trans y5; have x6:=(z1 6).trans y6; have x7:=(z2 0).trans y7; have Hw4:=hide hw4; have Hu4:=hide hu4; have HH4:=hide hH4; clear hw4 hu4 hH4 z1 z2))
  go_wp2_with (go_at_call 94; refine (HF2.out w4 H4 (Hw4.out.mono (fun k hk hl=>⟨hk.elim (fun h=>h.1) (fun h=>.inr (Nat.le_trans Hu3.out.size h)),hl⟩))).mono ?_; rintro e w5 ⟨H5,rfl,hw5,hu5,hH5⟩; have Hw5:=hide hw5; have Hu5:=hide hu5; have HH5:=hide hH5; clear hw5 hu5 hH5)
  go_end0
  have:=say_fin hs2 HU2.out Hu3.out HH3.out Hu4.out HH4.out Hw5.out Hu5.out HH5.out
  exact ⟨H5,rfl,by rw [HM2.out]; exact this.1,this.2⟩
 | false =>
  rw [hxe] at Hk
  have hk0:k=1:=Hk.out
  subst hk0
  have HF2:=hide (fun (w4:World) (H4:Hd) hw4=>(HFin.out w4 H4 hw4).2 hxe)
  have HM2:=hide (HM.out.2 hxe)
  clear hxe Hk HFin HM
  go_enter Tryz.func57,Tryz.ntmps57
  go_wp2_with fail
  rw [<- hW2]
  clear hW2
  go_region_held3 (fun w'=>w'.cell? ⟨w.heap.size,0,none⟩=some (.string a)/\w'.cell? ⟨w.heap.size,1,none⟩=some (.int .i64 p)/\w'.cell? ⟨w.heap.size,2,none⟩=some (.slice g ll cap)/\w'.cell? ⟨w.heap.size,4,none⟩=some (.string a')/\w'.cell? ⟨w.heap.size,5,none⟩=some (.int .i64 p')/\w'.cell? ⟨w.heap.size,6,none⟩=some (.slice g' ll' cap')) ((first | go_keep | (refine ⟨?_,?_,?_,?_,?_,?_⟩ <;> go_simp)))
   (first
    | (go_at_call_of 96 (Value.string a); refine C1.out.mono ?_; rintro e w3 ⟨H3,rfl,hw3,hu3,hH3⟩; obtain ⟨z1,z2⟩:=HK.out w3 _ W2.drew hu3 hs2 HN1.out.1 HN1.out.2; have y0:=(z1 0).trans b0; have y1:=(z1 1).trans b1; have y2:=(z1 2).trans b2; have y3:=(z1 3).trans b3; have y4:=(z1 4).trans b4; have y5:=(z1 5).trans b5; have y6:=(z1 6).trans b6; have y7:=(z2 1).trans t1; have Hw3:=hide hw3; have Hu3:=hide hu3; have HH3:=hide hH3; clear hw3 hu3 hH3 z1 z2)
    | (go_at_call_of 96 (Value.string a'); refine (C2.out w3 H3 Hw3.out Hu3.out).mono ?_; rintro e w4 ⟨H4,rfl,hw4,hu4,hH4⟩; obtain ⟨z1,z2⟩:=HK.out w4 _ w3 hu4 (Nat.le_trans hs2 Hu3.out.size) (fun hm=>(HH3.out _ hm).elim HN1.out.1 (fun (e:W2.heap.size<=_)=>by omega)) (fun hm=>(HH3.out _ hm).elim HN1.out.2 (fun (e:W2.heap.size<=_)=>by omega)); have x0:=(z1 0).trans y0; have x1:=(z1 1).trans y1; have x2:=(z1 2).trans y2; have x3:=(z1 3).trans y3; have x4:=(z1 4).trans y4; have x5:=(z1 5).trans y5; have x6:=(z1 6).trans y6; have x7:=(z2 1).trans y7; have Hw4:=hide hw4; have Hu4:=hide hu4; have HH4:=hide hH4; clear hw4 hu4 hH4 z1 z2))
  go_wp2_with (go_at_call 95; refine (HF2.out w4 H4 (Hw4.out.mono (fun k hk hl=>⟨hk.elim (fun h=>h.1) (fun h=>.inr (Nat.le_trans Hu3.out.size h)),hl⟩))).mono ?_; rintro e w5 ⟨H5,rfl,hw5,hu5,hH5⟩; have Hw5:=hide hw5; have Hu5:=hide hu5; have HH5:=hide hH5; clear hw5 hu5 hH5)
  go_end0
  have:=say_fin hs2 HU2.out Hu3.out HH3.out Hu4.out HH4.out Hw5.out Hu5.out HH5.out
  exact ⟨H5,rfl,by rw [HM2.out]; exact this.1,this.2⟩
end Go.Proofs.YtmfkpllnmmfpiaaGreatDoor
