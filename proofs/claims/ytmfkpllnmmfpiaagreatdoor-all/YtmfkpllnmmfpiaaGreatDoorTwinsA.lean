/- AddModel, Add, Move, Twins -/
import Derived.Test.YtmfkpllnmmfpiaaGreatDoorEnterA
set_option maxHeartbeats 16000000
set_option maxRecDepth 100000
namespace Go.Proofs.YtmfkpllnmmfpiaaGreatDoor
open Go.RowKit
def addAll {α:Type} (f:WS->α->Nat × WS):WS->List α->List Nat × WS
 | S,[]=>([],S)
 | S,x :: l=>let r:=f S x; let q:=addAll f r.2 l; (r.1 :: q.1,q.2)
def shapeOf (name:ByteArray) (ns:List Nat):Sh:=(name,ns.length,ns.getD 0 0,ns.getD 1 0,ns.getD 2 0)
def addM:(n:Nat)->WS->Tm n->Nat × WS
 | 0,S,_=>(0,S)
 | n+1,S,t =>
  let r:=addAll (addM n) S t.parts
  match r.2.numbers (shapeOf t.name r.1) with
  | some k=>(k,r.2)
  | none=>enterM r.2 (shapeOf t.name r.1)
def sumOf {α:Type} (f:α->Nat):List α->Nat
 | []=>0
 | x :: l=>f x+sumOf f l
def sizeT:(n:Nat)->Tm n->Nat
 | 0,_=>0
 | n+1,t=>1+sumOf (sizeT n) t.parts
def allOf {α:Type} (p:α->Prop):List α->Prop
 | []=>True
 | x :: l=>p x/\allOf p l
def Narrow:(n:Nat)->Tm n->Prop
 | 0,_=>False
 | n+1,t=>t.name.size<=1000/\t.parts.length<=3/\allOf (Narrow n) t.parts
structure Inv (S:WS):Prop where
 len:S.shapes.length=S.classes.length
 nums:S.nums=S.shapes.length
 cl:∀ c ∈ S.classes,c < S.classes.length
 al:∀ s t,S.alike s=some t->t < S.shapes.length
 nu:∀ s t,S.numbers s=some t->t < S.shapes.length
theorem Inv.class_lt {S:WS} (h:Inv S) (i:Nat) (hp:0 < S.classes.length):classAt S i < S.classes.length:=by
 unfold classAt
 by_cases hi:i < S.classes.length
 ·rw [List.getD_eq_getElem?_getD,List.getElem?_eq_getElem hi]
  exact h.cl _ (List.getElem_mem hi)
 ·rw [List.getD_eq_getElem?_getD,List.getElem?_eq_none (by omega)]
  exact hp
theorem Inv.file {S:WS} (h:Inv S) (s:Sh) (n:Nat) (hn:n<=S.shapes.length):(∀ t u,(fileM S s n).2.alike t=some u->u < S.shapes.length+1)/\(fileM S s n).1<=S.shapes.length:=by
 unfold fileM
 split
 ·rename_i t ht
  exact ⟨fun a b hab=>by have:=h.al a b hab; omega,Nat.le_of_lt (h.al _ _ ht)⟩
 ·refine ⟨fun a b hab=>?_,hn⟩
  simp only [setF] at hab
  split at hab
  ·cases hab; omega
  ·have:=h.al a b hab; omega
theorem Inv.enter {S:WS} (h:Inv S) (s:Sh):Inv (enterM S s).2/\(enterM S s).1=S.shapes.length/\(enterM S s).2.shapes.length=S.shapes.length+1/\(enterM S s).2.trail.length<=S.trail.length+2/\(enterM S s).2.files<=S.files+1/\(enterM S s).2.said=S.said:=by
 have hf:=h.file s S.shapes.length (Nat.le_refl _)
 obtain ⟨r1,r2,r3,r4,r5,r6,r7⟩:=fileM_rows S s S.shapes.length
 have hlen:=h.len
 have hnums:=h.nums
 refine ⟨⟨?_,?_,?_,?_,?_⟩,rfl,?_,?_,r7,r5⟩
 ·show (_++[s]).length=(_++[_]).length
  rw [r1,r2]
  simp [hlen]
 ·show _+1=(_++[s]).length
  rw [r1,r4]
  simp [hnums]
 ·intro c hc
  simp only [enterM,r2,List.mem_append,List.mem_singleton,List.length_append,List.length_singleton] at hc ⊢
  rcases hc with hc | hc
  ·have:=h.cl c hc; omega
  ·subst hc
   split
   ·omega
   ·rename_i hne
    have hlt:(fileM S s S.shapes.length).1 < S.classes.length:=by have:=hf.2; omega
    have:classAt (fileM S s S.shapes.length).2 (fileM S s S.shapes.length).1=classAt S (fileM S s S.shapes.length).1:=by unfold classAt; rw [r2]
    rw [this]
    have:=h.class_lt (fileM S s S.shapes.length).1 (by omega)
    omega
 ·intro a b hab
  simp only [enterM,r1,List.length_append,List.length_singleton] at hab ⊢
  exact hf.1 a b hab
 ·intro a b hab
  simp only [enterM,r1,r3,setF,List.length_append,List.length_singleton] at hab ⊢
  split at hab
  ·cases hab; omega
  ·have:=h.nu a b hab; omega
 ·simp [enterM,r1]
 ·simp [enterM]; omega
structure Adds (S:WS) (m:Nat) (k:Nat) (S':WS):Prop where
 inv:Inv S'
 lt:k < S'.shapes.length
 lo:S.shapes.length<=S'.shapes.length
 hi:S'.shapes.length<=S.shapes.length+m
 trail:S'.trail.length<=S.trail.length+2 * m
 files:S'.files<=S.files+m
 said:S'.said=S.said
structure AddsAll (S:WS) (m:Nat) (ks:List Nat) (S':WS):Prop where
 inv:Inv S'
 lt:∀ k ∈ ks,k < S'.shapes.length
 lo:S.shapes.length<=S'.shapes.length
 hi:S'.shapes.length<=S.shapes.length+m
 trail:S'.trail.length<=S.trail.length+2 * m
 files:S'.files<=S.files+m
 said:S'.said=S.said
theorem addAll_adds {α:Type} {f:WS->α->Nat × WS} {size:α->Nat} {ok:α->Prop} (hf:∀ S x,Inv S->ok x->Adds S (size x) (f S x).1 (f S x).2) :
  ∀ (l:List α) (S:WS),Inv S->allOf ok l->AddsAll S (sumOf size l) (addAll f S l).1 (addAll f S l).2/\(addAll f S l).1.length=l.length
 | [],S,h,_=>⟨⟨h,fun k hk=>by simp [addAll] at hk,Nat.le_refl _,Nat.le_refl _,Nat.le_refl _,Nat.le_refl _,rfl⟩,rfl⟩
 | x :: l,S,h,hok=>by
  have h1:=hf S x h hok.1
  obtain ⟨h2,h3⟩:=addAll_adds hf l (f S x).2 h1.inv hok.2
  obtain ⟨a1,a2,a3,a4,a5,a6,a7⟩:=h1
  obtain ⟨b1,b2,b3,b4,b5,b6,b7⟩:=h2
  refine ⟨⟨b1,fun k hk=>?_,?_,?_,?_,?_,b7.trans a7⟩,by simp [addAll,h3]⟩
  ·simp only [addAll,List.mem_cons] at hk ⊢
   rcases hk with rfl | hk
   ·omega
   ·exact b2 k hk
  ·simp only [addAll]; omega
  ·simp only [addAll,sumOf]; omega
  ·simp only [addAll,sumOf]; omega
  ·simp only [addAll,sumOf]; omega
theorem addM_adds:∀ (n:Nat) (S:WS) (t:Tm n),Inv S->Narrow n t->Adds S (sizeT n t) (addM n S t).1 (addM n S t).2
 | 0,_,_,_,h=>h.elim
 | n+1,S,t,h,hn=>by
  obtain ⟨⟨b1,b2,b3,b4,b5,b6,b7⟩,hl⟩:=addAll_adds (addM_adds n) t.parts S h hn.2.2
  unfold addM sizeT
  simp only
  split
  ·rename_i k hk
   exact ⟨b1,b1.nu _ _ hk,b3,by simp only; omega,by simp only; omega,by simp only; omega,b7⟩
  ·obtain ⟨e1,e2,e3,e4,e5,e6⟩:=b1.enter (shapeOf t.name (addAll (addM n) S t.parts).1)
   exact ⟨e1,by omega,by omega,by omega,by omega,by omega,e6.trans b7⟩
def shp (name:ByteArray) (len:Nat) (ns:List Nat):Sh:=(name,len,ns.getD 0 0,ns.getD 1 0,ns.getD 2 0)
theorem shp_snoc (name:ByteArray) (len v:Nat) (ns:List Nat) (h:ns.length < 3):setPart (shp name len ns) ns.length v=shp name len (ns++[v]):=by
 match ns,h with
 | [],_=>rfl
 | [_],_=>rfl
 | [_,_],_=>rfl
theorem shp_full (name:ByteArray) (ns:List Nat):shp name ns.length ns=shapeOf name ns:=rfl
theorem addAll_snoc {α:Type} (f:WS->α->Nat × WS):∀ (l:List α) (S:WS) (x:α),addAll f S (l++[x])=((addAll f S l).1++[(f (addAll f S l).2 x).1],(f (addAll f S l).2 x).2)
 | [],_,_=>rfl
 | y :: l,S,x=>by
  simp only [List.cons_append,addAll]
  rw [addAll_snoc f l]
theorem allOf_get {α:Type} {p:α->Prop}:∀ {l:List α} {i:Nat} (h:i < l.length),allOf p l->p l[i]
 | x :: l,0,_,h=>h.1
 | x :: l,i+1,hi,h=>allOf_get (l:=l) (i:=i) (by simpa using hi) h.2
theorem allOf_take {α:Type} {p:α->Prop}:∀ {l:List α} (i:Nat),allOf p l->allOf p (l.take i)
 | [],i,_=>by simp [allOf]
 | x :: l,0,_=>by simp [allOf]
 | x :: l,i+1,h=>⟨h.1,allOf_take i h.2⟩
theorem sumOf_take {α:Type} (f:α->Nat):∀ (l:List α) (i:Nat) (h:i < l.length),sumOf f (l.take i)+f l[i]<=sumOf f l
 | x :: l,0,_=>by simp [sumOf]
 | x :: l,i+1,h=>by
  have:=sumOf_take f l i (by simpa using h)
  simp [sumOf]
  omega
theorem addM_known {n:Nat} {S:WS} {t:Tm (n+1)} {k:Nat} (h:(addAll (addM n) S t.parts).2.numbers (shapeOf t.name (addAll (addM n) S t.parts).1)=some k):addM (n+1) S t=(k,(addAll (addM n) S t.parts).2):=by
 unfold addM
 simp only [h]
theorem addM_new {n:Nat} {S:WS} {t:Tm (n+1)} (h:(addAll (addM n) S t.parts).2.numbers (shapeOf t.name (addAll (addM n) S t.parts).1)=none):addM (n+1) S t=enterM (addAll (addM n) S t.parts).2 (shapeOf t.name (addAll (addM n) S t.parts).1):=by
 rw [addM]
 simp only [h]
structure Room (S:WS) (m:Nat):Prop where
 shapes:S.shapes.length+m<=50000
 trail:S.trail.length+2 * m<=8000000
 files:S.files+m<=9000000
def AddOK (n:Nat):Prop:=∀ (w:World) (wb:Nat) (H:Hd) (Z F:Nat->Prop) (S:WS) (c:V3) (t:Tm n),WebAt w wb H Z S->IsTm w F n c t->(∀ k,F k->¬ Z k)->Inv S->Narrow n t->Room S (sizeT n t)->(∀ k,Z k->k < w.heap.size) ->
 Calls Tryz.prog 96 #[.pointer (some ⟨wb,0,none⟩),.agg #[c.1,c.2.1,c.2.2]] w fun e w'=>∃ H',e=.returned (.int .i64 (addM n S t).1)/\WebAt w' wb H' (fun k=>Z k\/w.heap.size<=k) (addM n S t).2/\Upd (H.blocks wb) w w'/\∀ k ∈ H'.blocks wb,k ∈ H.blocks wb\/w.heap.size<=k
structure Adding (w wr:World) (wb:Nat) (H:Hd) (Z:Nat->Prop) (S:WS) (name:ByteArray) (len:Nat) (ns:List Nat):Prop where
 ex:∃ H',WebAt wr wb H' (fun k=>Z k\/w.heap.size+2<=k) S/\∀ k ∈ H'.blocks wb,k ∈ H.blocks wb\/w.heap.size+2<=k
 var:VarSh wr (w.heap.size+1) (shp name len ns)
 upd:Upd (H.blocks wb) w wr
 size:w.heap.size+2<=wr.heap.size
theorem Fits.of {S:WS} {name:ByteArray} {ns:List Nat} (h:Inv S) (hn:name.size<=1000) (hl:ns.length<=3) (hk:∀ k ∈ ns,k < S.shapes.length) (hs:S.shapes.length<=50000):Fits S (shapeOf name ns)/\GoodSh (shapeOf name ns):=by
 have hlen:=h.len
 have get:∀ i,i < ns.length->ns.getD i 0 < S.shapes.length:=fun i hi=>by
  rw [List.getD_eq_getElem?_getD,List.getElem?_eq_getElem hi]
  exact hk _ (List.getElem_mem hi)
 have le:∀ i,ns.getD i 0<=1000000:=fun i=>by
  by_cases hi:i < ns.length
  ·have:=get i hi; omega
  ·rw [List.getD_eq_getElem?_getD,List.getElem?_eq_none (by omega)]; simp
 refine ⟨⟨hn,hl,fun i hi=>?_,⟨le 0,le 1,le 2⟩,fun i=>?_⟩,hn,by show ns.length<=_; omega,le 0,le 1,le 2⟩
 ·have hi':i < ns.length:=hi
  have hg:=get i hi'
  rw [<- hlen]
  match i,hi',hg with
  | 0,_,hg=>exact hg
  | 1,_,hg=>exact hg
  | 2,_,hg=>exact hg
  | i+3,hi',_=>omega
 ·by_cases hp:0 < S.classes.length
  ·have:=h.class_lt i hp; omega
  ·have:S.classes=[]:=List.eq_nil_of_length_eq_zero (by omega)
   simp [classAt,this]
theorem Adding.step {w wr w2:World} {wb:Nat} {H Hj H2:Hd} {Z:Nat->Prop} {S S2:WS} {name:ByteArray} {len k:Nat} {ns:List Nat} {X:Obj} (h:Adding w wr wb H Z S name len ns) (hlt:∀ k ∈ H.blocks wb,k < w.heap.size) (hZ:∀ k,Z k->k < w.heap.size)
  (hbj:∀ k ∈ Hj.blocks wb,k ∈ H.blocks wb\/w.heap.size+2<=k)
  (hw2:WebAt w2 wb H2 (fun k=>((Z k\/w.heap.size+2<=k)/\k < wr.heap.size)\/(wr.alloc X).heap.size<=k) S2) (U2:Upd (Hj.blocks wb) (wr.alloc X) w2) (hb2:∀ k ∈ H2.blocks wb,k ∈ Hj.blocks wb\/(wr.alloc X).heap.size<=k) (hns:ns.length < 3) :
  VarSh w2 (w.heap.size+1) (shp name len ns)/\Adding w (w2.setCell ⟨w.heap.size+1,2+ns.length,none⟩ (.int .i64 k)) wb H Z S2 name len (ns++[k]):=by
 have hsz:=h.size
 have e1:(wr.alloc X).heap.size=wr.heap.size+1:=by simp
 have no:w.heap.size+1 ∉ Hj.blocks wb:=fun hm=>by
  rcases hbj _ hm with h3 | h3
  ·have:=hlt _ h3; omega
  ·omega
 have UA:Upd (Hj.blocks wb) wr w2:=((Upd.refl _ wr).alloc X).trans U2
 have hv:=h.var.later UA no
 have US:=(Upd.refl [w.heap.size+1] w2).setCell (p:=⟨w.heap.size+1,2+ns.length,none⟩) (by simp) (.int .i64 (k:Int))
 have hs2:=UA.size
 refine ⟨hv,⟨⟨H2,(hw2.mono (Z':=fun k=>Z k\/w.heap.size+2<=k) (fun j hj _=>?_)).later US (fun j hj hm=>?_),fun j hj=>?_⟩,?_,(h.upd.trans' UA (fun x hx hl=>?_)).trans' US (fun x hx hl=>by simp at hx; omega),by have:=US.size; omega⟩⟩
 ·rcases hj with hj | hj
  ·exact hj.1
  ·exact .inr (by omega)
 ·simp at hm
  rcases hj with hj | hj
  ·have:=hZ j hj; omega
  ·omega
 ·rcases hb2 j hj with h3 | h3
  ·exact hbj j h3
  ·exact .inr (by omega)
 ·rw [<- shp_snoc _ _ _ _ hns]
  exact hv.set ns.length k hns rfl
 ·rcases hbj x hx with h3 | h3
  ·exact h3
  ·omega
theorem add_succ (n:Nat) (hAdd:AddOK n):AddOK (n+1):=by
 rintro w wb H Z F S ⟨c0,c1,c2⟩ t hweb ⟨h0,h1,cs,hown,hF,hall⟩ hFZ hinv ⟨hname,hlen3,hnar⟩ hroom hZ
 simp only at h0 h1 hown hF
 subst h0 h1
 obtain ⟨g,l,cap,hc2,hl,hlc,hcm,hg⟩:∃ (g:Option Addr) (l cap:Nat),c2=.slice g l cap/\l=t.parts.length/\l<=cap/\cap<=maxLen/\(0 < l->∃ b,g=some ⟨b,0,none⟩):=by
  rcases ownsRow_slice hown with ⟨rfl,hn⟩ | ⟨g,cap,rfl,h2,h3⟩
  ·exact ⟨none,0,0,rfl,hn.symm,Nat.le_refl _,Nat.zero_le _,fun h=>by omega⟩
  ·exact ⟨_,_,cap,rfl,rfl,h2,h3,fun _=>⟨g,rfl⟩⟩
 subst hc2
 have hlt:=hweb.mem_lt
 have hstart:Adding w ((w.alloc (.cells #[.string t.name,.int .i64 t.place,.slice g l cap] 98)).alloc (.cells #[.string t.name,.int .i64 l,.int .i64 0,.int .i64 0,.int .i64 0] 141)) wb H Z S t.name l []:=by
  have U:=((Upd.refl [] w).alloc (.cells #[.string t.name,.int .i64 t.place,.slice g l cap] 98)).alloc (.cells #[.string t.name,.int .i64 l,.int .i64 0,.int .i64 0,.int .i64 0] 141)
  have hv:=VarSh.new (w.alloc (.cells #[.string t.name,.int .i64 t.place,.slice g l cap] 98)) (shp t.name l []) 141
  have e1:(w.alloc (.cells #[.string t.name,.int .i64 t.place,.slice g l cap] 98)).heap.size=w.heap.size+1:=by simp
  rw [e1] at hv
  exact ⟨⟨H,(hweb.later U (fun _ _=>by simp)).mono (fun k hk _=>.inl hk),fun k hk=>.inl hk⟩,hv,U.mono (fun x hx _=>by cases hx),by simp⟩
 have Hl:Hid (l=t.parts.length):=hl
 have HO:Hid (w.ownsRow 0 98 3 (.slice g l cap) l (flat3 cs)):=by show World.ownsRow _ _ _ _ _ _ _; rw [hl] at hown ⊢; exact hown
 have HA:=hide hall
 have HF:=hide hF
 have HG:=hide hg
 have Hnar:=hide hnar
 have hl3:l<=3:=by omega
 unfold maxLen at hcm
 clear hl hown hall hF hg hnar hlen3
 go_enter Tryz.func96,Tryz.ntmps96
 go_wp2
 go_loopw [19] (fun i wr=>∃ j:Nat,j<=l/\i=.int .i64 j/\Hid (Adding w wr wb H Z (addAll (addM n) S (t.parts.take j)).2 t.name l (addAll (addM n) S (t.parts.take j)).1)) (fun i _=>l - (intOf i).toNat)
 case atStart=>exact ⟨0,Nat.zero_le _,rfl,hstart⟩
 case round =>
  obtain ⟨j,hj,rfl,HR⟩:=hrel
  clear hstart
  by_cases hjl:j < l
  ·have hjl':(j:Int) < (l:Int):=by omega
   have hjp:j < t.parts.length:=by rw [<- Hl.out]; exact hjl
   obtain ⟨b,rfl⟩:=HG.out (by omega)
   obtain ⟨c,hck,hic⟩:=HA.out.get (i:=j) (List.getElem?_eq_getElem hjp)
   have hb0:b < w.heap.size:=ownsRow_lt HO.out rfl
   have hbF:F b:=HF.out b rfl
   have hbH:b ∉ H.blocks wb:=fun hm=>hFZ b hbF (hweb.inZ b hm)
   obtain ⟨k0,k1,k2⟩:=row3_cells HO.out hck
   obtain ⟨a,p,g2,l2,cap2,rfl⟩:=hic.form
   have hR:=HR.out
   have upd:=hR.upd
   have k0':=(upd.cell (p:=⟨b,j * 3,none⟩) hb0 hbH).trans k0
   have k1':=(upd.cell (p:=⟨b,j * 3+1,none⟩) hb0 hbH).trans k1
   have k2':=(upd.cell (p:=⟨b,j * 3+2,none⟩) hb0 hbH).trans k2
   obtain ⟨Hj,hwj,hbj⟩:=hR.ex
   obtain ⟨⟨a1,a2,a3,a4,a5,a6,a7⟩,a8⟩:=addAll_adds (addM_adds n) (t.parts.take j) S hinv (allOf_take j Hnar.out)
   have hsum:=sumOf_take (sizeT n) t.parts j hjp
   have hroom':=hroom
   obtain ⟨m1,m2,m3⟩:=hroom'
   have hcall:Hid (∀ X,Calls Tryz.prog 96 #[.pointer (some ⟨wb,0,none⟩),.agg #[.string a,.int .i64 p,.slice g2 l2 cap2]] (wr.alloc X) _):=fun X =>
    hAdd (wr.alloc X) wb Hj (fun k=>(Z k\/w.heap.size+2<=k)/\k < wr.heap.size) (fun k=>F k/\k < w.heap.size) _ (.string a,.int .i64 p,.slice g2 l2 cap2) t.parts[j]
     ((hwj.mono (Z':=fun k=>(Z k\/w.heap.size+2<=k)/\k < wr.heap.size) (fun k hk hl=>⟨hk,hl⟩)).later ((Upd.refl [] wr).alloc X) (fun _ _=>by simp))
     (((hic.mono (F':=fun k=>F k/\k < w.heap.size) fun k hk hl=>⟨hk,hl⟩).later upd (fun k hk hm=>hFZ k hk.1 (hweb.inZ k hm))).later ((Upd.refl [] wr).alloc X) (fun _ _=>by simp))
     (fun k hk hz=>by rcases hz.1 with hz | hz; exact hFZ k hk.1 hz; have:=hk.2; omega) a1 (allOf_get hjp Hnar.out) ⟨by simp only [sizeT] at m1; omega,by simp only [sizeT] at m2; omega,by simp only [sizeT] at m3; omega⟩ (fun k hk=>by have:=hk.2; simp; omega)
   have hnl:(addAll (addM n) S (t.parts.take j)).1.length=j:=by rw [a8,List.length_take]; omega
   have hstep:Hid (addAll (addM n) S (t.parts.take (j+1))=((addAll (addM n) S (t.parts.take j)).1++[(addM n (addAll (addM n) S (t.parts.take j)).2 t.parts[j]).1],(addM n (addAll (addM n) S (t.parts.take j)).2 t.parts[j]).2)):=by
    show _=_
    rw [List.take_succ_eq_append_getElem hjp,addAll_snoc]
   generalize addAll (addM n) S (t.parts.take j)=r at *
   generalize addM n r.2 t.parts[j]=q at *
   have Hst:=hide (fun (X:Obj) (w2:World) (H2:Hd) hw2 U2 hb2=>hR.step (X:=X) (w2:=w2) (H2:=H2) (S2:=q.2) (k:=q.1) hlt hZ hbj hw2 U2 hb2 (by rw [hnl]; omega))
   have Hnl:Hid (r.1.length=j):=hnl
   clear hnl k0 k1 k2 hck hwj a1 a2 a3 a4 a5 a6 a7 a8 hic hR
   go_wp2_with (go_at_call 96; refine (hcall.out _).mono ?_; rintro e w2 ⟨H2,rfl,hw2,hu2,hH2⟩; have hv2:=(Hst.out _ _ _ hw2 hu2 hH2).1; have pc:=hv2.box.part j (by omega); have pf:=hv2.free)
   refine ⟨⟨j+1,by omega,by go_num,?_⟩,by simp [intOf]; omega⟩
   have hfin:=(Hst.out _ _ _ hw2 hu2 hH2).2
   rw [Hnl.out] at hfin
   show Adding _ _ _ _ _ _ _ _ _
   rw [hstep.out]
   exact hfin
  ·obtain rfl:j=l:=by omega
   have hge:¬ (j:Int) < (j:Int):=by omega
   have htk:t.parts.take j=t.parts:=List.take_of_length_le (by rw [<- Hl.out]; omega)
   have hR:=HR.out
   rw [htk] at hR
   obtain ⟨⟨a1,a2,a3,a4,a5,a6,a7⟩,a8⟩:=addAll_adds (addM_adds n) t.parts S hinv Hnar.out
   have hroom':=hroom
   obtain ⟨m1,m2,m3⟩:=hroom'
   simp only [sizeT] at m1 m2 m3
   have HEs:=hide (fun k=>addM_known (n:=n) (S:=S) (t:=t) (k:=k))
   have HEn:=hide (addM_new (n:=n) (S:=S) (t:=t))
   have Hlen:Hid ((addAll (addM n) S t.parts).1.length=j):=a8.trans Hl.out.symm
   generalize addAll (addM n) S t.parts=r at *
   obtain ⟨Hj,hwj,hbj⟩:=hR.ex
   obtain ⟨hfit,hgood⟩:=Fits.of a1 hname (by rw [Hlen.out]; omega) a2 (by omega)
   have hvar:VarSh wr (w.heap.size+1) (shapeOf t.name r.1):=by
    have:=hR.var
    rw [<- Hlen.out,shp_full] at this
    exact this
   have hlook:∀ nq,(Instr.lookup 108 (.map (some Hj.nb)) (.agg #[.string (shapeOf t.name r.1).1,.int .i64 (shapeOf t.name r.1).2.1,.int .i64 (shapeOf t.name r.1).2.2.1,.int .i64 (shapeOf t.name r.1).2.2.2.1,.int .i64 (shapeOf t.name r.1).2.2.2.2]) true).run Tryz.prog (wr.drewN nq)=.ok (.tuple #[.int .i64 ((r.2.numbers (shapeOf t.name r.1)).getD 0:Nat),.bool (r.2.numbers (shapeOf t.name r.1)).isSome]) (wr.drewN nq) :=
    fun nq=>(hwj.mn.later ((Upd.refl [] wr).drewN nq) (by simp)).look _ hgood
   have cc:=hwj.c2
   have hsz:=hR.size
   have hupd:=hR.upd
   obtain ⟨v0,v1,v2,v3,v4,v5⟩:=hvar.box
   generalize shapeOf t.name r.1=sh at *
   cases hnu:r.2.numbers sh with
   | some k =>
    rw [hnu] at hlook
    simp only [Option.getD_some,Option.isSome_some] at hlook
    have HE':Hid (addM (n+1) S t=(k,r.2)):=HEs.out k hnu
    have HW:Hid (WebAt wr wb Hj (fun k=>Z k\/w.heap.size<=k) r.2):=hwj.mono fun k hk _=>by rcases hk with hk | hk; exact .inl hk; exact .inr (by omega)
    have Hbj:=hide hbj
    clear hnu HR hR hwj hfit hvar HEs HEn a1 a2 a8 hbj
    go_wp2
    go_quiet (fail)
    go_wp2
    go_ret
    exact ⟨Hj,by rw [HE'.out]; rfl,by rw [HE'.out]; exact HW.out.later ((Upd.refl [] _).drewN _) (fun _ _=>by simp),hupd.drewN _,fun k hk=>(Hbj.out k hk).imp id (fun e=>by omega)⟩
   | none =>
    rw [hnu] at hlook
    simp only [Option.getD_none,Option.isSome_none] at hlook
    have HE':Hid (addM (n+1) S t=enterM r.2 sh):=HEn.out hnu
    have HC:Hid (∀ nq,Calls Tryz.prog 129 #[.pointer (some ⟨wb,0,none⟩),shV sh] (wr.drewN nq) _):=fun nq =>
     enter_any (wr.drewN nq) wb Hj (fun k=>(Z k\/w.heap.size+2<=k)/\k < wr.heap.size) r.2 sh ((hwj.mono (Z':=fun k=>(Z k\/w.heap.size+2<=k)/\k < wr.heap.size) (fun k hk hl=>⟨hk,hl⟩)).later ((Upd.refl [] wr).drewN nq) (fun _ _=>by simp)) hfit hgood (by omega) (by omega) (by rw [a1.nums]; omega) a1.len (by omega) (fun u hu=>by rw [<- a1.len]; exact a1.al _ _ hu) (fun k hk=>hk.2)
    have Hbj:=hide hbj
    clear hnu HR hR hwj hfit hvar HEs HEn a1 a2 a8 hbj
    unfold shV at HC
    go_wp2
    go_quiet (fail)
    go_wp2_with (go_at_call 129; refine (HC.out _).mono ?_; rintro e w2 ⟨H2,rfl,hw2,hu2,hH2⟩)
    go_ret
    have hw3:=hw2.mono (Z':=fun k=>Z k\/w.heap.size<=k) (fun k hk _=>by
     rcases hk with hk | hk
     ·rcases hk.1 with hk | hk
      ·exact .inl hk
      ·exact .inr (by omega)
     ·exact .inr (Nat.le_trans (show w.heap.size<=wr.heap.size by omega) hk))
    refine ⟨H2,by rw [HE'.out]; rfl,by rw [HE'.out]; exact hw3,(hupd.drewN _).trans' hu2 (fun k hk hl=>?_),fun k hk=>?_⟩
    ·rcases Hbj.out k hk with h3 | h3
     ·exact h3
     ·omega
    ·rcases hH2 k hk with h3 | h3
     ·exact (Hbj.out k h3).imp id (fun e=>by omega)
     ·exact .inr (Nat.le_trans (show w.heap.size<=wr.heap.size by omega) h3)
theorem add_ok:∀ n,AddOK n
 | 0=>fun _ _ _ _ _ _ _ _ _ h=>h.elim
 | n+1=>add_succ n (add_ok n)
def moveTo (S:WS) (f t:Nat):Nat->WS
 | 0=>S
 | i+1=>let R:=moveTo S f t i
  if classAt R i=f then { R with classes:=R.classes.set i t,trail:=R.trail++[⟨3,(⟨#[]⟩,0,0,0,0),i,f⟩] } else R
def moveM (S:WS) (f t:Nat):WS:=moveTo S f t S.classes.length
theorem moveTo_rows (S:WS) (f t:Nat):∀ i,(moveTo S f t i).classes.length=S.classes.length/\(moveTo S f t i).shapes=S.shapes/\(moveTo S f t i).numbers=S.numbers/\(moveTo S f t i).alike=S.alike/\(moveTo S f t i).said=S.said/\(moveTo S f t i).nums=S.nums/\(moveTo S f t i).files=S.files/\(moveTo S f t i).trail.length<=S.trail.length+i
 | 0=>⟨rfl,rfl,rfl,rfl,rfl,rfl,rfl,Nat.le_refl _⟩
 | i+1=>by
  obtain ⟨h1,h2,h3,h4,h5,h6,h7,h8⟩:=moveTo_rows S f t i
  unfold moveTo
  simp only
  split
  ·exact ⟨by simp [h1],h2,h3,h4,h5,h6,h7,by simp; omega⟩
  ·exact ⟨h1,h2,h3,h4,h5,h6,h7,by omega⟩
theorem ownsRow_set1 {w:World} {base e g len cap n:Nat} {l:List Nat} {i v:Nat} (h:w.ownsRow base e 1 (.slice (some ⟨g,0,none⟩) len cap) n (intsOf l)) :
  (w.setCell ⟨g,i,none⟩ (.int .i64 v)).ownsRow base e 1 (.slice (some ⟨g,0,none⟩) len cap) n (intsOf (l.set i v)):=by
 obtain ⟨hl,hr⟩:=h
 refine ⟨by simpa [intsOf] using hl,?_⟩
 rcases hr with ⟨hv,_⟩ | ⟨g',cap',cur,hv,hb,hg,h1,h2,h3,htk⟩
 ·cases hv
 ·cases hv
  refine .inr ⟨g,cap,cur.setIfInBounds i (.int .i64 v),rfl,hb,?_,h1,h2,by simpa using h3,?_⟩
  ·exact heap_setCell_same w g i cur e _ hg
  ·rw [Array.toList_setIfInBounds,List.take_set,htk]
   simp [intsOf,List.map_set]
theorem WebAt.set_class {w:World} {wb g cap i v:Nat} {H:Hd} {Z:Nat->Prop} {S:WS} (h:WebAt w wb H Z S) (hcl:H.classes=.slice (some ⟨g,0,none⟩) S.classes.length cap):WebAt (w.setCell ⟨g,i,none⟩ (.int .i64 v)) wb H Z { S with classes:=S.classes.set i v }:=by
 have hA:=Hd.parts h.apart
 have hg:H.classes.ownBlock=some g:=by rw [hcl]; rfl
 have hn:=hA.c g hg
 have U:=(Upd.refl [g] w).setCell (p:=⟨g,i,none⟩) (by simp) (.int .i64 (v:Int))
 have hwb:wb ∉ [g]:=by simp; exact fun e=>hn.1 e.symm
 obtain ⟨cls,hrow,hall⟩:=h.rb
 exact {
  lt:=Nat.lt_of_lt_of_le h.lt U.size
  free:=fun o=>(U.frozen (p:=⟨wb,o,none⟩) h.lt hwb).trans (h.free o)
  c0:=(U.cell h.lt hwb).trans h.c0
  c1:=(U.cell h.lt hwb).trans h.c1
  c2:=(U.cell h.lt hwb).trans h.c2
  c3:=(U.cell h.lt hwb).trans h.c3
  c4:=(U.cell h.lt hwb).trans h.c4
  c5:=(U.cell h.lt hwb).trans h.c5
  cm:=(U.cell h.lt hwb).trans h.cm
  rs:=U.ownsRow h.rs fun k hk hm=>by simp at hm; subst hm; exact hn.2.2.2.2.1 hk
  rc:=by
   have:=h.rc
   rw [hcl] at this ⊢
   simpa using ownsRow_set1 (v:=v) this
  rd:=U.ownsRow h.rd fun k hk hm=>by simp at hm; subst hm; exact hn.2.2.2.2.2 hk
  rm:=U.ownsRow h.rm fun k hk hm=>by simp at hm; subst hm; exact (hA.m k hk).2.2.2.2.2.1 hg
  mn:=h.mn.later U (by simp; exact fun e=>hn.2.1 e.symm)
  ma:=h.ma.later U (by simp; exact fun e=>hn.2.2.1 e.symm)
  apart:=h.apart
  rb:=⟨cls,U.ownsRow hrow (fun k hk hm=>by simp at hm; subst hm; exact hn.2.2.2.1 hk),hall.mono fun _ _ hi=>hi.later U fun k hk hm=>hk.2 (by simp at hm; subst hm; exact Hd.mem_classes hg)⟩
  inZ:=h.inZ }
theorem row_free {w:World} {base e size g len cap n:Nat} {xs:List Value} (h:w.ownsRow base e size (.slice (some ⟨g,0,none⟩) len cap) n xs) (o:Nat):w.frozen? ⟨g,o,none⟩=false:=by
 rcases h.2 with ⟨hv,_⟩ | ⟨g',cap',cur,hv,_,hg,_⟩
 ·cases hv
 ·cases hv
  simp [World.frozen?,hg]
structure Moving (w wr:World) (wb:Nat) (H:Hd) (Z:Nat->Prop) (f:Nat) (S:WS):Prop where
 ex:∃ bk,WebAt wr wb { H with backs:=bk } (fun k=>Z k\/w.heap.size<=k) S/\∀ k ∈ ({ H with backs:=bk }:Hd).blocks wb,k ∈ H.blocks wb\/w.heap.size+2<=k
 bw:wr.cell? ⟨w.heap.size,0,none⟩=some (.pointer (some ⟨wb,0,none⟩))
 bf:wr.cell? ⟨w.heap.size+1,0,none⟩=some (.int .i64 f)
 upd:Upd (H.blocks wb) w wr
 size:w.heap.size+2<=wr.heap.size
theorem move_any (w:World) (wb:Nat) (H:Hd) (Z:Nat->Prop) (S:WS) (f t:Nat) (h:WebAt w wb H Z S) (hlen:S.classes.length<=100000) (htr:S.trail.length+S.classes.length<=9000000) :
  Calls Tryz.prog 155 #[.pointer (some ⟨wb,0,none⟩),.int .i64 f,.int .i64 t] w fun e w'=>∃ H',e=.returned (.tuple #[])/\WebAt w' wb H' (fun k=>Z k\/w.heap.size<=k) (moveM S f t)/\Upd (H.blocks wb) w w'/\∀ k ∈ H'.blocks wb,k ∈ H.blocks wb\/w.heap.size<=k:=by
 have hltb:=h.mem_lt
 obtain ⟨W2,hW2⟩:∃ W2,W2=(w.alloc (.cells #[.pointer (some ⟨wb,0,none⟩)] 27)).alloc (.cells #[.int .i64 f] 3):=⟨_,rfl⟩
 have U2:Upd [] w W2:=hW2 ▸ ((Upd.refl [] w).alloc _).alloc _
 have hs2:w.heap.size+2<=W2.heap.size:=by rw [hW2]; simp
 have hstart:Moving w W2 wb H Z f S:=⟨⟨H.backs,(h.later U2 (fun _ _=>by simp)).mono (fun k hk _=>.inl hk),fun k hk=>.inl hk⟩,by rw [hW2]; go_simp,by rw [hW2]; go_simp,U2.mono (fun x hx _=>by cases hx),hs2⟩
 obtain ⟨g,l,cap,hcl,hl,hlc,hcm,hg⟩:∃ (g:Option Addr) (l cap:Nat),H.classes=.slice g l cap/\l=S.classes.length/\l<=cap/\cap<=maxLen/\(0 < l->∃ b,g=some ⟨b,0,none⟩):=by
  rcases ownsRow_slice h.rc with ⟨h1,h2⟩ | ⟨g,cap,h1,h2,h3⟩
  ·exact ⟨none,0,0,h1,h2.symm,Nat.le_refl _,Nat.zero_le _,fun h=>by omega⟩
  ·exact ⟨_,_,cap,h1,rfl,h2,h3,fun _=>⟨g,rfl⟩⟩
 have c3:=((((Upd.refl [] w).alloc (.cells #[.pointer (some ⟨wb,0,none⟩)] 27)).alloc (.cells #[.int .i64 f] 3)).cell (p:=⟨wb,4,none⟩) h.lt (by simp)).trans h.c3
 rw [hcl] at c3
 have Hl:Hid (l=S.classes.length):=hl
 have Hcl:Hid (H.classes=.slice g l cap):=hcl
 have HG:=hide hg
 have hl1:l<=100000:=by omega
 have htr':S.trail.length+l<=9000000:=by omega
 unfold maxLen at hcm
 clear hl hcl hg hlen htr
 go_enter Tryz.func155,Tryz.ntmps155
 go_wp2
 rw [<- hW2]
 clear hW2 c3
 go_loopw [13] (fun i wr=>∃ j:Nat,j<=l/\i=.int .i64 j/\Hid (Moving w wr wb H Z f (moveTo S f t j))) (fun i _=>l - (intOf i).toNat)
 case atStart=>exact ⟨0,Nat.zero_le _,rfl,hstart⟩
 case round =>
  obtain ⟨j,hj,rfl,HR⟩:=hrel
  clear hstart
  have hR:=HR.out
  by_cases hjl:j < l
  ·have hjl':(j:Int) < (l:Int):=by omega
   obtain ⟨b,rfl⟩:=HG.out (by omega)
   obtain ⟨r1,r2,r3,r4,r5,r6,r7,r8⟩:=moveTo_rows S f t j
   have hlenR:l=(moveTo S f t j).classes.length:=Hl.out.trans r1.symm
   obtain ⟨bk,hwj,hbj⟩:=hR.ex
   have hrc:=hwj.rc
   have hcl2:({ H with backs:=bk }:Hd).classes=.slice (some ⟨b,0,none⟩) (moveTo S f t j).classes.length cap:=by rw [<- hlenR]; exact Hcl.out
   rw [hcl2] at hrc
   have hcell:=row1_cell (i:=j) hrc (by omega)
   have hsucc:Hid (moveTo S f t (j+1)=if classAt (moveTo S f t j) j=f then { moveTo S f t j with classes:=(moveTo S f t j).classes.set j t,trail:=(moveTo S f t j).trail++[⟨3,(⟨#[]⟩,0,0,0,0),j,f⟩] } else moveTo S f t j):=rfl
   have hlr:j < (moveTo S f t j).classes.length:=by omega
   have hrt:(moveTo S f t j).trail.length<=9000000:=by omega
   have Hlr:=hide hlenR
   clear r1 r2 r3 r4 r5 r6 r7 r8 hlenR
   generalize moveTo S f t j=R at *
   have hca:R.classes.getD j 0=classAt R j:=rfl
   rw [hca] at hcell
   have f1:=hR.bw
   have f2:=hR.bf
   have hsz:=hR.size
   have hupd:=hR.upd
   have Ux:=fun (x:Obj)=>((Upd.refl [] wr).alloc x)
   have hwlt:wb < w.heap.size:=hltb wb (H.mem_wb wb)
   have hblt:b < wr.heap.size:=World.block_lt_of_cell? _ _ hcell
   have X1:∀ x:Obj,(wr.alloc x).cell? ⟨w.heap.size+1,0,none⟩=some (.int .i64 f):=fun x=>((Ux x).cell (p:=⟨w.heap.size+1,0,none⟩) (by show w.heap.size+1 < _; omega) (by simp)).trans f2
   have X0:∀ x:Obj,(wr.alloc x).cell? ⟨w.heap.size,0,none⟩=some (.pointer (some ⟨wb,0,none⟩)):=fun x=>((Ux x).cell (p:=⟨w.heap.size,0,none⟩) (by show w.heap.size < _; omega) (by simp)).trans f1
   by_cases heq:classAt R j=f
   ·have heq':((classAt R j:Int) == (f:Int))=true:=by simp; omega
    have hs1:=hsucc.out
    rw [if_pos heq] at hs1
    have Hs1:=hide hs1
    have c3:=hwj.c3
    have hcf:({ H with backs:=bk }:Hd).classes=.slice (some ⟨b,0,none⟩) l cap:=Hcl.out
    rw [hcf] at c3
    have X3:∀ x:Obj,(wr.alloc x).cell? ⟨wb,4,none⟩=some (.slice (some ⟨b,0,none⟩) l cap):=fun x=>((Ux x).cell (p:=⟨wb,4,none⟩) hwj.lt (by simp)).trans c3
    have X4:∀ x:Obj,(wr.alloc x).cell? ⟨b,j,none⟩=some (.int .i64 (classAt R j)):=fun x=>((Ux x).cell (p:=⟨b,j,none⟩) hblt (by simp)).trans hcell
    have Xf:∀ (x:Obj) (o:Nat),(wr.alloc x).frozen? ⟨b,o,none⟩=false:=fun x o=>((Ux x).frozen (p:=⟨b,o,none⟩) hblt (by simp)).trans (row_free hrc o)
    have hbn:b ≠ w.heap.size:=fun e=>by
     rcases hbj b (Hd.mem_classes (by rw [hcl2]; rfl)) with h3 | h3
     ·have:=hltb b h3; omega
     ·omega
    have hbn1:b ≠ w.heap.size+1:=fun e=>by
     rcases hbj b (Hd.mem_classes (by rw [hcl2]; rfl)) with h3 | h3
     ·have:=hltb b h3; omega
     ·omega
    have hbH:b ∈ H.blocks wb:=Hd.mem_classes (by rw [Hcl.out]; rfl)
    have HW:Hid (WebAt ((wr.setCell ⟨b,j,none⟩ (.int .i64 t)).alloc (.cells #[.int .i64 j] 3)).drew wb { H with backs:=bk } (fun k=>Z k\/w.heap.size<=k) { R with classes:=R.classes.set j t }) :=
     (hwj.set_class hcl2).later (((Upd.refl [] _).alloc _).drew) (fun _ _=>by simp)
    have UF:Upd [b] wr ((wr.setCell ⟨b,j,none⟩ (.int .i64 t)).alloc (.cells #[.int .i64 j] 3)).drew:=(((Upd.refl [b] wr).setCell (p:=⟨b,j,none⟩) (by simp) _).alloc (.cells #[.int .i64 j] 3)).drew
    have Y0:=(UF.cell (p:=⟨w.heap.size,0,none⟩) (by show w.heap.size < _; omega) (by simp; omega)).trans f1
    have Y1:=(UF.cell (p:=⟨w.heap.size+1,0,none⟩) (by show w.heap.size+1 < _; omega) (by simp; omega)).trans f2
    have Y2:((wr.setCell ⟨b,j,none⟩ (.int .i64 t)).alloc (.cells #[.int .i64 j] 3)).drew.cell? ⟨wr.heap.size,0,none⟩=some (.int .i64 j):=by
     have e2:(wr.setCell ⟨b,j,none⟩ (.int .i64 t)).heap.size=wr.heap.size:=by simp
     rw [<- e2]
     go_simp
    have hbj':∀ k,w.heap.size<=k->(k < w.heap.size+2\/wr.heap.size<=k)->k ∉ ({ H with backs:=bk }:Hd).blocks wb:=fun k h1 h2 hm=>by
     have h4:=hwj.mem_lt k hm
     rcases hbj k hm with h3 | h3
     ·have:=hltb k h3; omega
     ·omega
    have hszd:((wr.setCell ⟨b,j,none⟩ (.int .i64 t)).alloc (.cells #[.int .i64 j] 3)).drew.heap.size=wr.heap.size+1:=by simp
    have HU:Hid (True/\IsUn ((wr.setCell ⟨b,j,none⟩ (.int .i64 t)).alloc (.cells #[.int .i64 j] 3)).drew wb (fun k=>(Z k\/w.heap.size<=k)/\k ∉ ({ H with backs:=bk }:Hd).blocks wb) (.func (.func 177) #[] #[.pointer (some ⟨w.heap.size+1,0,none⟩),.pointer (some ⟨w.heap.size,0,none⟩),.pointer (some ⟨wr.heap.size,0,none⟩)]) ⟨3,(⟨#[]⟩,0,0,0,0),j,f⟩) :=
     ⟨trivial,w.heap.size,⟨.inr (Nat.le_refl _),hbj' _ (Nat.le_refl _) (.inl (by omega))⟩,⟨by omega,Y0⟩,.inr (.inr (.inr ⟨rfl,w.heap.size+1,wr.heap.size,⟨.inr (by omega),hbj' _ (by omega) (.inl (by omega))⟩,⟨.inr (by omega),hbj' _ (by omega) (.inr (Nat.le_refl _))⟩,⟨by omega,Y1⟩,⟨by omega,Y2⟩,rfl⟩))⟩
    have Hbj:=hide hbj
    have Hlt:=hide hltb
    have Hsz:=hide hszd
    clear hs1 heq hcf hszd hbj' hbj hltb hwj hrc hcl2 hR
    go_wp2
    go_region
    go_wp2_with (go_at_call 153; refine (leave_any _ wb _ _ _ _ _ HW.out HU.out.2 (by show R.trail.length<=_; omega)).mono ?_; rintro e w5 ⟨bk5,rfl,hw5,hu5,hH5⟩)
    refine ⟨⟨j+1,by omega,by go_num,?_⟩,by simp [intOf]; omega⟩
    show Moving _ _ _ _ _ _ _
    rw [Hs1.out]
    have hs5:=hu5.size
    have hno:∀ k,w.heap.size<=k->k < w.heap.size+2->k ∉ ({ H with backs:=bk }:Hd).blocks wb:=fun k h1 h2 hm=>by
     rcases Hbj.out k hm with h3 | h3
     ·have:=Hlt.out k h3; omega
     ·omega
    have hsz5:=Hsz.out
    refine ⟨⟨bk5,hw5.mono (fun k hk _=>by rcases hk with hk | hk; exact hk; exact .inr (by omega)),fun k hk=>?_⟩,(hu5.cell (p:=⟨w.heap.size,0,none⟩) (by show w.heap.size < _; omega) (hno w.heap.size (Nat.le_refl _) (by omega))).trans Y0,(hu5.cell (p:=⟨w.heap.size+1,0,none⟩) (by show w.heap.size+1 < _; omega) (hno (w.heap.size+1) (by omega) (by omega))).trans Y1,(hupd.trans' UF (fun x hx _=>by simp at hx; subst hx; exact hbH)).trans' hu5 (fun k hk hl=>?_),by omega⟩
    ·rcases hH5 k hk with h3 | h3
     ·exact Hbj.out k h3
     ·exact .inr (by omega)
    ·rcases Hbj.out k hk with h3 | h3
     ·exact h3
     ·omega
   ·have heq':((classAt R j:Int) == (f:Int))=false:=by simp; omega
    have hs1:=hsucc.out
    rw [if_neg heq] at hs1
    have Hs1:=hide hs1
    have Hfin:Hid (∀ x,Moving w (wr.alloc x) wb H Z f R):=fun x=>⟨⟨bk,hwj.later (Ux x) (fun _ _=>by simp),hbj⟩,X0 x,X1 x,hupd.alloc x,by simp; omega⟩
    clear hs1 heq
    go_wp2
    refine ⟨⟨j+1,by omega,by go_num,?_⟩,by simp [intOf]; omega⟩
    show Moving _ _ _ _ _ _ _
    rw [Hs1.out]
    exact Hfin.out _
  ·obtain rfl:j=l:=by omega
   have hge:¬ (j:Int) < (j:Int):=by omega
   have HM:Hid (moveM S f t=moveTo S f t j):=by show _=_; unfold moveM; rw [<- Hl.out]
   obtain ⟨bk,hwj,hbj⟩:=hR.ex
   have hupd:=hR.upd
   have Hbj:=hide hbj
   have Hw:=hide hwj
   clear hbj hwj hR
   go_wp2
   go_end0
   exact ⟨rfl,_,by rw [HM.out]; exact Hw.out,hupd,fun k hk=>(Hbj.out k hk).imp id (fun e=>by omega)⟩
theorem info_pair:(Tryz.prog.info? 231).map (fun i=>(i.zero,i.size,i.bytes))=some (some (.agg #[.int .i64 0,.int .i64 0]),2,16):=by kernel_rfl
def flat2:List (Nat × Nat)->List Value
 | []=>[]
 | p :: l=>.int .i64 p.1 :: .int .i64 p.2 :: flat2 l
theorem flat2_append (a b:List (Nat × Nat)):flat2 (a++b)=flat2 a++flat2 b:=by
 induction a with
 | nil=>rfl
 | cons c cs ih=>simp [flat2,ih]
def noSh:Sh:=(⟨#[]⟩,0,0,0,0)
def shapeAt (S:WS) (i:Nat):Sh:=S.shapes.getD i noSh
def twinsTo (S:WS):Nat->List (Nat × Nat) × WS
 | 0=>([],S)
 | i+1=>(if classAt S (fileM (twinsTo S i).2 (shapeAt S i) i).1=classAt S i then (twinsTo S i).1 else (twinsTo S i).1++[((fileM (twinsTo S i).2 (shapeAt S i) i).1,i)],(fileM (twinsTo S i).2 (shapeAt S i) i).2)
def twinsM (S:WS):List (Nat × Nat) × WS:=twinsTo S S.shapes.length
structure Same (S R:WS) (i:Nat):Prop where
 shapes:R.shapes=S.shapes
 classes:R.classes=S.classes
 numbers:R.numbers=S.numbers
 nums:R.nums=S.nums
 said:R.said=S.said
 trail:R.trail.length<=S.trail.length+i
 files:R.files<=S.files+i
 al:∀ s t,R.alike s=some t->S.alike s=some t\/t < i
theorem twinsTo_same (S:WS):∀ i,Same S (twinsTo S i).2 i
 | 0=>⟨rfl,rfl,rfl,rfl,rfl,Nat.le_refl _,Nat.le_refl _,fun _ _ h=>.inl h⟩
 | i+1=>by
  obtain ⟨h1,h2,h3,h4,h5,h6,h7,h8⟩:=twinsTo_same S i
  obtain ⟨r1,r2,r3,r4,r5,r6,r7⟩:=fileM_rows (twinsTo S i).2 (shapeAt S i) i
  refine ⟨r1.trans h1,r2.trans h2,r3.trans h3,r4.trans h4,r5.trans h5,by simp only [twinsTo]; omega,by simp only [twinsTo]; omega,fun s t h=>?_⟩
  simp only [twinsTo] at h
  unfold fileM at h
  split at h
  ·exact (h8 s t h).imp id (fun e=>by omega)
  ·simp only [setF] at h
   split at h
   ·cases h; exact .inr (by omega)
   ·exact (h8 s t h).imp id (fun e=>by omega)
theorem twinsTo_length (S:WS):∀ i,(twinsTo S i).1.length<=i
 | 0=>Nat.le_refl _
 | i+1=>by
  have:=twinsTo_length S i
  simp only [twinsTo]
  split
  ·omega
  ·simp; omega
theorem Fits.same {S R:WS} {s:Sh} (h:Fits S s) (hc:R.classes=S.classes):Fits R s :=
 ⟨h.name,h.count,fun i hi=>by rw [hc]; exact h.known i hi,h.small,fun i=>by unfold classAt; rw [hc]; exact h.classes i⟩
theorem flatSh_get {l:List Sh} {i:Nat} {s:Sh} (h:l[i]?=some s):(flatSh l)[i * 5]?=some (.string s.1)/\(flatSh l)[i * 5+1]?=some (.int .i64 s.2.1)/\(flatSh l)[i * 5+2]?=some (.int .i64 s.2.2.1)/\(flatSh l)[i * 5+3]?=some (.int .i64 s.2.2.2.1)/\(flatSh l)[i * 5+4]?=some (.int .i64 s.2.2.2.2):=by
 induction l generalizing i with
 | nil=>simp at h
 | cons d ds ih =>
  cases i with
  | zero=>simp at h; subst h; simp [flatSh]
  | succ i =>
   have:=ih (i:=i) (by simpa using h)
   have e:(i+1) * 5=i * 5+1+1+1+1+1:=by omega
   rw [e]
   simpa [flatSh] using this
theorem row5_cells {w:World} {base e g len cap n:Nat} {l:List Sh} {s:Sh} {i:Nat} (h:w.ownsRow base e 5 (.slice (some ⟨g,0,none⟩) len cap) n (flatSh l)) (hi:l[i]?=some s) :
  w.cell? ⟨g,i * 5,none⟩=some (.string s.1)/\w.cell? ⟨g,i * 5+1,none⟩=some (.int .i64 s.2.1)/\w.cell? ⟨g,i * 5+2,none⟩=some (.int .i64 s.2.2.1)/\w.cell? ⟨g,i * 5+3,none⟩=some (.int .i64 s.2.2.2.1)/\w.cell? ⟨g,i * 5+4,none⟩=some (.int .i64 s.2.2.2.2):=by
 obtain ⟨hl,hr⟩:=h
 rcases hr with ⟨hv,_⟩ | ⟨g',cap',cur,hv,_,hg,_,_,hcs,htk⟩
 ·cases hv
 ·cases hv
  have hc:=flatSh_get hi
  have key:∀ j u,(flatSh l)[j]?=some u->w.cell? ⟨g,j,none⟩=some u:=by
   intro j u hu
   rw [cell_of_row w g j cur e (0,0) hg]
   rw [<- htk,List.getElem?_take] at hu
   split at hu
   ·simpa using hu
   ·cases hu
  exact ⟨key _ _ hc.1,key _ _ hc.2.1,key _ _ hc.2.2.1,key _ _ hc.2.2.2.1,key _ _ hc.2.2.2.2⟩
structure Pairing (w wr:World) (wb:Nat) (H:Hd) (Z:Nat->Prop) (v:Value) (ps:List (Nat × Nat)) (S:WS):Prop where
 ex:∃ bk,WebAt wr wb { H with backs:=bk } (fun k=>(Z k\/w.heap.size<=k)/\v.ownBlock ≠ some k) S/\∀ k ∈ ({ H with backs:=bk }:Hd).blocks wb,k ∈ H.blocks wb\/w.heap.size<=k
 row:wr.ownsRow w.heap.size 231 2 v ps.length (flat2 ps)
 upd:Upd (H.blocks wb) w wr
end Go.Proofs.YtmfkpllnmmfpiaaGreatDoor
