/- Small, Undo, UndoModel, JoinModel, JoinLaw, JoinLaw2 -/
import Derived.Test.YtmfkpllnmmfpiaaGreatDoorNoteA
import Derived.Test.YtmfkpllnmmfpiaaGreatDoorJoinHeapA
set_option maxHeartbeats 16000000
set_option maxRecDepth 100000
namespace Go.Proofs.YtmfkpllnmmfpiaaGreatDoor
open Go.RowKit
theorem slice_len {w:World} {base e size n:Nat} {v:Value} {xs:List Value} (h:w.ownsRow base e size v n xs):∃ (g:Option Addr) (cap:Nat),v=.slice g n cap:=by
 rcases ownsRow_slice h with ⟨rfl,rfl⟩ | ⟨g,cap,rfl,_⟩
 ·exact ⟨none,0,rfl⟩
 ·exact ⟨_,cap,rfl⟩
theorem here_any (w:World) (wb:Nat) (H:Hd) (Z:Nat->Prop) (S:WS) (h:WebAt w wb H Z S) :
  Calls Tryz.prog 56 #[.pointer (some ⟨wb,0,none⟩)] w fun e w'=>e=.returned (.int .i64 S.trail.length)/\w'=w:=by
 obtain ⟨cls,hrow,_⟩:=h.rb
 obtain ⟨g,cap,hv⟩:=slice_len hrow
 have c0:=h.c0
 rw [hv] at c0
 clear hv hrow
 go_enter Tryz.func56,Tryz.ntmps56
 go_wp2
 go_ret
 exact ⟨rfl,rfl⟩
theorem terms_any (w:World) (wb:Nat) (H:Hd) (Z:Nat->Prop) (S:WS) (h:WebAt w wb H Z S) :
  Calls Tryz.prog 58 #[.pointer (some ⟨wb,0,none⟩)] w fun e w'=>e=.returned (.int .i64 S.shapes.length)/\w'=w:=by
 obtain ⟨g,cap,hv⟩:=slice_len h.rs
 have c1:=h.c1
 rw [hv] at c1
 clear hv
 go_enter Tryz.func58,Tryz.ntmps58
 go_wp2
 go_ret
 exact ⟨rfl,rfl⟩
theorem sayings_any (w:World) (wb:Nat) (H:Hd) (Z:Nat->Prop) (S:WS) (h:WebAt w wb H Z S) :
  Calls Tryz.prog 55 #[.pointer (some ⟨wb,0,none⟩)] w fun e w'=>e=.returned (.int .i64 S.said.length)/\w'=w:=by
 obtain ⟨g,cap,hv⟩:=slice_len h.rd
 have c5:=h.c5
 rw [hv] at c5
 clear hv
 go_enter Tryz.func55,Tryz.ntmps55
 go_wp2
 go_ret
 exact ⟨rfl,rfl⟩
theorem move1_any (w:World) (wb bw bf bn:Nat) (H:Hd) (Z:Nat->Prop) (S:WS) (n f:Nat) (h:WebAt w wb H Z S) (hw:w.cell? ⟨bw,0,none⟩=some (.pointer (some ⟨wb,0,none⟩))) (hf:w.cell? ⟨bf,0,none⟩=some (.int .i64 f)) (hn:w.cell? ⟨bn,0,none⟩=some (.int .i64 n)) (hlt:n < S.classes.length) :
  Calls Tryz.prog 177 #[.pointer (some ⟨bf,0,none⟩),.pointer (some ⟨bw,0,none⟩),.pointer (some ⟨bn,0,none⟩)] w fun e w'=>e=.returned (.tuple #[])/\WebAt w' wb H Z { S with classes:=S.classes.set n f }/\Upd (H.blocks wb) w w':=by
 obtain ⟨g,cap,hcl,_,_⟩:∃ g cap,H.classes=.slice (some ⟨g,0,none⟩) S.classes.length cap/\S.classes.length<=cap/\cap<=maxLen:=by
  rcases ownsRow_slice h.rc with ⟨_,h0⟩ | hh
  ·omega
  ·exact hh
 have hrc:=h.rc
 rw [hcl] at hrc
 have hcell:=row1_cell hrc hlt
 have hfr:=row_free hrc
 have c3:=h.c3
 rw [hcl] at c3
 have hlt':(n:Int) < (S.classes.length:Int):=by omega
 have HW:Hid (WebAt (w.setCell ⟨g,n,none⟩ (.int .i64 f)).drew wb H Z { S with classes:=S.classes.set n f }):=(h.set_class hcl).later ((Upd.refl [] _).drew) (fun _ _=>by simp)
 have HU:Hid (Upd (H.blocks wb) w (w.setCell ⟨g,n,none⟩ (.int .i64 f)).drew):=((Upd.refl _ w).setCell (.inl (Hd.mem_classes (by rw [hcl]; rfl))) _).drew
 clear hrc hcl
 go_enter Tryz.func177,Tryz.ntmps177
 go_wp2
 go_region
 go_wp2
 go_end0
 exact ⟨rfl,HW.out,HU.out⟩
theorem file1_any (w:World) (wb bw bs:Nat) (H:Hd) (Z:Nat->Prop) (S:WS) (s:Sh) (h:WebAt w wb H Z S) (hw:w.cell? ⟨bw,0,none⟩=some (.pointer (some ⟨wb,0,none⟩))) (hs:BoxSh w bs s) (hg:GoodSh s) (hin:(S.alike s).isSome=true) :
  Calls Tryz.prog 178 #[.pointer (some ⟨bw,0,none⟩),.pointer (some ⟨bs,0,none⟩)] w fun e w'=>e=.returned (.tuple #[])/\WebAt w' wb H Z { S with alike:=setF S.alike s none,files:=S.files - 1 }/\Upd (H.blocks wb) w w':=by
 obtain ⟨_,v1,v2,v3,v4,v5⟩:=hs
 have c4:=h.c4
 obtain ⟨wf,hrun0,hm,ht⟩:=(h.ma.later ((Upd.refl [] w).drew) (by simp)).del s hg hin 0
 have hrun:(Builtin.delete_ #[108,141] 0 #[.map (some H.ab),.agg #[.string s.1,.int .i64 s.2.1,.int .i64 s.2.2.1,.int .i64 s.2.2.2.1,.int .i64 s.2.2.2.2]]).run Tryz.prog w.drew=.ok (.tuple #[]) wf:=hrun0
 have HW:Hid (WebAt wf wb H Z { S with alike:=setF S.alike s none,files:=S.files - 1 }):=(h.later ((Upd.refl [] w).drew) (fun _ _=>by simp)).set_alike ht hm
 have HU:Hid (Upd (H.blocks wb) w wf):=((Upd.refl _ w).drew).trans ((mapTurned_upd ht).mono (fun x hx _=>by simp at hx; rw [hx]; exact H.mem_ab wb))
 clear hrun0 hm ht
 go_enter Tryz.func178,Tryz.ntmps178
 go_wp2
 go_region
 go_wp2
 go_end0
 exact ⟨rfl,HW.out,HU.out⟩
def undo1 (S:WS) (u:Un):WS :=
 if u.tag=0 then { S with said:=S.said.dropLast }
 else if u.tag=1 then { S with shapes:=S.shapes.take u.a,classes:=S.classes.take u.a,numbers:=setF S.numbers u.sh none,nums:=S.nums - 1 }
 else if u.tag=2 then { S with alike:=setF S.alike u.sh none,files:=S.files - 1 }
 else { S with classes:=S.classes.set u.a u.b }
def okUn (S:WS) (u:Un):Prop :=
 (u.tag=0/\0 < S.said.length)\/(u.tag=1/\u.a < S.shapes.length/\u.a < S.classes.length/\S.shapes.length<=1000000/\GoodSh u.sh/\(S.numbers u.sh).isSome=true)\/(u.tag=2/\GoodSh u.sh/\(S.alike u.sh).isSome=true)\/(u.tag=3/\u.a < S.classes.length)
def CanBack:Nat->WS->WS->Prop
 | 0,S,S0=>S=S0
 | n+1,S,S0=>∃ us u,S.trail=us++[u]/\okUn { S with trail:=us } u/\CanBack n (undo1 { S with trail:=us } u) S0
def Goes (S0 S:WS):Prop:=∃ n,S.trail.length=S0.trail.length+n/\CanBack n S S0
theorem Goes.refl (S:WS):Goes S S:=⟨0,rfl,rfl⟩
theorem Goes.step {S0 S S':WS} {u:Un} (h:Goes S0 S) (ht:S'.trail=S.trail++[u]) (ho:okUn { S' with trail:=S.trail } u) (hu:undo1 { S' with trail:=S.trail } u=S):Goes S0 S':=by
 obtain ⟨n,hn,hc⟩:=h
 exact ⟨n+1,by rw [ht]; simp; omega,S.trail,u,ht,ho,by rw [hu]; exact hc⟩
theorem setF_back {f:Sh->Option Nat} {s:Sh} {v:Option Nat} (h:f s=none):setF (setF f s v) s none=f:=by
 funext t
 unfold setF
 split
 ·rename_i e; rw [e,h]
 ·rfl
theorem Goes.note {S0 S:WS} (h:Goes S0 S) (x:Nat × Nat × Nat):Goes S0 { S with said:=S.said++[x],trail:=S.trail++[⟨0,(⟨#[]⟩,0,0,0,0),0,0⟩] } :=
 h.step rfl (.inl ⟨rfl,by simp⟩) (by simp [undo1])
theorem Goes.file {S0 S:WS} (h:Goes S0 S) {s:Sh} (hs:Fits S s) (n:Nat):Goes S0 (fileM S s n).2:=by
 unfold fileM
 split
 ·exact h
 ·rename_i hk
  exact h.step rfl (.inr (.inr (.inl ⟨rfl,keyTo_good hs _,by simp [setF]⟩))) (by simp [undo1,setF_back hk])
theorem Goes.enter {S0 S:WS} (h:Goes S0 S) {s:Sh} (hs:Fits S s) (hg:GoodSh s) (hl:S.shapes.length=S.classes.length) (hm:S.shapes.length < 1000000) (hn:S.numbers s=none):Goes S0 (enterM S s).2:=by
 obtain ⟨r1,r2,r3,r4,r5,r6,r7⟩:=fileM_rows S s S.shapes.length
 refine (h.file hs S.shapes.length).step (u:=⟨1,s,S.shapes.length,0⟩) rfl (.inr (.inl ⟨rfl,?_,?_,?_,hg,?_⟩)) ?_
 ·simp [enterM,r1]
 ·show S.shapes.length < ((fileM S s S.shapes.length).2.classes++[_]).length
  rw [r2]
  simp [hl]
 ·simp [enterM,r1]; omega
 ·simp [enterM,setF]
 ·have e1:(S.classes++[if (fileM S s S.shapes.length).1=S.shapes.length then S.shapes.length else classAt (fileM S s S.shapes.length).2 (fileM S s S.shapes.length).1]).take S.shapes.length=S.classes:=by rw [hl]; exact List.take_left
  simp only [undo1,enterM]
  simp only [if_neg (by decide:¬ (1:Nat)=0),if_true,r1,r2,e1,List.take_left,setF_back (show (fileM S s S.shapes.length).2.numbers s=none by rw [r3]; exact hn),Nat.add_sub_cancel]
  generalize (fileM S s S.shapes.length).2=T at *
  obtain ⟨_,_,_,_,_,_,_,_,_⟩:=T
  simp only at r1 r2
  subst r1 r2
  rfl
theorem Goes.addAll {α:Type} {S0:WS} {f:WS->α->Nat × WS} {size:α->Nat} {ok:α->Prop} (hf:∀ S x,Inv S->ok x->Adds S (size x) (f S x).1 (f S x).2)
  (hg:∀ S x,Inv S->ok x->S.shapes.length+size x<=50000->Goes S0 S->Goes S0 (f S x).2):∀ (l:List α) (S:WS),Inv S->allOf ok l->S.shapes.length+sumOf size l<=50000->Goes S0 S->Goes S0 (addAll f S l).2
 | [],_,_,_,_,h=>h
 | x :: l,S,hi,hok,hr,h=>by
  have h1:=hf S x hi hok.1
  have h2:=h1.hi
  simp only [sumOf] at hr
  exact Goes.addAll hf hg l _ h1.inv hok.2 (by omega) (hg S x hi hok.1 (by omega) h)
theorem Goes.addM {S0:WS}:∀ (n:Nat) (S:WS) (t:Tm n),Inv S->Narrow n t->S.shapes.length+sizeT n t<=50000->Goes S0 S->Goes S0 (addM n S t).2
 | 0,_,_,_,h,_,_=>h.elim
 | n+1,S,t,hi,hn,hr,h=>by
  simp only [sizeT] at hr
  have h1:=Goes.addAll (addM_adds n) (fun S x=>Goes.addM n S x) t.parts S hi hn.2.2 (by omega) h
  obtain ⟨⟨b1,b2,b3,b4,b5,b6,b7⟩,hl⟩:=addAll_adds (addM_adds n) t.parts S hi hn.2.2
  unfold Go.Proofs.YtmfkpllnmmfpiaaGreatDoor.addM
  simp only
  split
  ·exact h1
  ·rename_i hk
   obtain ⟨f1,f2⟩:=Fits.of b1 hn.1 (by rw [hl]; exact hn.2.1) b2 (by omega)
   exact h1.enter f1 f2 b1.len (by omega) hk
theorem classAt_set {S:WS} {i t:Nat} (h:i < S.classes.length):(S.classes.set i t).set i (classAt S i)=S.classes:=by
 rw [List.set_set]
 unfold classAt
 rw [List.getD_eq_getElem?_getD,List.getElem?_eq_getElem h]
 simp
theorem Goes.moveTo {S0 S:WS} (h:Goes S0 S) (f t:Nat):∀ i,i<=S.classes.length->Goes S0 (moveTo S f t i)
 | 0,_=>h
 | i+1,hi=>by
  have h1:=Goes.moveTo h f t i (by omega)
  have hl:=(moveTo_rows S f t i).1
  unfold Go.Proofs.YtmfkpllnmmfpiaaGreatDoor.moveTo
  simp only
  split
  ·rename_i he
   refine h1.step rfl (.inr (.inr (.inr ⟨rfl,by simp; omega⟩))) ?_
   simp only [undo1,if_neg (by decide:¬ (3:Nat)=0),if_neg (by decide:¬ (3:Nat)=1),if_neg (by decide:¬ (3:Nat)=2)]
   have hcs:=classAt_set (S:=Go.Proofs.YtmfkpllnmmfpiaaGreatDoor.moveTo S f t i) (i:=i) (t:=t) (by omega)
   rw [he] at hcs
   rw [hcs]
  ·exact h1
theorem Goes.move {S0 S:WS} (h:Goes S0 S) (f t:Nat):Goes S0 (moveM S f t):=h.moveTo f t _ (Nat.le_refl _)
theorem Goes.twinsTo {S0 S:WS} (h:Goes S0 S) (hfit:∀ i,i < S.shapes.length->Fits S (shapeAt S i)):∀ i,i<=S.shapes.length->Goes S0 (twinsTo S i).2
 | 0,_=>h
 | i+1,hi=>by
  have h1:=Goes.twinsTo h hfit i (by omega)
  exact h1.file ((hfit i (by omega)).same (twinsTo_same S i).classes) i
theorem Goes.twins {S0 S:WS} (h:Goes S0 S) (hfit:∀ i,i < S.shapes.length->Fits S (shapeAt S i)):Goes S0 (twinsM S).2:=h.twinsTo hfit _ (Nat.le_refl _)
def joinF:Nat->List (Nat × Nat)->WS->WS
 | 0,_,S=>S
 | _+1,[],S=>S
 | k+1,p :: ps,S =>
  if classAt S p.1=classAt S p.2 then joinF k ps S
  else joinF k (ps++(twinsM (moveM S (classAt S p.2) (classAt S p.1))).1) (twinsM (moveM S (classAt S p.2) (classAt S p.1))).2
def reps (S:WS):Nat->Nat
 | 0=>0
 | i+1=>reps S i+if classAt S i=i then 1 else 0
theorem reps_le (S:WS):∀ m,reps S m<=m
 | 0=>Nat.le_refl _
 | i+1=>by have:=reps_le S i; unfold reps; split <;> omega
theorem reps_congr {S T:WS}:∀ m,(∀ i,i < m->(classAt S i=i ↔ classAt T i=i))->reps S m=reps T m
 | 0,_=>rfl
 | i+1,h=>by
  have h1:=reps_congr (S:=S) (T:=T) i (fun j hj=>h j (by omega))
  have h2:=h i (by omega)
  unfold reps
  rw [h1]
  by_cases e:classAt S i=i
  ·rw [if_pos e,if_pos (h2.1 e)]
  ·rw [if_neg e,if_neg (fun e'=>e (h2.2 e'))]
theorem reps_less {S T:WS} {a:Nat} (ha:classAt S a=a) (hb:¬ classAt T a=a):∀ m,a < m->(∀ i,i < m->i ≠ a->(classAt S i=i ↔ classAt T i=i))->reps T m+1=reps S m
 | 0,h,_=>by omega
 | i+1,hm,h=>by
  by_cases e:i=a
  ·subst e
   have h1:=reps_congr (S:=S) (T:=T) i (fun j hj=>h j (by omega) (by omega))
   unfold reps
   rw [h1,if_pos ha,if_neg hb]
  ·have h1:=reps_less ha hb i (by omega) (fun j hj hne=>h j (by omega) hne)
   have h2:=h i (by omega) e
   unfold reps
   by_cases e':classAt S i=i
   ·rw [if_pos e',if_pos (h2.1 e')]; omega
   ·rw [if_neg e',if_neg (fun e''=>e' (h2.2 e''))]; omega
structure Closed (S:WS) (R:Nat->Nat->Prop):Prop where
 refl:∀ i,R i i
 symm:∀ i j,R i j->R j i
 trans:∀ i j k,R i j->R j k->R i k
 said:∀ x ∈ S.said,x.1=0->R x.2.1 x.2.2
 cong:∀ (i j:Nat) (s t:Sh),S.shapes[i]?=some s->S.shapes[j]?=some t->s.1=t.1->s.2.1=t.2.1->(∀ k,k < s.2.1->R (partAt s k) (partAt t k))->R i j
theorem Closed.mono {S T:WS} {R:Nat->Nat->Prop} (h:Closed T R) (hs:∀ (i:Nat) (s:Sh),S.shapes[i]?=some s->T.shapes[i]?=some s) (hd:∀ x ∈ S.said,x ∈ T.said):Closed S R :=
 ⟨h.refl,h.symm,h.trans,fun x hx=>h.said x (hd x hx),fun i j s t hi hj=>h.cong i j s t (hs i s hi) (hs j t hj)⟩
structure ShOK (i:Nat) (s:Sh):Prop where
 name:s.1.size<=1000
 count:s.2.1<=3
 part:∀ j,j < s.2.1->partAt s j < i
 rest:∀ j,s.2.1<=j->j < 3->partAt s j=0
structure Base (S:WS):Prop where
 inv:Inv S
 good:∀ (i:Nat) (s:Sh),S.shapes[i]?=some s->ShOK i s
 num:∀ (s:Sh) (i:Nat),S.numbers s=some i ↔ S.shapes[i]?=some s
 rep:∀ i,i < S.classes.length->classAt S (classAt S i)=classAt S i
 saidLt:∀ x ∈ S.said,x.2.1 < S.classes.length/\x.2.2 < S.classes.length
 cls:∀ R,Closed S R->∀ i,i < S.classes.length->R i (classAt S i)
 alk:∀ R,Closed S R->∀ k t,S.alike k=some t->∃ s,S.shapes[t]?=some s/\s.1=k.1/\s.2.1=k.2.1/\∀ j,j < s.2.1->R (partAt s j) (partAt k j)
structure Web (S:WS):Prop where
 base:Base S
 eqs:∀ x ∈ S.said,x.1=0->classAt S x.2.1=classAt S x.2.2
 stable:∀ (i:Nat) (s:Sh),S.shapes[i]?=some s->∃ t,S.alike (keyOfSh S s)=some t/\classAt S t=classAt S i
theorem Sh.ext' {s t:Sh} (h0:s.1=t.1) (h1:s.2.1=t.2.1) (h:∀ j,j < 3->partAt s j=partAt t j):s=t:=by
 obtain ⟨a,b,c,d,e⟩:=s
 obtain ⟨a',b',c',d',e'⟩:=t
 have h2:=h 0 (by omega)
 have h3:=h 1 (by omega)
 have h4:=h 2 (by omega)
 simp [partAt] at h0 h1 h2 h3 h4
 subst h0 h1 h2 h3 h4
 rfl
theorem keyTo_part (S:WS) (s:Sh):∀ (m j:Nat),m<=3->j < m->partAt (keyTo S s m) j=classAt S (partAt s j)
 | 0,_,_,h=>by omega
 | m+1,j,hm,hj=>by
  unfold keyTo
  by_cases e:m=j
  ·subst e
   exact setPart_same
  ·rw [setPart_other (by omega) (by omega) e]
   exact keyTo_part S s m j (by omega) (by omega)
theorem key_part {S:WS} {s:Sh} (hs:s.2.1<=3) {j:Nat} (hj:j < s.2.1):partAt (keyOfSh S s) j=classAt S (partAt s j):=keyTo_part S s _ j hs hj
theorem key_rest {S:WS} {s:Sh} {j:Nat} (hj:s.2.1<=j) (h3:j < 3):partAt (keyOfSh S s) j=partAt s j:=keyTo_later S s _ j hj h3
theorem key_name {S:WS} {s:Sh}:(keyOfSh S s).1=s.1/\(keyOfSh S s).2.1=s.2.1:=keyTo_name S s _
theorem key_eq {S:WS} {s t:Sh} {i j:Nat} (hs:ShOK i s) (ht:ShOK j t) (h0:s.1=t.1) (h1:s.2.1=t.2.1) (h:∀ k,k < s.2.1->classAt S (partAt s k)=classAt S (partAt t k)):keyOfSh S s=keyOfSh S t:=by
 refine Sh.ext' (by rw [key_name.1,key_name.1,h0]) (by rw [key_name.2,key_name.2,h1]) fun k hk=>?_
 by_cases hc:k < s.2.1
 ·rw [key_part hs.count hc,key_part ht.count (by omega),h k hc]
 ·rw [key_rest (by omega) hk,key_rest (by omega) hk,hs.rest k (by omega) hk,ht.rest k (by omega) hk]
theorem key_classes {S T:WS} {s:Sh} (hs:s.2.1<=3) (h:∀ k,k < s.2.1->classAt S (partAt s k)=classAt T (partAt s k)):keyOfSh S s=keyOfSh T s:=by
 refine Sh.ext' (by rw [key_name.1,key_name.1]) (by rw [key_name.2,key_name.2]) fun k hk=>?_
 by_cases hc:k < s.2.1
 ·rw [key_part hs hc,key_part hs hc,h k hc]
 ·rw [key_rest (by omega) hk,key_rest (by omega) hk]
theorem Web.closed {S:WS} (h:Web S):Closed S (fun i j=>i=j\/(i < S.classes.length/\j < S.classes.length/\classAt S i=classAt S j)):=by
 refine ⟨fun i=>.inl rfl,fun i j e=>?_,fun i j k e f=>?_,fun x hx h0=>?_,fun i j s t hi hj h0 h1 hp=>?_⟩
 ·rcases e with e | ⟨a,b,c⟩
  ·exact .inl e.symm
  ·exact .inr ⟨b,a,c.symm⟩
 ·rcases e with rfl | ⟨a,b,c⟩
  ·exact f
  ·rcases f with rfl | ⟨a',b',c'⟩
   ·exact .inr ⟨a,b,c⟩
   ·exact .inr ⟨a,b',c.trans c'⟩
 ·obtain ⟨a,b⟩:=h.base.saidLt x hx
  exact .inr ⟨a,b,h.eqs x hx h0⟩
 ·obtain ⟨ti,e1,e2⟩:=h.stable i s hi
  obtain ⟨tj,f1,f2⟩:=h.stable j t hj
  have hk:keyOfSh S s=keyOfSh S t:=key_eq (h.base.good i s hi) (h.base.good j t hj) h0 h1 (fun k hk=>by
   rcases hp k hk with e | ⟨_,_,e⟩
   ·rw [e]
   ·exact e)
  rw [hk,f1] at e1
  cases e1
  have hli:=(List.getElem?_eq_some_iff.1 hi).1
  have hlj:=(List.getElem?_eq_some_iff.1 hj).1
  have hlen:=h.base.inv.len
  exact .inr ⟨by omega,by omega,e2.symm.trans f2⟩
theorem Web.eq_iff {S:WS} (h:Web S) {i j:Nat} (hi:i < S.classes.length) (hj:j < S.classes.length):classAt S i=classAt S j ↔ ∀ R,Closed S R->R i j:=by
 constructor
 ·intro e R hR
  have h1:=h.base.cls R hR i hi
  have h2:=h.base.cls R hR j hj
  rw [e] at h1
  exact hR.trans _ _ _ h1 (hR.symm _ _ h2)
 ·intro hall
  rcases hall _ h.closed with e | ⟨_,_,e⟩
  ·rw [e]
  ·exact e
theorem key_same {S T:WS} (h:S.classes=T.classes) (s:Sh):keyOfSh S s=keyOfSh T s:=by
 have:∀ m,keyTo S s m=keyTo T s m:=fun m=>by
  induction m with
  | zero=>rfl
  | succ m ih=>unfold keyTo classAt; rw [ih,h]
 exact this _
theorem classAt_same {S T:WS} (h:S.classes=T.classes) (i:Nat):classAt S i=classAt T i:=by unfold classAt; rw [h]
theorem getElem?_snoc_lt {α:Type} {l:List α} {x y:α} {i:Nat} (h:(l++[x])[i]?=some y):(i < l.length/\l[i]?=some y)\/(i=l.length/\y=x):=by
 by_cases hi:i < l.length
 ·rw [List.getElem?_append_left hi] at h
  exact .inl ⟨hi,h⟩
 ·rw [List.getElem?_append_right (by omega)] at h
  by_cases h0:i - l.length=0
  ·rw [h0] at h
   simp at h
   exact .inr ⟨by omega,h.symm⟩
  ·rw [List.getElem?_eq_none (by simp; omega)] at h
   cases h
theorem Base.lt {S:WS} (h:Base S) {i:Nat} {s:Sh} (hi:S.shapes[i]?=some s):i < S.classes.length:=by
 have:=(List.getElem?_eq_some_iff.1 hi).1
 have:=h.inv.len
 omega
theorem fileM_some {S:WS} {s:Sh} {n t:Nat} (h:S.alike (keyOfSh S s)=some t):fileM S s n=(t,S):=by unfold fileM; rw [h]
theorem fileM_none {S:WS} {s:Sh} {n:Nat} (h:S.alike (keyOfSh S s)=none):fileM S s n=(n,{ S with alike:=setF S.alike (keyOfSh S s) (some n),files:=S.files+1,trail:=S.trail++[⟨2,keyOfSh S s,0,0⟩] }):=by unfold fileM; rw [h]
theorem enterM_twin {S:WS} {s:Sh} {t:Nat} (h:S.alike (keyOfSh S s)=some t) (ht:t < S.shapes.length) :
  enterM S s=(S.shapes.length,{ S with shapes:=S.shapes++[s],classes:=S.classes++[classAt S t],numbers:=setF S.numbers s (some S.shapes.length),nums:=S.nums+1,trail:=S.trail++[⟨1,s,S.shapes.length,0⟩] }):=by
 unfold enterM
 simp only [fileM_some h]
 rw [if_neg (by omega)]
theorem enterM_alone {S:WS} {s:Sh} (h:S.alike (keyOfSh S s)=none) :
  enterM S s=(S.shapes.length,{ S with shapes:=S.shapes++[s],classes:=S.classes++[S.shapes.length],numbers:=setF S.numbers s (some S.shapes.length),nums:=S.nums+1,alike:=setF S.alike (keyOfSh S s) (some S.shapes.length),files:=S.files+1,trail:=S.trail++[⟨2,keyOfSh S s,0,0⟩]++[⟨1,s,S.shapes.length,0⟩] }):=by
 unfold enterM
 simp only [fileM_none h,if_true]
theorem classAt_snoc_lt {S S':WS} {c i:Nat} (h:S'.classes=S.classes++[c]) (hi:i < S.classes.length):classAt S' i=classAt S i:=by
 unfold classAt
 rw [h]
 simp [List.getD_eq_getElem?_getD,List.getElem?_append_left hi]
theorem classAt_snoc_eq {S S':WS} {c:Nat} (h:S'.classes=S.classes++[c]):classAt S' S.classes.length=c:=by
 unfold classAt
 rw [h]
 simp [List.getD_eq_getElem?_getD]
structure Entered (S:WS) (s:Sh) (c:Nat) (S':WS):Prop where
 shapes:S'.shapes=S.shapes++[s]
 classes:S'.classes=S.classes++[c]
 numbers:S'.numbers=setF S.numbers s (some S.shapes.length)
 said:S'.said=S.said
 how:(∃ t,S.alike (keyOfSh S s)=some t/\c=classAt S t/\S'.alike=S.alike)\/(S.alike (keyOfSh S s)=none/\c=S.shapes.length/\S'.alike=setF S.alike (keyOfSh S s) (some S.shapes.length))
theorem Inv.entered {S:WS} (h:Inv S) (s:Sh):∃ c,Entered S s c (enterM S s).2:=by
 cases hk:S.alike (keyOfSh S s) with
 | none=>rw [enterM_alone hk]; exact ⟨S.shapes.length,rfl,rfl,rfl,rfl,.inr ⟨hk,rfl,rfl⟩⟩
 | some t=>rw [enterM_twin hk (h.al _ _ hk)]; exact ⟨classAt S t,rfl,rfl,rfl,rfl,.inl ⟨t,hk,rfl,rfl⟩⟩
theorem Base.key_rel {S:WS} (_h:Base S) {R:Nat->Nat->Prop} (hR:∀ i,i < S.classes.length->R i (classAt S i)) {s:Sh} {i:Nat} (hs:ShOK i s) (hi:i<=S.classes.length):∀ j,j < s.2.1->R (partAt s j) (partAt (keyOfSh S s) j):=fun j hj=>by
 rw [key_part hs.count hj]
 exact hR _ (Nat.lt_of_lt_of_le (hs.part j hj) hi)
theorem Base.enter {S:WS} (h:Base S) {s:Sh} (hs:ShOK S.shapes.length s) (hn:S.numbers s=none):Base (enterM S s).2:=by
 obtain ⟨c,E⟩:=h.inv.entered s
 have hI:=(h.inv.enter s).1
 generalize (enterM S s).2=S' at *
 have hlen:=h.inv.len
 have lt:∀ i,i < S.classes.length->classAt S' i=classAt S i:=fun i hi=>classAt_snoc_lt E.classes hi
 have eq:classAt S' S.classes.length=c:=classAt_snoc_eq E.classes
 have hl':S'.classes.length=S.classes.length+1:=by rw [E.classes]; simp
 have sub:∀ (i:Nat) (t:Sh),S.shapes[i]?=some t->S'.shapes[i]?=some t:=fun i t hi=>by
  rw [E.shapes,List.getElem?_append_left (List.getElem?_eq_some_iff.1 hi).1]; exact hi
 have last:S'.shapes[S.shapes.length]?=some s:=by rw [E.shapes]; simp
 have clt:∀ i,i < S.classes.length->classAt S i < S.classes.length:=fun i hi=>h.inv.class_lt i (by omega)
 have hcls:∀ R,Closed S' R->∀ i,i < S.classes.length->R i (classAt S i):=fun R hR i hi=>h.cls R (hR.mono sub (by rw [E.said]; exact fun x hx=>hx)) i hi
 have halk:∀ R,Closed S' R->∀ k t,S.alike k=some t->∃ s,S.shapes[t]?=some s/\s.1=k.1/\s.2.1=k.2.1/\∀ j,j < s.2.1->R (partAt s j) (partAt k j):=fun R hR=>h.alk R (hR.mono sub (by rw [E.said]; exact fun x hx=>hx))
 refine ⟨hI,fun i t hi=>?_,fun t i=>?_,fun i hi=>?_,fun x hx=>?_,fun R hR i hi=>?_,fun R hR k t hk=>?_⟩
 ·rw [E.shapes] at hi
  rcases getElem?_snoc_lt hi with ⟨_,h1⟩ | ⟨rfl,rfl⟩
  ·exact h.good i t h1
  ·exact hs
 ·rw [E.numbers,E.shapes]
  unfold setF
  by_cases e:t=s
  ·subst e
   rw [if_pos rfl]
   constructor
   ·intro h1; cases h1; simp
   ·intro h1
    rcases getElem?_snoc_lt h1 with ⟨_,h2⟩ | ⟨rfl,_⟩
    ·have:=(h.num t i).2 h2; rw [hn] at this; cases this
    ·rfl
  ·rw [if_neg e]
   constructor
   ·intro h1
    have h2:=(h.num t i).1 h1
    rw [List.getElem?_append_left (List.getElem?_eq_some_iff.1 h2).1]; exact h2
   ·intro h1
    rcases getElem?_snoc_lt h1 with ⟨_,h2⟩ | ⟨_,h2⟩
    ·exact (h.num t i).2 h2
    ·exact absurd h2 e
 ·rw [hl'] at hi
  by_cases e:i < S.classes.length
  ·rw [lt i e,lt _ (clt i e)]
   exact h.rep i e
  ·obtain rfl:i=S.classes.length:=by omega
   rw [eq]
   rcases E.how with ⟨t,h1,rfl,_⟩ | ⟨_,rfl,_⟩
   ·have ht:t < S.classes.length:=by have:=h.inv.al _ _ h1; omega
    rw [lt _ (clt t ht)]
    exact h.rep t ht
   ·rw [hlen]; exact eq.trans hlen
 ·rw [E.said] at hx
  have:=h.saidLt x hx
  rw [hl']
  omega
 ·rw [hl'] at hi
  by_cases e:i < S.classes.length
  ·rw [lt i e]
   exact hcls R hR i e
  ·obtain rfl:i=S.classes.length:=by omega
   rw [eq]
   rcases E.how with ⟨t,h1,rfl,_⟩ | ⟨_,rfl,_⟩
   ·have ht:t < S.classes.length:=by have:=h.inv.al _ _ h1; omega
    obtain ⟨st,g1,g2,g3,g4⟩:=halk R hR _ _ h1
    refine hR.trans _ _ _ (hR.symm _ _ ?_) (hcls R hR t ht)
    refine hR.cong t _ st s (sub t st g1) (by rw [<- hlen]; exact last) (by rw [g2,key_name.1]) (by rw [g3,key_name.2]) fun k hk=>?_
    have hk':k < s.2.1:=by rw [g3,key_name.2] at hk; exact hk
    exact hR.trans _ _ _ (g4 k hk) (hR.symm _ _ (h.key_rel (hcls R hR) hs (by omega) k hk'))
   ·rw [hlen]; exact hR.refl _
 ·rcases E.how with ⟨_,_,_,h3⟩ | ⟨_,_,h3⟩
  ·rw [h3] at hk
   obtain ⟨st,g1,g2⟩:=halk R hR k t hk
   exact ⟨st,sub t st g1,g2⟩
  ·rw [h3] at hk
   unfold setF at hk
   split at hk
   ·rename_i e
    cases hk
    refine ⟨s,last,by rw [e,key_name.1],by rw [e,key_name.2],fun j hj=>?_⟩
    rw [e]
    exact h.key_rel (hcls R hR) hs (by omega) j hj
   ·obtain ⟨st,g1,g2⟩:=halk R hR k t hk
    exact ⟨st,sub t st g1,g2⟩
theorem Web.enter {S:WS} (h:Web S) {s:Sh} (hs:ShOK S.shapes.length s) (hn:S.numbers s=none):Web (enterM S s).2:=by
 have hB:=h.base.enter hs hn
 obtain ⟨c,E⟩:=h.base.inv.entered s
 generalize (enterM S s).2=S' at *
 have hlen:=h.base.inv.len
 have lt:∀ i,i < S.classes.length->classAt S' i=classAt S i:=fun i hi=>classAt_snoc_lt E.classes hi
 have eq:classAt S' S.classes.length=c:=classAt_snoc_eq E.classes
 have hkey:∀ i t,ShOK i t->i<=S.classes.length->keyOfSh S' t=keyOfSh S t:=fun i t ht hi=>key_classes ht.count fun k hk=>lt _ (Nat.lt_of_lt_of_le (ht.part k hk) hi)
 refine ⟨hB,fun x hx h0=>?_,fun i t hi=>?_⟩
 ·rw [E.said] at hx
  obtain ⟨a,b⟩:=h.base.saidLt x hx
  rw [lt _ a,lt _ b]
  exact h.eqs x hx h0
 ·rw [E.shapes] at hi
  rcases getElem?_snoc_lt hi with ⟨hil,h1⟩ | ⟨rfl,rfl⟩
  ·obtain ⟨u,g1,g2⟩:=h.stable i t h1
   have hu:u < S.classes.length:=by have:=h.base.inv.al _ _ g1; omega
   rw [hkey i t (h.base.good i t h1) (by omega),lt i (by omega)]
   refine ⟨u,?_,by rw [lt u hu]; exact g2⟩
   rcases E.how with ⟨_,_,_,h3⟩ | ⟨h4,_,h3⟩
   ·rw [h3]; exact g1
   ·rw [h3]
    unfold setF
    rw [if_neg (fun e=>by rw [e,h4] at g1; cases g1)]
    exact g1
  ·rw [hkey _ t hs (by omega)]
   have eq':classAt S' S.shapes.length=c:=by rw [hlen]; exact eq
   rcases E.how with ⟨u,h4,h5,h3⟩ | ⟨h4,h5,h3⟩
   ·have hu:u < S.classes.length:=by have:=h.base.inv.al _ _ h4; omega
    exact ⟨u,by rw [h3]; exact h4,by rw [eq',lt u hu,h5]⟩
   ·exact ⟨S.shapes.length,by rw [h3]; simp [setF],rfl⟩
def noteM (S:WS) (x:Nat × Nat × Nat):WS:={ S with said:=S.said++[x],trail:=S.trail++[⟨0,(⟨#[]⟩,0,0,0,0),0,0⟩] }
theorem Base.note {S:WS} (h:Base S) {x:Nat × Nat × Nat} (h1:x.2.1 < S.classes.length) (h2:x.2.2 < S.classes.length):Base (noteM S x):=by
 have sub:∀ R,Closed (noteM S x) R->Closed S R:=fun R hR=>hR.mono (fun _ _ hi=>hi) (fun y hy=>by simp [noteM,hy])
 exact ⟨⟨h.inv.len,h.inv.nums,h.inv.cl,h.inv.al,h.inv.nu⟩,h.good,h.num,h.rep,fun y hy=>by
  simp only [noteM,List.mem_append,List.mem_singleton] at hy
  rcases hy with hy | rfl
  ·exact h.saidLt y hy
  ·exact ⟨h1,h2⟩,fun R hR=>h.cls R (sub R hR),fun R hR=>h.alk R (sub R hR)⟩
theorem Web.note_unequal {S:WS} (h:Web S) {x:Nat × Nat × Nat} (h0:x.1 ≠ 0) (h1:x.2.1 < S.classes.length) (h2:x.2.2 < S.classes.length):Web (noteM S x) :=
 ⟨h.base.note h1 h2,fun y hy hz=>by
  simp only [noteM,List.mem_append,List.mem_singleton] at hy
  rcases hy with hy | rfl
  ·exact h.eqs y hy hz
  ·exact absurd hz h0,fun i s hi=>by
  obtain ⟨t,g1,g2⟩:=h.stable i s hi
  exact ⟨t,by rw [key_same (S:=noteM S x) (T:=S) rfl]; exact g1,g2⟩⟩
theorem moveTo_class (S:WS) (f t:Nat):∀ j i,i < S.classes.length->classAt (moveTo S f t j) i=if i < j/\classAt S i=f then t else classAt S i
 | 0,i,_=>by simp [moveTo]
 | j+1,i,hi=>by
  have h1:=moveTo_class S f t j i hi
  have hl:=(moveTo_rows S f t j).1
  unfold moveTo
  simp only
  by_cases e:i=j
  ·subst e
   rw [if_neg (by omega)] at h1
   rw [h1]
   by_cases hf:classAt S i=f
   ·rw [if_pos hf,if_pos ⟨by omega,hf⟩]
    unfold classAt
    simp [List.getD_eq_getElem?_getD,hl,hi]
   ·rw [if_neg hf,if_neg (fun e=>hf e.2),h1]
  ·have h2:(if i < j+1/\classAt S i=f then t else classAt S i)=(if i < j/\classAt S i=f then t else classAt S i):=by
    by_cases hc:i < j
    ·simp [hc,Nat.lt_succ_of_lt hc]
    ·rw [if_neg (fun e'=>by omega),if_neg (fun e'=>hc e'.1)]
   rw [h2,<- h1]
   split
   ·unfold classAt
    simp [List.getD_eq_getElem?_getD,List.getElem?_set_ne (Ne.symm e)]
   ·rfl
theorem moveM_class {S:WS} {f t i:Nat} (hi:i < S.classes.length):classAt (moveM S f t) i=if classAt S i=f then t else classAt S i:=by
 unfold moveM
 rw [moveTo_class S f t _ i hi]
 simp [hi]
theorem Base.move {S:WS} (h:Base S) {a b:Nat} (ha:a < S.classes.length) (hb:b < S.classes.length) (hR:∀ R,Closed S R->R a b) (hne:classAt S a ≠ classAt S b):Base (moveM S (classAt S b) (classAt S a)):=by
 obtain ⟨r1,r2,r3,r4,r5,r6,r7,r8⟩:=moveTo_rows S (classAt S b) (classAt S a) S.classes.length
 have hm:∀ i,i < S.classes.length->classAt (moveM S (classAt S b) (classAt S a)) i=if classAt S i=classAt S b then classAt S a else classAt S i:=fun i hi=>moveM_class hi
 change (moveM S (classAt S b) (classAt S a)).classes.length=_ at r1
 change (moveM S (classAt S b) (classAt S a)).shapes=_ at r2
 change (moveM S (classAt S b) (classAt S a)).numbers=_ at r3
 change (moveM S (classAt S b) (classAt S a)).alike=_ at r4
 change (moveM S (classAt S b) (classAt S a)).said=_ at r5
 change (moveM S (classAt S b) (classAt S a)).nums=_ at r6
 generalize moveM S (classAt S b) (classAt S a)=S' at *
 have clt:∀ i,i < S.classes.length->classAt S i < S.classes.length:=fun i hi=>h.inv.class_lt i (by omega)
 have sub:∀ R,Closed S' R->Closed S R:=fun R hC=>hC.mono (by rw [r2]; exact fun _ _ hi=>hi) (by rw [r5]; exact fun _ hx=>hx)
 refine ⟨⟨by rw [r2,r1]; exact h.inv.len,by rw [r6,r2]; exact h.inv.nums,fun c hc=>?_,by rw [r4,r2]; exact h.inv.al,by rw [r3,r2]; exact h.inv.nu⟩,by rw [r2]; exact h.good,by rw [r3,r2]; exact h.num,fun i hi=>?_,by rw [r5,r1]; exact h.saidLt,fun R hC i hi=>?_,fun R hC=>by rw [r4,r2]; exact h.alk R (sub R hC)⟩
 ·obtain ⟨i,hi,rfl⟩:=List.getElem_of_mem hc
  have h1:classAt S' i=S'.classes[i]:=by unfold classAt; simp [List.getD_eq_getElem?_getD,hi]
  rw [<- h1,r1,hm i (by omega)]
  split
  ·exact clt a ha
  ·exact clt i (by omega)
 ·rw [r1] at hi
  rw [hm i hi]
  split
  ·rw [hm _ (clt a ha),h.rep a ha,if_neg hne]
  ·rename_i e
   rw [hm _ (clt i hi),h.rep i hi,if_neg e]
 ·rw [r1] at hi
  rw [hm i hi]
  have hc:=sub R hC
  split
  ·rename_i e
   have h1:=h.cls R hc i hi
   rw [e] at h1
   exact hC.trans _ _ _ (hC.trans _ _ _ h1 (hC.symm _ _ (h.cls R hc b hb))) (hC.trans _ _ _ (hC.symm _ _ (hR R hc)) (h.cls R hc a ha))
  ·exact h.cls R hc i hi
theorem Base.move_reps {S:WS} (h:Base S) {a b:Nat} (ha:a < S.classes.length) (hb:b < S.classes.length) (hne:classAt S a ≠ classAt S b):reps (moveM S (classAt S b) (classAt S a)) S.classes.length+1=reps S S.classes.length:=by
 have clt:∀ i,i < S.classes.length->classAt S i < S.classes.length:=fun i hi=>h.inv.class_lt i (by omega)
 refine reps_less (a:=classAt S b) (h.rep b hb) ?_ _ (clt b hb) fun i hi hia=>?_
 ·rw [moveM_class (clt b hb),if_pos (h.rep b hb)]
  exact hne
 ·rw [moveM_class hi]
  split
  ·rename_i e
   constructor
   ·intro e'; exact absurd (e'.symm.trans e) hia
   ·intro e'
    have:=h.rep a ha
    rw [e',e] at this
    exact absurd this.symm hia
  ·exact Iff.rfl
theorem move_merges {S:WS} {f t i j:Nat} (hi:i < S.classes.length) (hj:j < S.classes.length) (h:classAt S i=classAt S j):classAt (moveM S f t) i=classAt (moveM S f t) j:=by
 rw [moveM_class hi,moveM_class hj,h]
structure TwinsAt (S:WS) (i:Nat) (ps:List (Nat × Nat)) (T:WS):Prop where
 same:Same S T i
 keep:∀ k t,S.alike k=some t->T.alike k=some t
 base:Base T
 pairs:∀ p ∈ ps,p.1 < S.classes.length/\p.2 < S.classes.length/\∀ R,Closed S R->R p.1 p.2
 done:∀ (j:Nat) (s:Sh),j < i->S.shapes[j]?=some s->∃ t,T.alike (keyOfSh S s)=some t/\(classAt S t=classAt S j\/(t,j) ∈ ps)
theorem shapeAt_some {S:WS} {i:Nat} (hi:i < S.shapes.length):S.shapes[i]?=some (shapeAt S i):=by
 unfold shapeAt
 rw [List.getD_eq_getElem?_getD,List.getElem?_eq_getElem hi]
 rfl
theorem Base.filed {T:WS} (h:Base T) {s:Sh} {i:Nat} (hi:T.shapes[i]?=some s) (hk:T.alike (keyOfSh T s)=none):Base (fileM T s i).2:=by
 rw [fileM_none hk]
 have hl:=h.lt hi
 have sub:∀ R,Closed { T with alike:=setF T.alike (keyOfSh T s) (some i),files:=T.files+1,trail:=T.trail++[⟨2,keyOfSh T s,0,0⟩] } R->Closed T R:=fun R hR=>hR.mono (fun _ _ e=>e) (fun _ e=>e)
 refine ⟨⟨h.inv.len,h.inv.nums,h.inv.cl,fun k t hkt=>?_,h.inv.nu⟩,h.good,h.num,h.rep,h.saidLt,fun R hR=>h.cls R (sub R hR),fun R hR k t hkt=>?_⟩
 ·simp only [setF] at hkt
  split at hkt
  ·cases hkt; exact (List.getElem?_eq_some_iff.1 hi).1
  ·exact h.inv.al k t hkt
 ·simp only [setF] at hkt
  split at hkt
  ·rename_i e
   cases hkt
   refine ⟨s,hi,by rw [e,key_name.1],by rw [e,key_name.2],fun j hj=>?_⟩
   rw [e]
   exact h.key_rel (h.cls R (sub R hR)) (h.good i s hi) (by omega) j hj
  ·exact h.alk R (sub R hR) k t hkt
theorem twinsTo_at {S:WS} (h:Base S):∀ i,i<=S.shapes.length->TwinsAt S i (twinsTo S i).1 (twinsTo S i).2
 | 0,_=>⟨twinsTo_same S 0,fun _ _ h=>h,h,fun p hp=>by simp [twinsTo] at hp,fun j _ hj=>by omega⟩
 | i+1,hi=>by
  have ih:=twinsTo_at h i (by omega)
  have hs:=shapeAt_some (S:=S) (i:=i) (by omega)
  have same:=twinsTo_same S (i+1)
  simp only [twinsTo] at same ⊢
  generalize hT:(twinsTo S i).2=T at *
  generalize (twinsTo S i).1=ps at *
  generalize shapeAt S i=s at *
  have hc:=ih.same.classes
  have hkey:keyOfSh T s=keyOfSh S s:=key_same hc s
  have hTs:T.shapes[i]?=some s:=by rw [ih.same.shapes]; exact hs
  have hlen:=h.inv.len
  have hCl:∀ R,Closed S R->Closed T R:=fun R hR=>hR.mono (by rw [ih.same.shapes]; exact fun _ _ e=>e) (by rw [ih.same.said]; exact fun _ e=>e)
  cases hk:T.alike (keyOfSh T s) with
  | some t =>
   rw [fileM_some hk] at same ⊢
   simp only at same ⊢
   have ht:t < S.classes.length:=by have:=ih.base.inv.al _ _ hk; rw [ih.same.shapes] at this; omega
   have hrel:∀ R,Closed S R->R t i:=fun R hR=>by
    obtain ⟨st,g1,g2,g3,g4⟩:=ih.base.alk R (hCl R hR) _ _ hk
    rw [ih.same.shapes] at g1
    refine hR.cong t i st s g1 hs (by rw [g2,key_name.1]) (by rw [g3,key_name.2]) fun k hk'=>?_
    have hk2:k < s.2.1:=by rw [g3,key_name.2] at hk'; exact hk'
    exact hR.trans _ _ _ (g4 k hk') (hR.symm _ _ (ih.base.key_rel (ih.base.cls R (hCl R hR)) (h.good i s hs) (by rw [hc]; omega) k hk2))
   by_cases he:classAt S t=classAt S i
   ·rw [if_pos he]
    refine ⟨same,ih.keep,ih.base,ih.pairs,fun j s' hj hs'=>?_⟩
    by_cases e:j < i
    ·exact ih.done j s' e hs'
    ·obtain rfl:j=i:=by omega
     rw [hs] at hs'
     cases hs'
     exact ⟨t,by rw [<- hkey]; exact hk,.inl he⟩
   ·rw [if_neg he]
    refine ⟨same,ih.keep,ih.base,fun p hp=>?_,fun j s' hj hs'=>?_⟩
    ·simp only [List.mem_append,List.mem_singleton] at hp
     rcases hp with hp | rfl
     ·exact ih.pairs p hp
     ·exact ⟨ht,by show i < _; omega,hrel⟩
    ·by_cases e:j < i
     ·obtain ⟨u,g1,g2⟩:=ih.done j s' e hs'
      exact ⟨u,g1,g2.imp id (fun g=>List.mem_append_left _ g)⟩
     ·obtain rfl:j=i:=by omega
      rw [hs] at hs'
      cases hs'
      exact ⟨t,by rw [<- hkey]; exact hk,.inr (by simp)⟩
  | none =>
   have hB:=ih.base.filed hTs hk
   rw [fileM_none hk] at same hB ⊢
   simp only [if_true] at same hB ⊢
   refine ⟨same,fun k t hkt=>?_,hB,ih.pairs,fun j s' hj hs'=>?_⟩
   ·simp only [setF]
    rw [if_neg (fun e=>by have:=ih.keep k t hkt; rw [e,hk] at this; cases this)]
    exact ih.keep k t hkt
   ·simp only [setF]
    by_cases e:j < i
    ·obtain ⟨u,g1,g2⟩:=ih.done j s' e hs'
     refine ⟨u,?_,g2⟩
     rw [if_neg (fun e'=>by rw [e',hk] at g1; cases g1)]
     exact g1
    ·obtain rfl:j=i:=by omega
     rw [hs] at hs'
     cases hs'
     exact ⟨j,by rw [hkey,if_pos rfl],.inl rfl⟩
theorem twinsM_at {S:WS} (h:Base S):TwinsAt S S.shapes.length (twinsM S).1 (twinsM S).2:=twinsTo_at h _ (Nat.le_refl _)
structure Joining (ps:List (Nat × Nat)) (S:WS):Prop where
 base:Base S
 pairs:∀ p ∈ ps,p.1 < S.classes.length/\p.2 < S.classes.length/\∀ R,Closed S R->R p.1 p.2
 stable:∀ (i:Nat) (s:Sh),S.shapes[i]?=some s->∃ t,S.alike (keyOfSh S s)=some t/\(classAt S t=classAt S i\/∃ p ∈ ps,classAt S p.1=classAt S t/\classAt S p.2=classAt S i)
structure Joined (S T:WS):Prop where
 shapes:T.shapes=S.shapes
 numbers:T.numbers=S.numbers
 nums:T.nums=S.nums
 said:T.said=S.said
 clen:T.classes.length=S.classes.length
 merges:∀ i j,i < S.classes.length->j < S.classes.length->classAt S i=classAt S j->classAt T i=classAt T j
 trail:T.trail.length+1000 * reps T T.classes.length<=S.trail.length+1000 * reps S S.classes.length
 files:T.files+1000 * reps T T.classes.length<=S.files+1000 * reps S S.classes.length
theorem Joined.refl (S:WS):Joined S S:=⟨rfl,rfl,rfl,rfl,rfl,fun _ _ _ _ h=>h,Nat.le_refl _,Nat.le_refl _⟩
theorem Joined.trans {S T U:WS} (h:Joined S T) (k:Joined T U):Joined S U :=
 ⟨k.shapes.trans h.shapes,k.numbers.trans h.numbers,k.nums.trans h.nums,k.said.trans h.said,k.clen.trans h.clen,fun i j hi hj e=>k.merges i j (by rw [h.clen]; exact hi) (by rw [h.clen]; exact hj) (h.merges i j hi hj e),Nat.le_trans k.trail h.trail,Nat.le_trans k.files h.files⟩
theorem Joining.skip {p:Nat × Nat} {ps:List (Nat × Nat)} {S:WS} (h:Joining (p :: ps) S) (he:classAt S p.1=classAt S p.2):Joining ps S:=by
 refine ⟨h.base,fun q hq=>h.pairs q (List.mem_cons_of_mem _ hq),fun i s hi=>?_⟩
 obtain ⟨t,h1,h2⟩:=h.stable i s hi
 refine ⟨t,h1,?_⟩
 rcases h2 with h2 | ⟨q,hq,h3,h4⟩
 ·exact .inl h2
 ·simp only [List.mem_cons] at hq
  rcases hq with rfl | hq
  ·exact .inl (h3.symm.trans (he.trans h4))
  ·exact .inr ⟨q,hq,h3,h4⟩
theorem Joining.go {p:Nat × Nat} {ps:List (Nat × Nat)} {S:WS} (h:Joining (p :: ps) S) (he:classAt S p.1 ≠ classAt S p.2) (hn:S.classes.length<=400) :
  Joining (ps++(twinsM (moveM S (classAt S p.2) (classAt S p.1))).1) (twinsM (moveM S (classAt S p.2) (classAt S p.1))).2/\Joined S (twinsM (moveM S (classAt S p.2) (classAt S p.1))).2 /\
   classAt (twinsM (moveM S (classAt S p.2) (classAt S p.1))).2 p.1=classAt (twinsM (moveM S (classAt S p.2) (classAt S p.1))).2 p.2/\(twinsM (moveM S (classAt S p.2) (classAt S p.1))).1.length<=S.classes.length /\
   reps (twinsM (moveM S (classAt S p.2) (classAt S p.1))).2 S.classes.length+1=reps S S.classes.length/\Base (moveM S (classAt S p.2) (classAt S p.1)):=by
 obtain ⟨hp1,hp2,hpR⟩:=h.pairs p (List.mem_cons_self ..)
 have hB:=h.base.move hp1 hp2 hpR he
 have hreps:=h.base.move_reps hp1 hp2 he
 obtain ⟨r1,r2,r3,r4,r5,r6,r7,r8⟩:=moveTo_rows S (classAt S p.2) (classAt S p.1) S.classes.length
 change (moveM S (classAt S p.2) (classAt S p.1)).classes.length=_ at r1
 change (moveM S (classAt S p.2) (classAt S p.1)).shapes=_ at r2
 change (moveM S (classAt S p.2) (classAt S p.1)).numbers=_ at r3
 change (moveM S (classAt S p.2) (classAt S p.1)).said=_ at r5
 change (moveM S (classAt S p.2) (classAt S p.1)).nums=_ at r6
 change (moveM S (classAt S p.2) (classAt S p.1)).files=_ at r7
 change (moveM S (classAt S p.2) (classAt S p.1)).trail.length<=_ at r8
 have hmm:∀ i j,i < S.classes.length->j < S.classes.length->classAt S i=classAt S j->classAt (moveM S (classAt S p.2) (classAt S p.1)) i=classAt (moveM S (classAt S p.2) (classAt S p.1)) j:=fun i j hi hj e=>move_merges hi hj e
 have hpp:classAt (moveM S (classAt S p.2) (classAt S p.1)) p.1=classAt (moveM S (classAt S p.2) (classAt S p.1)) p.2:=by
  rw [moveM_class hp1,moveM_class hp2,if_neg he,if_pos rfl]
 generalize moveM S (classAt S p.2) (classAt S p.1)=M at *
 have hT:=twinsM_at hB
 have hTl:(twinsM M).1.length<=M.shapes.length:=twinsTo_length M _
 generalize (twinsM M).2=T at *
 generalize (twinsM M).1=qs at *
 have hcT:=hT.same.classes
 have cA:∀ i,classAt T i=classAt M i:=fun i=>classAt_same hcT i
 have hlen:=h.base.inv.len
 have hlM:=hB.inv.len
 have sub:∀ R,Closed T R->Closed S R:=fun R hR=>hR.mono (by rw [hT.same.shapes,r2]; exact fun _ _ e=>e) (by rw [hT.same.said,r5]; exact fun _ e=>e)
 have subM:∀ R,Closed T R->Closed M R:=fun R hR=>hR.mono (by rw [hT.same.shapes]; exact fun _ _ e=>e) (by rw [hT.same.said]; exact fun _ e=>e)
 have hrT:reps T S.classes.length=reps M S.classes.length:=reps_congr _ fun i _=>by rw [cA]
 have htr:=hT.same.trail
 have hfl:=hT.same.files
 refine ⟨⟨hT.base,fun q hq=>?_,fun i s hi=>?_⟩,⟨hT.same.shapes.trans r2,hT.same.numbers.trans r3,hT.same.nums.trans r6,hT.same.said.trans r5,by rw [hcT,r1],fun i j hi hj e=>by rw [cA,cA]; exact hmm i j hi hj e,?_,?_⟩,by rw [cA,cA]; exact hpp,by omega,by omega,hB⟩
 ·simp only [List.mem_append] at hq
  rw [hcT,r1]
  rcases hq with hq | hq
  ·obtain ⟨a,b,c⟩:=h.pairs q (List.mem_cons_of_mem _ hq)
   exact ⟨a,b,fun R hR=>c R (sub R hR)⟩
  ·obtain ⟨a,b,c⟩:=hT.pairs q hq
   exact ⟨by omega,by omega,fun R hR=>c R (subM R hR)⟩
 ·rw [hT.same.shapes] at hi
  have hil:=(List.getElem?_eq_some_iff.1 hi).1
  obtain ⟨t,g1,g2⟩:=hT.done i s hil hi
  refine ⟨t,by rw [key_same hcT]; exact g1,?_⟩
  rw [cA,cA]
  rcases g2 with g2 | g2
  ·exact .inl g2
  ·exact .inr ⟨(t,i),List.mem_append_right _ g2,by rw [cA],by rw [cA]⟩
 ·rw [hcT,r1]; omega
 ·rw [hcT,r1]; omega
structure JoinEnd (ps:List (Nat × Nat)) (S T:WS):Prop where
 base:Base T
 stable:∀ (i:Nat) (s:Sh),T.shapes[i]?=some s->∃ t,T.alike (keyOfSh T s)=some t/\classAt T t=classAt T i
 joined:Joined S T
 pairs:∀ p ∈ ps,classAt T p.1=classAt T p.2
def need (ps:List (Nat × Nat)) (S:WS):Nat:=reps S S.classes.length * (S.classes.length+1)+ps.length+1
theorem need_go {ps qs:List (Nat × Nat)} {n d d' k:Nat} (hq:qs.length<=n) (hd:d'+1=d) (hk:d * (n+1)+(ps.length+1)+1<=k+1):d' * (n+1)+(ps++qs).length+1<=k:=by
 subst hd
 rw [Nat.add_mul,Nat.one_mul] at hk
 simp only [List.length_append]
 omega
theorem joinF_end:∀ (k:Nat) (ps:List (Nat × Nat)) (S:WS),Joining ps S->S.classes.length<=400->need ps S<=k->JoinEnd ps S (joinF k ps S)
 | 0,_,_,_,_,h=>by unfold need at h; omega
 | k+1,[],S,h,_,_=>by
  refine ⟨h.base,fun i s hi=>?_,Joined.refl S,fun p hp=>by cases hp⟩
  obtain ⟨t,h1,h2⟩:=h.stable i s hi
  rcases h2 with h2 | ⟨_,hq,_⟩
  ·exact ⟨t,h1,h2⟩
  ·cases hq
 | k+1,p :: ps,S,h,hn,hk=>by
  obtain ⟨hp1,hp2,_⟩:=h.pairs p (List.mem_cons_self ..)
  unfold joinF
  by_cases he:classAt S p.1=classAt S p.2
  ·rw [if_pos he]
   have E:=joinF_end k ps S (h.skip he) hn (by unfold need at hk ⊢; simp only [List.length_cons] at hk; omega)
   refine ⟨E.base,E.stable,E.joined,fun q hq=>?_⟩
   simp only [List.mem_cons] at hq
   rcases hq with rfl | hq
   ·exact E.joined.merges _ _ hp1 hp2 he
   ·exact E.pairs q hq
  ·rw [if_neg he]
   obtain ⟨g1,g2,g3,g4,g5,_⟩:=h.go he hn
   have hc:=g2.clen
   have E:=joinF_end k _ _ g1 (by omega) (by
    unfold need at hk ⊢
    simp only [List.length_cons] at hk
    rw [hc]
    exact need_go g4 g5 hk)
   refine ⟨E.base,E.stable,g2.trans E.joined,fun q hq=>?_⟩
   simp only [List.mem_cons] at hq
   rcases hq with rfl | hq
   ·exact E.joined.merges _ _ (by omega) (by omega) g3
   ·exact E.pairs q (List.mem_append_left _ hq)
def joinM (S:WS) (l r:Nat):WS:=joinF (need [(l,r)] S) [(l,r)] S
theorem Base.fits {S:WS} (h:Base S) (hn:S.classes.length<=400) (i:Nat) (hi:i < S.shapes.length):Fits S (shapeAt S i):=by
 have hs:=shapeAt_some hi
 have hg:=h.good i _ hs
 have hlen:=h.inv.len
 have hp:∀ j,j < 3->partAt (shapeAt S i) j<=1000000:=fun j hj=>by
  by_cases e:j < (shapeAt S i).2.1
  ·have:=hg.part j e; omega
  ·rw [hg.rest j (by omega) hj]; omega
 exact ⟨hg.name,hg.count,fun j hj=>by have:=hg.part j hj; omega,⟨hp 0 (by omega),hp 1 (by omega),hp 2 (by omega)⟩,fun j=>by have:=h.inv.class_lt j (by omega); omega⟩
theorem Goes.joinF {S0:WS}:∀ (k:Nat) (ps:List (Nat × Nat)) (S:WS),Joining ps S->S.classes.length<=400->Goes S0 S->Goes S0 (joinF k ps S)
 | 0,_,_,_,_,h=>h
 | k+1,[],S,_,_,h=>h
 | k+1,p :: ps,S,h,hn,hg=>by
  rw [Go.Proofs.YtmfkpllnmmfpiaaGreatDoor.joinF]
  by_cases he:classAt S p.1=classAt S p.2
  ·rw [if_pos he]
   exact Goes.joinF k ps S (h.skip he) hn hg
  ·rw [if_neg he]
   obtain ⟨g1,g2,g3,g4,g5,g6⟩:=h.go he hn
   have hc:=g2.clen
   have hl:=(moveTo_rows S (classAt S p.2) (classAt S p.1) S.classes.length).1
   change (moveM S (classAt S p.2) (classAt S p.1)).classes.length=_ at hl
   exact Goes.joinF k _ _ g1 (by omega) ((hg.move _ _).twins (g6.fits (by omega)))
end Go.Proofs.YtmfkpllnmmfpiaaGreatDoor
