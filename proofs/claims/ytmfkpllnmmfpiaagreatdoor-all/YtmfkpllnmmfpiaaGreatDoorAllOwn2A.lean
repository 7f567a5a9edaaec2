/- AllOwnLaw, AllOwn, AllTook, AllOwn2 -/
import Derived.Test.YtmfkpllnmmfpiaaGreatDoorAllRoomA
import Derived.Deep.CutBlock
import Derived.Test.YtmfkpllnmmfpiaaGreatDoorSaidA
set_option maxHeartbeats 16000000
set_option maxRecDepth 100000
namespace Go.Proofs.YtmfkpllnmmfpiaaGreatDoor
open Go.RowKit
def EntIn (s:Nat) (P:Nat->World->Nat->Nat->Prop) (w:World) (b m:Nat) (B:Nat->Prop) (k:Nat) (u:Value):Prop :=
 ∃ a n cap g o,u=.slice a n cap/\n<=cap/\cap<=maxLen/\(0 < n->a=some ⟨g,o,none⟩/\g < w.heap.size/\B g/\(g=b->o+n * s<=m * s)/\∀ i,i < n->P k w g (o+i * s))
theorem EntIn.upd {s b m k:Nat} {P:Nat->World->Nat->Nat->Prop} {w w':World} {B:Nat->Prop} {L:List Nat} {u:Value} (hl:∀ k,LocalP s (P k)) (h:EntIn s P w b m B k u) (hu:Upd L w w') (hL:∀ g,B g->g < w.heap.size->g ∉ L):EntIn s P w' b m B k u:=by
 obtain ⟨a,n,cap,g,o,h1,h2,h3,h4⟩:=h
 refine ⟨a,n,cap,g,o,h1,h2,h3,fun h0=>?_⟩
 obtain ⟨e1,e2,e3,e4,e5⟩:=h4 h0
 exact ⟨e1,Nat.lt_of_lt_of_le e2 hu.size,e3,e4,fun i hi=>hl k w w' g _ (fun c _=>hu.cell (p:=⟨g,o+i * s+c,none⟩) e2 (hL g e3 e2)) (e5 i hi)⟩
theorem EntIn.paint {s b m k:Nat} {P:Nat->World->Nat->Nat->Prop} {w w':World} {B:Nat->Prop} {u:Value} {Q:World->Nat->Nat->Prop} (hl:∀ k,LocalP s (P k)) (h:EntIn s P w b m B k u) (hp:Painted w w' b (m * s) 1 s Q):EntIn s P w' b m B k u:=by
 obtain ⟨a,n,cap,g,o,h1,h2,h3,h4⟩:=h
 refine ⟨a,n,cap,g,o,h1,h2,h3,fun h0=>?_⟩
 obtain ⟨e1,e2,e3,e4,e5⟩:=h4 h0
 refine ⟨e1,Nat.lt_of_lt_of_le e2 hp.upd.size,e3,e4,fun i hi=>hl k w w' g _ (fun c hc=>?_) (e5 i hi)⟩
 by_cases e:g=b
 ·subst e
  have h5:=e4 rfl
  have h6:=Nat.mul_le_mul_right s (show i+1<=n by omega)
  rw [Nat.add_mul] at h6
  exact hp.out e2 _ (.inl (by omega))
 ·exact hp.upd.cell (p:=⟨g,o+i * s+c,none⟩) e2 (by simp [e])
theorem EntIn.more {s b m b' m' k:Nat} {P:Nat->World->Nat->Nat->Prop} {w:World} {B B':Nat->Prop} {u:Value} (h:EntIn s P w b m B k u) (hB:∀ g,B g->g < w.heap.size->B' g) (hb:∀ g,g < w.heap.size->g=b'->(g=b/\m<=m') ):EntIn s P w b' m' B' k u:=by
 obtain ⟨a,n,cap,g,o,h1,h2,h3,h4⟩:=h
 refine ⟨a,n,cap,g,o,h1,h2,h3,fun h0=>?_⟩
 obtain ⟨e1,e2,e3,e4,e5⟩:=h4 h0
 refine ⟨e1,e2,hB g e3 e2,fun e=>?_,e5⟩
 obtain ⟨e6,e7⟩:=hb g e2 e
 have:=Nat.mul_le_mul_right s e7
 have:=e4 e6
 omega
structure OwnSt (f s:Nat) (P:Nat->World->Nat->Nat->Prop) (w wr:World) (wb:Nat) (V:Nat->Value) (E:Nat->List Value) (bL:List Nat) (n q:Nat) (V':Nat->Value) (ao:Option Addr) (b cap:Nat) (new:List Value):Prop where
 le:n+q<=cap
 hall:Hall wr s ao b cap
 own:0 < cap->¬ WrlB wb V' b/\(b ∈ bL\/w.heap.size<=b)
 wrl:Wrl wr wb V' (setW E f (E f++new))
 same:∀ i,i ≠ f->V' i=V i
 moved:Moved w (V f) (V' f)
 len:new.length=q+1
 ents:∀ i u,new[i]?=some u->EntIn s P wr b (n+q) (fun g=>¬ WrlB wb V' g/\(g ∈ bL\/w.heap.size<=g)) ((E f).length+i) u
 upd:Upd (wb :: (bL++(V f).ownBlock.toList)) w wr
theorem setW_twice {α:Type} (F:Nat->α) (f:Nat) (x y:α):setW (setW F f x) f y=setW F f y:=by
 funext i
 by_cases e:i=f
 ·subst e; rw [setW_same,setW_same]
 ·rw [setW_other e,setW_other e,setW_other e]
theorem wrlB_set {wb f:Nat} {V:Nat->Value} {v':Value} {w:World} {g:Nat} (hm:Moved w (V f) v') (hf:f < 5) (hg:g < w.heap.size) (h:¬ WrlB wb V g):¬ WrlB wb (setW V f v') g:=by
 rintro (e | ⟨i,hi,e⟩)
 ·exact h (.inl e)
 ·by_cases ei:i=f
  ·subst ei
   rw [setW_same] at e
   rcases hm with e2 | ⟨k,e2,hk⟩
   ·exact h (.inr ⟨i,hf,e2 ▸ e⟩)
   ·rw [e2] at e; cases e; omega
  ·rw [setW_other ei] at e
   exact h (.inr ⟨i,hi,e⟩)
theorem Hall.may {w:World} {wb s b cap n:Nat} {V:Nat->Value} {ao:Option Addr} (h:Hall w s ao b cap) (hn:n<=cap) (ho:0 < cap->¬ WrlB wb V b):MayW w wb V s ao n cap b 0:=by
 refine ⟨hn,h.max,fun h0=>h.addr (by omega),fun h0=>h.lt (by omega),fun h0=>ho (by omega),fun i hi=>?_⟩
 have:=Nat.mul_le_mul_right s hn
 rw [Nat.zero_add]
 exact h.cell i (by omega)
theorem not_own {wb f k:Nat} {V:Nat->Value} (hf:f < 5) (h:¬ WrlB wb V k):k ∉ wb :: (V f).ownBlock.toList:=fun hm=>by
 simp only [List.mem_cons] at hm
 rcases hm with e | e
 ·exact h (.inl e)
 ·exact h (.inr ⟨f,hf,by simpa using e⟩)
theorem OwnSt.start {f s:Nat} {P:Nat->World->Nat->Nat->Prop} {w w1:World} {wb:Nat} {V:Nat->Value} {E:Nat->List Value} {bL:List Nat} {b0 n cap:Nat} {ao:Option Addr} (hl:∀ k,LocalP s (P k)) (hf:f < 5) (h:Hall w s ao b0 cap) (hn:n<=cap) (ho:0 < cap->¬ WrlB wb V b0/\b0 ∈ bL)
  (hm:Marked2 w w1 wb f V E (.slice ao n cap) b0 0 n s (P (E f).length)):∃ V',OwnSt f s P w w1 wb V E bL n 0 V' ao b0 cap [.slice ao n cap]:=by
 obtain ⟨w2,v',h1,h2,h3,h4⟩:=hm
 have hs1:=h1.upd.size
 have hs2:=h4.size
 have hnb:0 < cap->b0 ∉ wb :: (V f).ownBlock.toList:=fun h0=>not_own hf (ho h0).1
 have hH2:=h.painted h1
 have hH1:=hH2.later h4 hnb
 have hup:Upd (wb :: (bL++(V f).ownBlock.toList)) w w1:=by
  have hu1:Upd bL w w2:=by
   by_cases h0:0 < n
   ·exact h1.upd.mono (fun x hx _=>by simp at hx; subst hx; exact (ho (by omega)).2)
   ·exact (h1.upd0 (by omega)).mono (fun x hx _=>(by cases hx))
  refine (hu1.mono (fun x hx _=>by simp [hx])).trans' h4 (fun x hx _=>?_)
  simp only [List.mem_cons,List.mem_append] at hx ⊢
  rcases hx with e | e
  ·exact .inl e
  ·exact .inr (.inr e)
 refine ⟨_,hn,hH1,fun h0=>⟨wrlB_set h3 hf (h.lt h0) (ho h0).1,.inl (ho h0).2⟩,h2,fun i hi=>setW_other hi,by rw [setW_same]; exact h3,rfl,fun i u hu=>?_,hup⟩
 match i,hu with
 | 0,hu =>
  simp only [List.getElem?_cons_zero,Option.some.injEq] at hu
  subst hu
  refine ⟨ao,n,cap,b0,0,rfl,hn,h.max,fun h0=>⟨h.addr (by omega),hH1.lt (by omega),⟨wrlB_set h3 hf (h.lt (by omega)) (ho (by omega)).1,.inl (ho (by omega)).2⟩,fun _=>by rw [Nat.add_zero,Nat.zero_add]; exact Nat.le_refl _,fun i hi=>?_⟩⟩
  rw [Nat.add_zero]
  exact hl _ w2 w1 b0 _ (fun c _=>h4.cell (p:=⟨b0,0+i * s+c,none⟩) (hH2.lt (by omega)) (hnb (by omega))) (h1.ents i hi)
 | i+1,hu=>simp at hu
section
variable {f s:Nat} {P:Nat->World->Nat->Nat->Prop} {w wr w3 w4 w5:World} {wb:Nat} {V V':Nat->Value} {E:Nat->List Value} {bL:List Nat} {n q b cap b' cap':Nat} {ao ao':Option Addr} {new:List Value}
theorem OwnSt.keep (h:OwnSt f s P w wr wb V E bL n q V' ao b cap new) (h3:Upd [] wr w3) (hp:Painted w3 w4 b ((n+q) * s) 1 s (fun _ _ _=>True)) (hb:(b'=b/\0 < cap)\/(b'=w3.heap.size/\Upd [] w3 w4)):Wrl w4 wb V' (setW E f (E f++new))/\¬ WrlB wb V' b'/\(b' ∈ bL\/w.heap.size<=b')/\Upd (wb :: (bL++(V f).ownBlock.toList)) w w4:=by
 have hw3:=h.wrl.later h3 (fun _ _=>by simp)
 have hs:=h.upd.size
 have hs3:=h3.size
 rcases hb with ⟨e,h0⟩ | ⟨e,hu⟩
 ·subst e
  obtain ⟨o1,o2⟩:=h.own h0
  refine ⟨hw3.later hp.upd (fun k hk hm=>by simp at hm; subst hm; exact o1 hk),o1,o2,(h.upd.trans' h3 (fun x hx _=>(by cases hx))).trans' hp.upd (fun x hx hlt=>?_)⟩
  simp at hx
  subst hx
  rcases o2 with e | e
  ·simp [e]
  ·omega
 ·refine ⟨hw3.later hu (fun _ _=>by simp),fun hk=>?_,.inr (by omega),(h.upd.trans' h3 (fun x hx _=>(by cases hx))).trans' hu (fun x hx _=>(by cases hx))⟩
  have:=hw3.low hk
  omega
theorem Moved.trans {w w':World} {u v x:Value} (h:Moved w u v) (k:Moved w' v x) (hs:w.heap.size<=w'.heap.size):Moved w u x:=by
 rcases k with e | ⟨m,e,hm⟩
 ·rcases h with e2 | ⟨m,e2,hm⟩
  ·exact .inl (e.trans e2)
  ·exact .inr ⟨m,e.trans e2,hm⟩
 ·exact .inr ⟨m,e,by omega⟩
theorem OwnSt.next (hl:∀ k,LocalP s (P k)) (hf:f < 5) (h:OwnSt f s P w wr wb V E bL n q V' ao b cap new) (h3:Upd [] wr w3) (hp:Painted w3 w4 b ((n+q) * s) 1 s (fun _ _ _=>True)) (hb:(b'=b/\0 < cap)\/(b'=w3.heap.size/\Upd [] w3 w4)) (hH:Hall w4 s ao' b' cap') (hle:n+q+1<=cap') {c5:Nat} (hc5:1<=c5/\c5<=maxLen)
  (hm:Marked2 w4 w5 wb f V' (setW E f (E f++new)) (.slice (some ⟨b',(n+q) * s,none⟩) 1 c5) b' ((n+q) * s) 1 s (P (setW E f (E f++new) f).length)):∃ V'',OwnSt f s P w w5 wb V E bL n (q+1) V'' ao' b' cap' (new++[.slice (some ⟨b',(n+q) * s,none⟩) 1 c5]):=by
 obtain ⟨k1,k2,k3,k4⟩:=h.keep h3 hp hb
 obtain ⟨w2,v',p1,p2,p3,p4⟩:=hm
 rw [setW_same] at p1
 rw [setW_same,setW_twice,List.append_assoc] at p2
 have hs:=h.upd.size
 have hs3:=h3.size
 have hs4:=hp.upd.size
 have hs2:=p1.upd.size
 have hs5:=p4.size
 have hb4:=hH.lt (by omega)
 have hnb:=not_own hf k2
 have hH2:=hH.painted p1
 refine ⟨_,by omega,hH2.later p4 (fun _=>hnb),fun _=>⟨wrlB_set p3 hf hb4 k2,k3⟩,p2,fun i hi=>by rw [setW_other hi]; exact h.same i hi,by rw [setW_same]; exact h.moved.trans p3 (by omega),by rw [List.length_append,h.len]; rfl,fun i u hu=>?_,?_⟩
 ·by_cases hi:i < new.length
  ·rw [List.getElem?_append_left hi] at hu
   have e0:=h.ents i u hu
   have e1:EntIn s P wr b' (n+q) (fun g=>¬ WrlB wb V' g/\(g ∈ bL\/w.heap.size<=g)) ((E f).length+i) u:=e0.more (fun g hg _=>hg) (fun g hg e=>by
    rcases hb with ⟨e2,_⟩ | ⟨e2,_⟩
    ·exact ⟨e.trans e2,Nat.le_refl _⟩
    ·omega)
   have e3:=e1.upd hl h3 (fun _ _ _=>by simp)
   have e4:EntIn s P w4 b' (n+q) (fun g=>¬ WrlB wb V' g/\(g ∈ bL\/w.heap.size<=g)) ((E f).length+i) u:=by
    rcases hb with ⟨e2,_⟩ | ⟨_,hu4⟩
    ·rw [e2] at e3 ⊢
     exact e3.paint hl hp
    ·exact e3.upd hl hu4 (fun _ _ _=>by simp)
   have e5:EntIn s P w4 b' (n+q) (fun g=>¬ WrlB wb V' g/\¬ WrlB wb (setW V' f v') g/\(g ∈ bL\/w.heap.size<=g)) ((E f).length+i) u:=e4.more (fun g hg hgl=>⟨hg.1,wrlB_set p3 hf hgl hg.1,hg.2⟩) (fun g _ e=>⟨e,Nat.le_refl _⟩)
   exact ((e5.paint hl p1).upd hl p4 (fun g hg _=>not_own hf hg.1)).more (fun g hg _=>hg.2) (fun g _ e=>⟨e,by omega⟩)
  ·have hin:i=new.length:=by
    have:=(List.getElem?_eq_some_iff.1 hu).1
    simp at this
    omega
   subst hin
   rw [List.getElem?_append_right (Nat.le_refl _),Nat.sub_self] at hu
   simp only [List.getElem?_cons_zero,Option.some.injEq] at hu
   subst hu
   refine ⟨_,1,c5,b',(n+q) * s,rfl,hc5.1,hc5.2,fun _=>⟨rfl,by omega,⟨wrlB_set p3 hf hb4 k2,k3⟩,fun _=>by rw [Nat.one_mul,show n+(q+1)=n+q+1 by omega,Nat.add_mul (n+q),Nat.one_mul]; exact Nat.le_refl _,fun i hi=>?_⟩⟩
   have:=p1.ents i hi
   rw [List.length_append] at this
   exact hl _ w2 w5 b' _ (fun c _=>p4.cell (p:=⟨b',(n+q) * s+i * s+c,none⟩) (Nat.lt_of_lt_of_le hb4 hs2) hnb) this
 ·refine (k4.trans' p1.upd (fun x hx hlt=>?_)).trans' p4 (fun x hx hlt=>?_)
  ·simp at hx
   subst hx
   rcases k3 with e | e
   ·simp [e]
   ·omega
  ·simp only [List.mem_cons,List.mem_append] at hx ⊢
   rcases hx with e | e
   ·exact .inl e
   ·have e':(V' f).ownBlock=some x:=by simpa using e
    rcases h.moved with e2 | ⟨m,e2,hm⟩
    ·exact .inr (.inr (by rw [<- e2]; exact e))
    ·rw [e2] at e'; cases e'; omega
theorem OwnSt.may (h:OwnSt f s P w wr wb V E bL n q V' ao b cap new) (h3:Upd [] wr w3) (hp:Painted w3 w4 b ((n+q) * s) 1 s (fun _ _ _=>True)) (hb:(b'=b/\0 < cap)\/(b'=w3.heap.size/\Upd [] w3 w4)) (hH:Hall w4 s ao' b' cap') (hle:n+q+1<=cap') {c5:Nat} (hc5:1<=c5/\c5<=maxLen):MayW w4 wb V' s (some ⟨b',(n+q) * s,none⟩) 1 c5 b' ((n+q) * s):=by
 obtain ⟨_,k2,_,_⟩:=h.keep h3 hp hb
 refine ⟨hc5.1,hc5.2,fun _=>rfl,fun _=>hH.lt (by omega),fun _=>k2,fun i hi=>?_⟩
 have:=Nat.mul_le_mul_right s hle
 rw [Nat.add_mul (n+q)] at this
 exact hH.cell _ (by omega)
end
def Ent (s:Nat) (P:Nat->World->Nat->Nat->Prop) (w:World) (B:Nat->Prop) (k:Nat) (u:Value):Prop :=
 ∃ a n cap g o,u=.slice a n cap/\n<=cap/\cap<=maxLen/\(0 < n->a=some ⟨g,o,none⟩/\g < w.heap.size/\B g/\∀ i,i < n->P k w g (o+i * s))
theorem EntIn.ent {s b m k:Nat} {P:Nat->World->Nat->Nat->Prop} {w:World} {B:Nat->Prop} {u:Value} (h:EntIn s P w b m B k u):Ent s P w B k u:=by
 obtain ⟨a,n,cap,g,o,h1,h2,h3,h4⟩:=h
 exact ⟨a,n,cap,g,o,h1,h2,h3,fun h0=>let ⟨e1,e2,e3,_,e5⟩:=h4 h0; ⟨e1,e2,e3,e5⟩⟩
structure Owned (f s:Nat) (P:Nat->World->Nat->Nat->Prop) (w w':World) (wb:Nat) (V:Nat->Value) (E:Nat->List Value) (bL:List Nat) (V':Nat->Value) (new:List Value):Prop where
 wrl:Wrl w' wb V' (setW E f (E f++new))
 same:∀ i,i ≠ f->V' i=V i
 moved:Moved w (V f) (V' f)
 len:new.length=5
 ents:∀ i u,new[i]?=some u->Ent s P w' (fun g=>¬ WrlB wb V' g/\(g ∈ bL\/w.heap.size<=g)) ((E f).length+i) u
 upd:Upd (wb :: (bL++(V f).ownBlock.toList)) w w'
theorem OwnSt.owned {f s n b cap:Nat} {P:Nat->World->Nat->Nat->Prop} {w wr:World} {wb:Nat} {V V':Nat->Value} {E:Nat->List Value} {bL:List Nat} {ao:Option Addr} {new:List Value} (h:OwnSt f s P w wr wb V E bL n 4 V' ao b cap new):Owned f s P w wr wb V E bL V' new :=
 ⟨h.wrl,h.same,h.moved,h.len,fun i u hu=>(h.ents i u hu).ent,h.upd⟩
theorem src_one {w:World} {t e:TypeId} (ht:Tryz.prog.underlying t=some (.slice e)) (x:Value) (h1:x.oneCell'=true) (T:TypeId):Src Tryz.prog 1 t (.slice (some ⟨w.heap.size,0,none⟩) 1 1) 1 [x] (w.alloc (.cells #[x] T)) :=
 Src.ofSlice _ ht _ _ _ _ rfl (World.news_of_block (heap_alloc_new w (.cells #[x] T))) (fun u hu=>by simp at hu; subst hu; exact h1)
theorem own_any (w:World) (wb:Nat) (V:Nat->Value) (E:Nat->List Value) (bL:List Nat) (ao:Option Addr) (n cap b:Nat) (h:Wrl w wb V E) (hH:Hall w 1 ao b cap) (hn:n<=cap) (ho:0 < cap->¬ WrlB wb V b/\b ∈ bL) (hnn:n<=100000) (hE:(E 1).length+10<=100000000000) :
  Calls Tryz.prog 35 #[.pointer (some ⟨wb,0,none⟩),.slice ao n cap] w fun e w'=>e=.returned (.tuple #[])/\∃ V' new,Owned 1 1 PT w w' wb V E bL V' new:=by
 obtain ⟨i0,hi,hz0,hz1,hz2⟩:=info_parts info_str
 have HM:=hide (mark_two w wb V E ao n cap b 0 h (hH.may hn (fun h0=>(ho h0).1)) (by omega))
 have HSt:Hid (∀ w1,Marked2 w w1 wb 1 V E (.slice ao n cap) b 0 n 1 (PT (E 1).length)->∃ V',OwnSt 1 1 PT w w1 wb V E bL n 0 V' ao b cap [.slice ao n cap]):=fun w1 hm=>OwnSt.start localT (by omega) hH hn ho hm
 clear h hH ho
 go_enter Tryz.func35,Tryz.ntmps35
 go_upto_region 1 with (go_at_call 69; refine HM.out.mono ?_; rintro e w1 ⟨rfl,hk1⟩; obtain ⟨V1,hS1⟩:=HSt.out w1 hk1; have HS1:=hide hS1; clear hk1 hS1)
 clear HM HSt
 go_wp2_with fail
 go_loopw [1,4] (fun lv kv wr=>∃ (q m:Nat) (V':Nat->Value) (ao':Option Addr) (b' cap':Nat) (new:List Value),q<=4/\kv=.int .i64 q/\lv=.slice ao' m cap'/\Hid (m=n+q)/\Hid (OwnSt 1 1 PT w wr wb V E bL n q V' ao' b' cap' new)) (fun _ kv _=>4 - (intOf kv).toNat)
 case atStart=>exact ⟨0,n,V1,ao,b,cap,_,by omega,rfl,rfl,rfl,HS1.out⟩
 case round =>
  obtain ⟨q,m,V',ao',b',cap',new,hq,rfl,rfl,Hm,HS⟩:=hrel
  by_cases hq4:q < 4
  ·have hqI:(q:Int) < 4:=by omega
   have hm:=Hm.out
   have hmc:m<=cap':=by have:=HS.out.le; omega
   have hmb:m<=1000000:=by omega
   have hcm:=HS.out.hall.max
   unfold maxLen at hcm
   have Hh3:=hide (HS.out.hall.later ((Upd.refl [] wr).alloc (.cells #[.string ⟨#[]⟩] 9)) (fun _=>by simp))
   have Hsrc:=hide (src_one (w:=wr) Tryz.underlying50 (.string ⟨#[]⟩) rfl 9)
   have HMk:Hid (∀ (ao4:Option Addr) (b4 cap4:Nat) (w4:World),m+1<=cap4->Hall w4 1 ao4 b4 cap4->Painted (wr.alloc (.cells #[.string ⟨#[]⟩] 9)) w4 b' (m * 1) 1 1 (fun _ _ _=>True)->((b4=b'/\0 < cap')\/(b4=(wr.alloc (.cells #[.string ⟨#[]⟩] 9)).heap.size/\Upd [] (wr.alloc (.cells #[.string ⟨#[]⟩] 9)) w4)) ->
     Calls Tryz.prog 69 #[.pointer (some ⟨wb,0,none⟩),.slice (some ⟨b4,m,none⟩) 1 (cap4 - m)] w4 fun e w5=>e=.returned (.tuple #[])/\∃ V'',OwnSt 1 1 PT w w5 wb V E bL n (q+1) V'' ao4 b4 cap4 (new++[.slice (some ⟨b4,m,none⟩) 1 (cap4 - m)])):=fun ao4 b4 cap4 w4 h1 h2 h3 h4=>by
    have hmx:=h2.max
    have h5:1<=cap4 - m/\cap4 - m<=maxLen:=⟨by omega,by omega⟩
    have hU:=(Upd.refl [] wr).alloc (.cells #[.string ⟨#[]⟩] 9)
    rw [hm] at h1 h3 h5 ⊢
    obtain ⟨k1,_,_,_⟩:=HS.out.keep hU h3 h4
    have hmay:=HS.out.may hU h3 h4 h2 h1 h5
    rw [Nat.mul_one] at hmay
    refine (mark_two w4 wb V' _ _ 1 (cap4 - (n+q)) b4 (n+q) k1 hmay ?_).mono fun e w5 ⟨he,hk⟩=>⟨he,?_⟩
    ·rw [setW_same,List.length_append,HS.out.len]
     omega
    ·have:=HS.out.next localT (by omega) hU h3 h4 h2 h1 h5 (w5:=w5) (by rw [Nat.mul_one]; exact hk)
     rw [Nat.mul_one] at this
     exact this
   clear hm
   go_upto_region 6 with (at_builtin; go_must (refine wpList_append_one _ rfl _ _ 50 rfl Tryz.underlying50 hi hz0 hz1 hz2 rfl rfl rfl Hh3.out hmc Hsrc.out rfl hmb (by decide) ?_); intro ao4 b4 cap4 w4 hle4 hH4 hP4 hb4)
   have ha4:=hH4.addr (by omega)
   have hmx4:=hH4.max
   unfold maxLen at hmx4
   subst ha4
   have HMc:=hide (HMk.out _ b4 cap4 w4 hle4 hH4 hP4 hb4)
   clear HMk Hsrc Hh3 hH4 hP4 hb4
   have hleI:(m:Int)+1<=(cap4:Int):=by omega
   go_wp2_with (go_at_call 69; refine HMc.out.mono ?_; rintro e w5 ⟨rfl,V5,hS5⟩; have HS5:=hide hS5; clear hS5)
   exact ⟨⟨q+1,m+1,V5,_,b4,cap4,_,by omega,by go_num,rfl,by have:=Hm.out; show _=_; omega,HS5.out⟩,by simp [intOf]; omega⟩
  ·obtain rfl:q=4:=by omega
   have hqI:¬ ((4:Nat):Int) < 4:=by omega
   go_wp2
   go_end0
   exact ⟨rfl,V',new,HS.out.owned⟩
theorem ownInts_any (w:World) (wb:Nat) (V:Nat->Value) (E:Nat->List Value) (bL:List Nat) (ao:Option Addr) (n cap b:Nat) (h:Wrl w wb V E) (hH:Hall w 1 ao b cap) (hn:n<=cap) (ho:0 < cap->¬ WrlB wb V b/\b ∈ bL) (hnn:n<=100000) (hE:(E 3).length+10<=100000000000) :
  Calls Tryz.prog 37 #[.pointer (some ⟨wb,0,none⟩),.slice ao n cap] w fun e w'=>e=.returned (.tuple #[])/\∃ V' new,Owned 3 1 PI w w' wb V E bL V' new:=by
 obtain ⟨i0,hi,hz0,hz1,hz2⟩:=info_parts info_int
 have HM:=hide (markInts_two w wb V E ao n cap b 0 h (hH.may hn (fun h0=>(ho h0).1)) (by omega))
 have HSt:Hid (∀ w1,Marked2 w w1 wb 3 V E (.slice ao n cap) b 0 n 1 (PI (E 3).length)->∃ V',OwnSt 3 1 PI w w1 wb V E bL n 0 V' ao b cap [.slice ao n cap]):=fun w1 hm=>OwnSt.start localI (by omega) hH hn ho hm
 clear h hH ho
 go_enter Tryz.func37,Tryz.ntmps37
 go_upto_region 1 with (go_at_call 72; refine HM.out.mono ?_; rintro e w1 ⟨rfl,hk1⟩; obtain ⟨V1,hS1⟩:=HSt.out w1 hk1; have HS1:=hide hS1; clear hk1 hS1)
 clear HM HSt
 go_wp2_with fail
 go_loopw [1,4] (fun lv kv wr=>∃ (q m:Nat) (V':Nat->Value) (ao':Option Addr) (b' cap':Nat) (new:List Value),q<=4/\kv=.int .i64 q/\lv=.slice ao' m cap'/\Hid (m=n+q)/\Hid (OwnSt 3 1 PI w wr wb V E bL n q V' ao' b' cap' new)) (fun _ kv _=>4 - (intOf kv).toNat)
 case atStart=>exact ⟨0,n,V1,ao,b,cap,_,by omega,rfl,rfl,rfl,HS1.out⟩
 case round =>
  obtain ⟨q,m,V',ao',b',cap',new,hq,rfl,rfl,Hm,HS⟩:=hrel
  by_cases hq4:q < 4
  ·have hqI:(q:Int) < 4:=by omega
   have hm:=Hm.out
   have hmc:m<=cap':=by have:=HS.out.le; omega
   have hmb:m<=1000000:=by omega
   have hcm:=HS.out.hall.max
   unfold maxLen at hcm
   have Hh3:=hide (HS.out.hall.later ((Upd.refl [] wr).alloc (.cells #[.int .i64 0] 3)) (fun _=>by simp))
   have Hsrc:=hide (src_one (w:=wr) Tryz.underlying44 (.int .i64 0) rfl 3)
   have HMk:Hid (∀ (ao4:Option Addr) (b4 cap4:Nat) (w4:World),m+1<=cap4->Hall w4 1 ao4 b4 cap4->Painted (wr.alloc (.cells #[.int .i64 0] 3)) w4 b' (m * 1) 1 1 (fun _ _ _=>True)->((b4=b'/\0 < cap')\/(b4=(wr.alloc (.cells #[.int .i64 0] 3)).heap.size/\Upd [] (wr.alloc (.cells #[.int .i64 0] 3)) w4)) ->
     Calls Tryz.prog 72 #[.pointer (some ⟨wb,0,none⟩),.slice (some ⟨b4,m,none⟩) 1 (cap4 - m)] w4 fun e w5=>e=.returned (.tuple #[])/\∃ V'',OwnSt 3 1 PI w w5 wb V E bL n (q+1) V'' ao4 b4 cap4 (new++[.slice (some ⟨b4,m,none⟩) 1 (cap4 - m)])):=fun ao4 b4 cap4 w4 h1 h2 h3 h4=>by
    have hmx:=h2.max
    have h5:1<=cap4 - m/\cap4 - m<=maxLen:=⟨by omega,by omega⟩
    have hU:=(Upd.refl [] wr).alloc (.cells #[.int .i64 0] 3)
    rw [hm] at h1 h3 h5 ⊢
    obtain ⟨k1,_,_,_⟩:=HS.out.keep hU h3 h4
    have hmay:=HS.out.may hU h3 h4 h2 h1 h5
    rw [Nat.mul_one] at hmay
    refine (markInts_two w4 wb V' _ _ 1 (cap4 - (n+q)) b4 (n+q) k1 hmay ?_).mono fun e w5 ⟨he,hk⟩=>⟨he,?_⟩
    ·rw [setW_same,List.length_append,HS.out.len]
     omega
    ·have:=HS.out.next localI (by omega) hU h3 h4 h2 h1 h5 (w5:=w5) (by rw [Nat.mul_one]; exact hk)
     rw [Nat.mul_one] at this
     exact this
   clear hm
   go_upto_region 6 with (at_builtin; go_must (refine wpList_append_one _ rfl _ _ 44 rfl Tryz.underlying44 hi hz0 hz1 hz2 rfl rfl rfl Hh3.out hmc Hsrc.out rfl hmb (by decide) ?_); intro ao4 b4 cap4 w4 hle4 hH4 hP4 hb4)
   have ha4:=hH4.addr (by omega)
   have hmx4:=hH4.max
   unfold maxLen at hmx4
   subst ha4
   have HMc:=hide (HMk.out _ b4 cap4 w4 hle4 hH4 hP4 hb4)
   clear HMk Hsrc Hh3 hH4 hP4 hb4
   have hleI:(m:Int)+1<=(cap4:Int):=by omega
   go_wp2_with (go_at_call 72; refine HMc.out.mono ?_; rintro e w5 ⟨rfl,V5,hS5⟩; have HS5:=hide hS5; clear hS5)
   exact ⟨⟨q+1,m+1,V5,_,b4,cap4,_,by omega,by go_num,rfl,by have:=Hm.out; show _=_; omega,HS5.out⟩,by simp [intOf]; omega⟩
  ·obtain rfl:q=4:=by omega
   have hqI:¬ ((4:Nat):Int) < 4:=by omega
   go_wp2
   go_end0
   exact ⟨rfl,V',new,HS.out.owned⟩
def EntF:Nat->World->(Nat->Prop)->Nat->Value->Prop
 | 0=>fun _ _ _ _=>True
 | 1=>Ent 1 PT
 | 2=>Ent 1 PL
 | 3=>Ent 1 PI
 | _=>Ent 3 PR
theorem Ent.keep {s k:Nat} {P:Nat->World->Nat->Nat->Prop} {w w':World} {B B':Nat->Prop} {L:List Nat} {u:Value} (hl:∀ k,LocalP s (P k)) (h:Ent s P w B k u) (hu:Upd L w w') (hL:∀ g,B g->g < w.heap.size->g ∉ L) (hB:∀ g,B g->g < w.heap.size->B' g):Ent s P w' B' k u:=by
 obtain ⟨a,n,cap,g,o,h1,h2,h3,h4⟩:=h
 refine ⟨a,n,cap,g,o,h1,h2,h3,fun h0=>?_⟩
 obtain ⟨e1,e2,e3,e5⟩:=h4 h0
 exact ⟨e1,Nat.lt_of_lt_of_le e2 hu.size,hB g e3 e2,fun i hi=>hl k w w' g _ (fun c _=>hu.cell (p:=⟨g,o+i * s+c,none⟩) e2 (hL g e3 e2)) (e5 i hi)⟩
theorem EntF.keep {w w':World} {B B':Nat->Prop} {L:List Nat} {u:Value} {k:Nat} (hu:Upd L w w') (hL:∀ g,B g->g < w.heap.size->g ∉ L) (hB:∀ g,B g->g < w.heap.size->B' g):∀ {f:Nat},EntF f w B k u->EntF f w' B' k u
 | 0,_=>trivial
 | 1,h=>Ent.keep localT h hu hL hB
 | 2,h=>Ent.keep localL h hu hL hB
 | 3,h=>Ent.keep localI h hu hL hB
 | _+4,h=>Ent.keep localR h hu hL hB
structure Took (w w':World) (wb:Nat) (V V':Nat->Value) (E E':Nat->List Value) (BL:List Nat):Prop where
 wrl:Wrl w' wb V' E'
 pre:∀ f,f < 5->∃ new,E' f=E f++new/\∀ i u,new[i]?=some u->EntF f w' (fun g=>¬ WrlB wb V' g/\(g ∈ BL\/w.heap.size<=g)) ((E f).length+i) u
 moved:∀ f,f < 5->Moved w (V f) (V' f)
 upd:∃ L,(∀ k ∈ L,WrlB wb V k\/k ∈ BL)/\Upd L w w'
theorem Took.refl {w:World} {wb:Nat} {V:Nat->Value} {E:Nat->List Value} (h:Wrl w wb V E):Took w w wb V V E E [] :=
 ⟨h,fun _ _=>⟨[],by simp,fun i u hu=>by simp at hu⟩,fun _ _=>.inl rfl,[],fun _ hk=>(by cases hk),Upd.refl _ _⟩
theorem wrlB_moved {w:World} {wb g:Nat} {V V':Nat->Value} (hm:∀ f,f < 5->Moved w (V f) (V' f)) (hg:g < w.heap.size) (h:¬ WrlB wb V g):¬ WrlB wb V' g:=by
 rintro (e | ⟨f,hf,e⟩)
 ·exact h (.inl e)
 ·rcases hm f hf with e2 | ⟨k,e2,hk⟩
  ·exact h (.inr ⟨f,hf,e2 ▸ e⟩)
  ·rw [e2] at e; cases e; omega
theorem Took.trans {w w1 w2:World} {wb:Nat} {V V1 V2:Nat->Value} {E E1 E2:Nat->List Value} {B1 B2:List Nat} (h:Took w w1 wb V V1 E E1 B1) (k:Took w1 w2 wb V1 V2 E1 E2 B2) (hB:∀ g ∈ B2,g ∉ B1/\g < w.heap.size):Took w w2 wb V V2 E E2 (B1++B2):=by
 obtain ⟨L1,hL1,u1⟩:=h.upd
 obtain ⟨L2,hL2,u2⟩:=k.upd
 have hs1:=u1.size
 refine ⟨k.wrl,fun f hf=>?_,fun f hf=>(h.moved f hf).trans (k.moved f hf) hs1,L1++L2.filter (fun x=>decide (x < w.heap.size)),fun x hx=>?_,?_⟩
 ·obtain ⟨n1,e1,p1⟩:=h.pre f hf
  obtain ⟨n2,e2,p2⟩:=k.pre f hf
  refine ⟨n1++n2,by rw [e2,e1,List.append_assoc],fun i u hu=>?_⟩
  by_cases hi:i < n1.length
  ·rw [List.getElem?_append_left hi] at hu
   refine EntF.keep u2 (fun g hg hgl hm=>?_) (fun g hg hgl=>⟨wrlB_moved k.moved hgl hg.1,?_⟩) (p1 i u hu)
   ·rcases hL2 g hm with e | e
    ·exact hg.1 e
    ·obtain ⟨b1,b2⟩:=hB g e
     rcases hg.2 with e3 | e3
     ·exact b1 e3
     ·omega
   ·rcases hg.2 with e3 | e3
    ·exact .inl (List.mem_append_left _ e3)
    ·exact .inr e3
  ·rw [List.getElem?_append_right (by omega)] at hu
   have hp:=p2 _ u hu
   rw [e1,List.length_append,show (E f).length+n1.length+(i - n1.length)=(E f).length+i by omega] at hp
   refine EntF.keep (Upd.refl [] w2) (fun _ _ _=>by simp) (fun g hg _=>⟨hg.1,?_⟩) hp
   rcases hg.2 with e3 | e3
   ·exact .inl (List.mem_append_right _ e3)
   ·exact .inr (by omega)
 ·rw [List.mem_append,List.mem_filter] at hx
  rcases hx with hx | ⟨hx,hlt⟩
  ·exact (hL1 x hx).imp id (List.mem_append_left _)
  ·have hlt:x < w.heap.size:=by simpa using hlt
   rcases hL2 x hx with e | e
   ·refine .inl (Classical.byContradiction fun hn=>wrlB_moved h.moved hlt hn e)
   ·exact .inr (List.mem_append_right _ e)
 ·refine (u1.mono (fun x hx _=>List.mem_append_left _ hx)).trans' u2 (fun x hx hlt=>List.mem_append_right _ (List.mem_filter.2 ⟨hx,by simpa using hlt⟩))
theorem Owned.took {f s:Nat} {P:Nat->World->Nat->Nat->Prop} {w w':World} {wb:Nat} {V V':Nat->Value} {E:Nat->List Value} {bL:List Nat} {new:List Value} (hf:f < 5) (hF:∀ w B k u,Ent s P w B k u->EntF f w B k u) (h:Owned f s P w w' wb V E bL V' new):Took w w' wb V V' E (setW E f (E f++new)) bL:=by
 refine ⟨h.wrl,fun i hi=>?_,fun i hi=>?_,_,fun k hk=>?_,h.upd⟩
 ·by_cases e:i=f
  ·subst e
   exact ⟨new,setW_same _ _ _,fun j u hu=>hF _ _ _ _ (h.ents j u hu)⟩
  ·exact ⟨[],by rw [setW_other e]; simp,fun j u hu=>by simp at hu⟩
 ·by_cases e:i=f
  ·subst e
   exact h.moved
  ·exact .inl (by rw [h.same i e])
 ·simp only [List.mem_cons,List.mem_append] at hk
  rcases hk with e | e | e
  ·exact .inl (.inl e)
  ·exact .inr e
  ·exact .inl (.inr ⟨f,hf,by simpa using e⟩)
theorem own_took (w:World) (wb:Nat) (V:Nat->Value) (E:Nat->List Value) (v:Value) (n base:Nat) (xs:List Value) (h:Wrl w wb V E) (hr:w.ownsRow base 9 1 v n xs) (ho:∀ k,v.ownBlock=some k->¬ WrlB wb V k) (hnn:n<=100000) (hE:(E 1).length+10<=100000000000) :
  Calls Tryz.prog 35 #[.pointer (some ⟨wb,0,none⟩),v] w fun e w'=>e=.returned (.tuple #[])/\∃ V' new,new.length=5/\Took w w' wb V V' E (setW E 1 (E 1++new)) v.ownBlock.toList:=by
 obtain ⟨ao,b,cap,rfl,hn,hH,hb⟩:=Hall.of_row hr
 exact (own_any w wb V E (Value.slice ao n cap).ownBlock.toList ao n cap b h hH hn (fun h0=>⟨ho b (hb h0),by rw [hb h0]; simp⟩) hnn hE).mono fun e w' ⟨he,V',new,hO⟩=>⟨he,V',new,hO.len,hO.took (by omega) (fun _ _ _ _ h=>h)⟩
theorem ownInts_took (w:World) (wb:Nat) (V:Nat->Value) (E:Nat->List Value) (v:Value) (n base:Nat) (xs:List Value) (h:Wrl w wb V E) (hr:w.ownsRow base 3 1 v n xs) (ho:∀ k,v.ownBlock=some k->¬ WrlB wb V k) (hnn:n<=100000) (hE:(E 3).length+10<=100000000000) :
  Calls Tryz.prog 37 #[.pointer (some ⟨wb,0,none⟩),v] w fun e w'=>e=.returned (.tuple #[])/\∃ V' new,new.length=5/\Took w w' wb V V' E (setW E 3 (E 3++new)) v.ownBlock.toList:=by
 obtain ⟨ao,b,cap,rfl,hn,hH,hb⟩:=Hall.of_row hr
 exact (ownInts_any w wb V E (Value.slice ao n cap).ownBlock.toList ao n cap b h hH hn (fun h0=>⟨ho b (hb h0),by rw [hb h0]; simp⟩) hnn hE).mono fun e w' ⟨he,V',new,hO⟩=>⟨he,V',new,hO.len,hO.took (by omega) (fun _ _ _ _ h=>h)⟩
def blocksTo (rs:List Value) (p:Nat):List Nat:=(rs.take p).flatMap fun r=>r.ownBlock.toList
theorem blocksTo_succ {rs:List Value} {p:Nat} {r:Value} (h:rs[p]?=some r):blocksTo rs (p+1)=blocksTo rs p++r.ownBlock.toList:=by
 unfold blocksTo
 rw [List.take_add_one,h,List.flatMap_append]
 simp
theorem blocksTo_mem {rs:List Value} {p g:Nat} (h:g ∈ blocksTo rs p):∃ i r,i < p/\rs[i]?=some r/\r.ownBlock=some g:=by
 unfold blocksTo at h
 obtain ⟨r,hr,hg⟩:=List.mem_flatMap.1 h
 obtain ⟨i,hi⟩:=List.getElem?_of_mem hr
 have hl:=(List.getElem?_eq_some_iff.1 hi).1
 rw [List.length_take] at hl
 rw [List.getElem?_take_of_lt (by omega)] at hi
 exact ⟨i,r,by omega,hi,by simpa using hg⟩
def TookAll (w w':World) (wb:Nat) (V:Nat->Value) (E:Nat->List Value) (base:Nat):Prop :=
 ∃ V' E' BL,Took w w' wb V V' E E' BL/\(∀ g ∈ BL,base<=g/\g < w.heap.size)/\(∀ f,f < 5->(E' f).length<=(E f).length+6000)/\E' 0=E 0
theorem ownLists_any (w:World) (wb:Nat) (V:Nat->Value) (E:Nat->List Value) (base:Nat) (v:Value) (rs:List Value) (ls:List (List ByteArray)) (h:Wrl w wb V E) (hb:∀ k,WrlB wb V k->k < base) (hL:ListsAt w base v rs ls) (hln:ls.length<=1000) (hll:∀ l ∈ ls,l.length<=1000) (hE:∀ f,f < 5->(E f).length+10000<=100000000000) :
  Calls Tryz.prog 33 #[.pointer (some ⟨wb,0,none⟩),v] w fun e w'=>e=.returned (.tuple #[])/\TookAll w w' wb V E base:=by
 obtain ⟨i0,hi,hz0,hz1,hz2⟩:=info_parts info_strs
 obtain ⟨n,hn⟩:∃ n,ls.length=n:=⟨_,rfl⟩
 have hrow:=hL.row
 rw [hn] at hrow hln
 have hrl:rs.length=n:=by rw [hL.len,hn]
 obtain ⟨ao,b,cap,hv,hnc,hH,hbo⟩:=Hall.of_row hrow
 have hge:∀ r k,r ∈ rs->r.ownBlock=some k->base<=k/\k < w.heap.size:=fun r k hr hk=>by
  obtain ⟨i,hi⟩:=List.getElem?_of_mem hr
  obtain ⟨l,_,hs⟩:=hL.inner hi
  exact ⟨own_ge hs hk,ownsRow_lt hs hk⟩
 have hvge:∀ k,v.ownBlock=some k->base<=k/\k < w.heap.size:=fun k hk=>⟨own_ge hrow hk,ownsRow_lt hrow hk⟩
 have hBge:∀ p,∀ g ∈ blocksTo rs p,base<=g/\g < w.heap.size:=fun p g hg=>by
  obtain ⟨i,r,_,hi,hr⟩:=blocksTo_mem hg
  exact hge r g (List.mem_of_getElem? hi) hr
 have hnotW:∀ k,base<=k->¬ WrlB wb V k:=fun k hk hw=>by have:=hb k hw; omega
 have hvB:∀ p k,v.ownBlock=some k->k ∉ blocksTo rs p:=fun p k hk hm=>by
  obtain ⟨i,r,_,hi,hr⟩:=blocksTo_mem hm
  exact hL.out i r hi k hr hk
 -- the row of lists,and a list of it,while the first p are taken
 have HAt:Hid (∀ p r wr V' E',rs[p]?=some r->Took w wr wb V V' E E' (blocksTo rs p)->wr.ownsRow base 50 1 v n rs/\(∃ l ∈ ls,StrRow wr base r l)/\∀ k,r.ownBlock=some k->¬ WrlB wb V' k):=fun p r wr V' E' hr hT=>by
  obtain ⟨L,hLm,hu⟩:=hT.upd
  obtain ⟨l,hl,hs⟩:=hL.inner hr
  refine ⟨hu.ownsRow hrow (fun k hk hm=>?_),⟨l,List.mem_of_getElem? hl,hu.ownsRow hs (fun k hk hm=>?_)⟩,fun k hk=>wrlB_moved hT.moved (hge r k (List.mem_of_getElem? hr) hk).2 (hnotW k (hge r k (List.mem_of_getElem? hr) hk).1)⟩
  ·rcases hLm k hm with e | e
   ·exact hnotW k (hvge k hk).1 e
   ·exact hvB p k hk e
  ·rcases hLm k hm with e | e
   ·exact hnotW k (hge r k (List.mem_of_getElem? hr) hk).1 e
   ·obtain ⟨i,r',hip,hi',hr'⟩:=blocksTo_mem e
    exact hL.sep i p r' r hi' hr (by omega) k hr' hk
 have HAll:Hid (∀ wr V' E',Took w wr wb V V' E E' (blocksTo rs n)->wr.ownsRow base 50 1 v n rs/\∀ k,v.ownBlock=some k->¬ WrlB wb V' k):=fun wr V' E' hT=>by
  obtain ⟨L,hLm,hu⟩:=hT.upd
  refine ⟨hu.ownsRow hrow (fun k hk hm=>?_),fun k hk=>wrlB_moved hT.moved (hvge k hk).2 (hnotW k (hvge k hk).1)⟩
  rcases hLm k hm with e | e
  ·exact hnotW k (hvge k hk).1 e
  ·exact hvB n k hk e
 have HOwn:Hid (∀ p r wr V' E',rs[p]?=some r->Took w wr wb V V' E E' (blocksTo rs p)->(E' 1).length=(E 1).length+5 * p->(∀ f,f ≠ 1->E' f=E f)->Calls Tryz.prog 35 #[.pointer (some ⟨wb,0,none⟩),r] wr fun e w2=>e=.returned (.tuple #[])/\∃ V'' E'',Took w w2 wb V V'' E E'' (blocksTo rs (p+1))/\(E'' 1).length=(E 1).length+5 * (p+1)/\∀ f,f ≠ 1->E'' f=E f):=fun p r wr V' E' hr hT h1 h2=>by
  have hpn:=(List.getElem?_eq_some_iff.1 hr).1
  obtain ⟨_,⟨l,hl,hs⟩,hno⟩:=HAt.out p r wr V' E' hr hT
  have hll':=hll l hl
  have hE1:=hE 1 (by omega)
  refine (own_took wr wb V' E' r l.length base _ hT.wrl hs hno (by omega) (by omega)).mono fun e w2 ⟨he,V'',new,hnl,hT2⟩=>⟨he,V'',setW E' 1 (E' 1++new),?_,?_,fun f hf=>by rw [setW_other hf]; exact h2 f hf⟩
  ·rw [blocksTo_succ hr]
   refine hT.trans hT2 (fun g hg=>?_)
   have hg':r.ownBlock=some g:=by simpa using hg
   refine ⟨fun hm=>?_,(hge r g (List.mem_of_getElem? hr) hg').2⟩
   obtain ⟨i,r',hip,hi',hr'⟩:=blocksTo_mem hm
   exact hL.sep i p r' r hi' hr (by omega) g hr' hg'
  ·rw [setW_same,List.length_append,h1,hnl]
   omega
 have Hh:=hide h
 have HE:=hide hE
 have hBv:∀ g ∈ v.ownBlock.toList,g ∉ blocksTo rs n/\g < w.heap.size:=fun g hg=>by
  have hg':v.ownBlock=some g:=by simpa using hg
  exact ⟨hvB n g hg',(hvge g hg').2⟩
 have HFin:Hid (∀ (W0:World) (V0:Nat->Value) (E0:Nat->List Value),Took w W0 wb V V0 E E0 (blocksTo rs n)->(E0 1).length=(E 1).length+5 * n->(∀ f,f ≠ 1->E0 f=E f)->∀ (w':World) (V':Nat->Value) (new:List Value),Owned 2 1 PL W0 w' wb V0 E0 v.ownBlock.toList V' new->TookAll w w' wb V E base):=fun W0 V0 E0 hT h1 h2 w' V' new hO=>by
  refine ⟨V',_,_,hT.trans (Owned.took (f:=2) (s:=1) (P:=PL) (by omega) (fun _ _ _ _ h=>h) hO) hBv,fun g hg=>?_,fun f hf=>?_,?_⟩
  ·rw [List.mem_append] at hg
   rcases hg with hg | hg
   ·exact hBge n g hg
   ·exact hvge g (by simpa using hg)
  ·by_cases e:f=2
   ·subst e
    rw [setW_same,List.length_append,hO.len,h2 2 (by omega)]
    omega
   ·rw [setW_other e]
    by_cases e1:f=1
    ·subst e1
     rw [h1]
     omega
    ·rw [h2 f e1]
     omega
  ·rw [setW_other (by omega)]
   exact h2 0 (by omega)
 subst hv
 have hcm:=hH.max
 unfold maxLen at hcm
 have Hrl:=hide hrl
 clear h hE hL hll hb hge hvge hBge hnotW hvB hBv hH hbo hrow hn hrl
 go_enter Tryz.func33,Tryz.ntmps33
 go_wp2_with fail
 go_loopw [4] (fun iv wr=>∃ (p:Nat) (V':Nat->Value) (E':Nat->List Value),p<=n/\iv=.int .i64 p/\Hid (Took w wr wb V V' E E' (blocksTo rs p))/\Hid ((E' 1).length=(E 1).length+5 * p/\∀ f,f ≠ 1->E' f=E f)) (fun iv _=>n - (intOf iv).toNat)
 case atStart=>exact ⟨0,V,E,Nat.zero_le _,rfl,Took.refl Hh.out,rfl,fun _ _=>rfl⟩
 case round =>
  obtain ⟨p,V0,E0,hp,rfl,HT,HL⟩:=hrel
  by_cases hpn:p < n
  ·have hpI:(p:Int) < (n:Int):=by omega
   obtain ⟨r,hr⟩:∃ r,rs[p]?=some r:=⟨_,List.getElem?_eq_getElem (by rw [Hrl.out]; exact hpn)⟩
   obtain ⟨q1,_,_⟩:=HAt.out p r wr V0 E0 hr HT.out
   have hao:∃ gv,ao=some ⟨gv,0,none⟩/\wr.cell? ⟨gv,p,none⟩=some r:=by
    rcases ownsRow_slice q1 with ⟨e,e0⟩ | ⟨gv,c',e,_,_⟩
    ·omega
    ·cases e
     exact ⟨gv,rfl,by rw [q1.cellAt p (by omega),hr]⟩
   obtain ⟨gv,rfl,c1⟩:=hao
   have HO:=hide (HOwn.out p r wr V0 E0 hr HT.out HL.out.1 HL.out.2)
   clear q1 hr
   go_wp2_with (go_at_call 35; refine HO.out.mono ?_; rintro e w2 ⟨rfl,V2,E2,hT2,hl1,hl2⟩; have HT2:=hide hT2; have HL1:=hide hl1; have HL2:=hide hl2; clear hT2 hl1 hl2)
   exact ⟨⟨p+1,V2,E2,by omega,by go_num,HT2.out,HL1.out,HL2.out⟩,by simp [intOf]; omega⟩
  ·have hpI:¬ (p:Int) < (n:Int):=by omega
   obtain rfl:p=n:=by omega
   obtain ⟨W0,hW0⟩:∃ W0,W0=wr:=⟨_,rfl⟩
   subst hW0
   obtain ⟨q1,q2⟩:=HAll.out W0 V0 E0 HT.out
   obtain ⟨ao2,b,cap2,e2,hnc2,hH,hbo⟩:=Hall.of_row q1
   cases e2
   have hE0:(E0 2).length+10<=100000000000:=by
    rw [HL.out.2 2 (by omega)]
    have:=HE.out 2 (by omega)
    omega
   have HFin0:=hide (HFin.out W0 V0 E0 HT.out HL.out.1 HL.out.2)
   have HM:=hide (markLists_any W0 wb V0 E0 ao p cap b 0 HT.out.wrl (hH.may hnc2 (fun h0=>q2 b (hbo h0))) (by omega))
   have HSt:Hid (∀ w1,Marked2 W0 w1 wb 2 V0 E0 (.slice ao p cap) b 0 p 1 (PL (E0 2).length)->∃ V',OwnSt 2 1 PL W0 w1 wb V0 E0 (Value.slice ao p cap).ownBlock.toList p 0 V' ao b cap [.slice ao p cap]):=fun w1 hm=>OwnSt.start localL (by omega) hH hnc2 (fun h0=>⟨q2 b (hbo h0),by rw [hbo h0]; simp⟩) hm
   obtain ⟨bL,hbL⟩:∃ bL,(Value.slice ao p cap).ownBlock.toList=bL:=⟨_,rfl⟩
   rw [hbL] at HSt HFin0
   clear hbL q1 q2 hH hbo HT HL HFin HOwn HAt HAll HE Hh
   go_upto_region 5 with (go_at_call 67; refine HM.out.mono ?_; rintro e w1 ⟨rfl,hk1⟩; obtain ⟨V1,hS1⟩:=HSt.out w1 hk1; have HS1:=hide hS1; clear hk1 hS1)
   clear HM HSt
   go_wp2_with fail
   go_loopw [1,5] (fun lv kv wr=>∃ (q m:Nat) (V':Nat->Value) (ao':Option Addr) (b' cap':Nat) (new:List Value),q<=4/\kv=.int .i64 q/\lv=.slice ao' m cap'/\Hid (m=p+q)/\Hid (OwnSt 2 1 PL W0 wr wb V0 E0 bL p q V' ao' b' cap' new)) (fun _ kv _=>4 - (intOf kv).toNat)
   case atStart=>exact ⟨0,p,V1,ao,b,cap,_,by omega,rfl,rfl,rfl,HS1.out⟩
   case round =>
    obtain ⟨q,m,V',ao',b',cap',new,hq,rfl,rfl,Hm,HS⟩:=hrel
    by_cases hq4:q < 4
    ·have hqI:(q:Int) < 4:=by omega
     have hm:=Hm.out
     have hmc:m<=cap':=by have:=HS.out.le; omega
     have hmb:m<=1000000:=by omega
     have hcm:=HS.out.hall.max
     unfold maxLen at hcm
     have Hh3:=hide (HS.out.hall.later ((Upd.refl [] wr).alloc (.cells #[.slice none 0 0] 50)) (fun _=>by simp))
     have Hsrc:=hide (src_one (w:=wr) Tryz.underlying33 (.slice none 0 0) rfl 50)
     have HMk:Hid (∀ (ao4:Option Addr) (b4 cap4:Nat) (w4:World),m+1<=cap4->Hall w4 1 ao4 b4 cap4->Painted (wr.alloc (.cells #[.slice none 0 0] 50)) w4 b' (m * 1) 1 1 (fun _ _ _=>True)->((b4=b'/\0 < cap')\/(b4=(wr.alloc (.cells #[.slice none 0 0] 50)).heap.size/\Upd [] (wr.alloc (.cells #[.slice none 0 0] 50)) w4)) ->
       Calls Tryz.prog 67 #[.pointer (some ⟨wb,0,none⟩),.slice (some ⟨b4,m,none⟩) 1 (cap4 - m)] w4 fun e w5=>e=.returned (.tuple #[])/\∃ V'',OwnSt 2 1 PL W0 w5 wb V0 E0 bL p (q+1) V'' ao4 b4 cap4 (new++[.slice (some ⟨b4,m,none⟩) 1 (cap4 - m)])):=fun ao4 b4 cap4 w4 h1 h2 h3 h4=>by
      have hmx:=h2.max
      have h5:1<=cap4 - m/\cap4 - m<=maxLen:=⟨by omega,by omega⟩
      have hU:=(Upd.refl [] wr).alloc (.cells #[.slice none 0 0] 50)
      rw [hm] at h1 h3 h5 ⊢
      obtain ⟨k1,_,_,_⟩:=HS.out.keep hU h3 h4
      have hmay:=HS.out.may hU h3 h4 h2 h1 h5
      rw [Nat.mul_one] at hmay
      refine (markLists_any w4 wb V' _ _ 1 (cap4 - (p+q)) b4 (p+q) k1 hmay ?_).mono fun e w5 ⟨he,hk⟩=>⟨he,?_⟩
      ·rw [setW_same,List.length_append,HS.out.len]
       omega
      ·have:=HS.out.next localL (by omega) hU h3 h4 h2 h1 h5 (w5:=w5) (by rw [Nat.mul_one]; exact hk)
       rw [Nat.mul_one] at this
       exact this
     clear hm
     go_upto_region 10 with (at_builtin; go_must (refine wpList_append_one _ rfl _ _ 33 rfl Tryz.underlying33 hi hz0 hz1 hz2 rfl rfl rfl Hh3.out hmc Hsrc.out rfl hmb (by decide) ?_); intro ao4 b4 cap4 w4 hle4 hH4 hP4 hb4)
     have ha4:=hH4.addr (by omega)
     have hmx4:=hH4.max
     unfold maxLen at hmx4
     subst ha4
     have HMc:=hide (HMk.out _ b4 cap4 w4 hle4 hH4 hP4 hb4)
     clear HMk Hsrc Hh3 hH4 hP4 hb4
     have hleI:(m:Int)+1<=(cap4:Int):=by omega
     go_wp2_with (go_at_call 67; refine HMc.out.mono ?_; rintro e w5 ⟨rfl,V5,hS5⟩; have HS5:=hide hS5; clear hS5)
     exact ⟨⟨q+1,m+1,V5,_,b4,cap4,_,by omega,by go_num,rfl,by have:=Hm.out; show _=_; omega,HS5.out⟩,by simp [intOf]; omega⟩
    ·obtain rfl:q=4:=by omega
     have hqI:¬ ((4:Nat):Int) < 4:=by omega
     go_wp2
     go_end0
     exact ⟨rfl,HFin0.out wr V' new HS.out.owned⟩
end Go.Proofs.YtmfkpllnmmfpiaaGreatDoor
