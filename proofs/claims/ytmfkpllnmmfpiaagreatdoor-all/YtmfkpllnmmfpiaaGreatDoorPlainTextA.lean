/- WebTerm, WhyLaw, SentLaw, SortLay, PlainText -/
import Derived.Test.YtmfkpllnmmfpiaaGreatDoorPlainA
import Derived.Test.YtmfkpllnmmfpiaaGreatDoorWebHeapA
import Derived.Test.YtmfkpllnmmfpiaaGreatDoorSay2A
import Derived.Test.YtmfkpllnmmfpiaaGreatDoorRefLawA
import Derived.Shelf.SlSortCmp.WholeK
import Derived.Ground.SlsfProg
import Derived.Test.YtmfkpllnmmfpiaaGreatDoorProg
import Derived.Test.YtmfkpllnmmfpiaaGreatDoorRangeA
import Derived.Laws.BytesArg
set_option maxHeartbeats 16000000
set_option maxRecDepth 100000
namespace Go.Proofs.YtmfkpllnmmfpiaaGreatDoor
open Go.RowKit Go.Shelf
def partsL (s:Sh):List Nat:=(List.range s.2.1).map (partAt s)
def termTm (S:WS):(f:Nat)->Nat->Tm (f+2)
 | 0,i=>Tm.mk (shapeAt S i).1 0 ((partsL (shapeAt S i)).map fun _=>(Tm.mk ⟨#[]⟩ 0 []:Tm 1))
 | f+1,i=>Tm.mk (shapeAt S i).1 0 ((partsL (shapeAt S i)).map (termTm S f))
theorem info_readTerm:(Tryz.prog.info? 98).map (fun i=>(i.zero,i.size,i.bytes))=some (some (.agg #[.string ⟨#[]⟩,.int .i64 0,.slice none 0 0]),3,48):=by kernel_rfl
def PartTerm (wb:Nat) (n:Nat) (g:Nat->Tm n) (w0:World) (k:Nat):Prop :=
 ∀ w:World,Upd [] w0 w->Calls Tryz.prog 130 #[.pointer (some ⟨wb,0,none⟩),.int .i64 k] w fun e w'=>∃ (a:ByteArray) (p:Int) (gq:Option Addr) (l cc:Nat),e=.returned (.agg #[.string a,.int .i64 p,.slice gq l cc])/\Upd [] w w'/\IsTm w' (fun j=>w.heap.size<=j) n (.string a,.int .i64 p,.slice gq l cc) (g k)
theorem own_geT {w:World} {base e size n k:Nat} {v:Value} {xs:List Value} (h:w.ownsRow base e size v n xs) (hk:v.ownBlock=some k):base<=k:=by
 rcases h.2 with ⟨hv,_⟩ | ⟨g,cap,cur,hv,hg,_⟩
 ·rw [hv] at hk; simp [Value.ownBlock] at hk
 ·rw [hv] at hk
  simp only [own_slice,Option.some.injEq] at hk
  subst hk
  exact hg
theorem own_base0 {w:World} {base e size n:Nat} {v:Value} {xs:List Value} (h:w.ownsRow base e size v n xs):w.ownsRow 0 e size v n xs:=ownsRow_base h fun _ _=>Nat.zero_le _
structure Terming (w wr:World) (s:Sh) (n:Nat) (g:Nat->Tm n) (v:Value) (j:Nat):Prop where
 box:BoxSh wr (w.heap.size+1) s
 r0:∀ o,o < 3->∃ u,wr.cell? ⟨w.heap.size,o,none⟩=some u
 rf:∀ o,wr.frozen? ⟨w.heap.size,o,none⟩=false
 t0:wr.cell? ⟨w.heap.size+2,0,none⟩=some (.string s.1)
 t1:wr.cell? ⟨w.heap.size+2,1,none⟩=some (.int .i64 0)
 t2:wr.cell? ⟨w.heap.size+2,2,none⟩=some v
 tf:∀ o,wr.frozen? ⟨w.heap.size+2,o,none⟩=false
 row:∃ cs:List V3,wr.ownsRow (w.heap.size+3) 98 3 v j (flat3 cs)/\AllIs (IsTm wr (fun k=>w.heap.size+3<=k/\v.ownBlock ≠ some k) n) cs (((partsL s).take j).map g)
 upd:Upd [] w wr
 size:w.heap.size+3<=wr.heap.size
theorem Terming.next {w wr w2 w3:World} {s:Sh} {n j g' cap:Nat} {g:Nat->Tm n} {v:Value} {cs:List V3} {c:V3} {X:Obj} {k:Nat} (h:Terming w wr s n g v j) (hk:(partsL s)[j]?=some k) (hrow:wr.ownsRow (w.heap.size+3) 98 3 v j (flat3 cs)) (hall:AllIs (IsTm wr (fun k=>w.heap.size+3<=k/\v.ownBlock ≠ some k) n) cs (((partsL s).take j).map g))
  (hu2:Upd [] wr w2) (hc:IsTm w2 (fun k=>wr.heap.size<=k) n c (g k))
  (hown:w3.ownsRow (w.heap.size+3) 98 3 (.slice (some ⟨g',0,none⟩) (j+1) cap) (j+1) (flat3 cs++[c.1,c.2.1,c.2.2])) (hgrow:(w2.alloc X).grownBy w3 v.ownBlock) (hat:v.ownBlock=some g'\/g'=(w2.alloc X).heap.size) :
  Terming w (w3.setCell ⟨w.heap.size+2,2,none⟩ (.slice (some ⟨g',0,none⟩) (j+1) cap)) s n g (.slice (some ⟨g',0,none⟩) (j+1) cap) (j+1):=by
 have hsz:=h.size
 have hge:∀ q,v.ownBlock=some q->w.heap.size+3<=q/\q < wr.heap.size:=fun q hq=>⟨by
  rcases hrow.2 with ⟨hv,_⟩ | ⟨g,cap,cur,hv,hg,_⟩
  ·rw [hv] at hq; simp [Value.ownBlock] at hq
  ·rw [hv] at hq; cases hq; exact hg,ownsRow_lt hrow hq⟩
 have U1:Upd v.ownBlock.toList w2 w3:=((Upd.refl v.ownBlock.toList w2).alloc X).trans (Upd.of_grown hgrow)
 have U:Upd v.ownBlock.toList wr w3:=(hu2.mono (fun x hx _=>by cases hx)).trans U1
 have no:∀ q,q < w.heap.size+3->q ∉ v.ownBlock.toList:=fun q hq hm=>by
  have:=hge q (by simpa using hm)
  omega
 have hg3:w.heap.size+3<=g':=by
  rcases hown.2 with ⟨hv,_⟩ | ⟨g,cap,cur,hv,hg,_⟩
  ·cases hv
  ·cases hv; exact hg
 have US:Upd [w.heap.size+2] w3 (w3.setCell ⟨w.heap.size+2,2,none⟩ (.slice (some ⟨g',0,none⟩) (j+1) cap)):=(Upd.refl _ w3).setCell (by simp) _
 have h3l:w.heap.size+2 < w3.heap.size:=by have:=U.size; omega
 have a0:=(U.cell (p:=⟨w.heap.size+2,0,none⟩) (by show w.heap.size+2 < _; omega) (no (w.heap.size+2) (by omega))).trans h.t0
 have a1:=(U.cell (p:=⟨w.heap.size+2,1,none⟩) (by show w.heap.size+2 < _; omega) (no (w.heap.size+2) (by omega))).trans h.t1
 have a2:=(U.cell (p:=⟨w.heap.size+2,2,none⟩) (by show w.heap.size+2 < _; omega) (no (w.heap.size+2) (by omega))).trans h.t2
 refine ⟨(h.box.later U (no _ (by omega))).later US (by simp),fun o ho=>?_,fun o=>?_,by go_simp,by go_simp,by go_simp,fun o=>?_,⟨cs++[c],?_,?_⟩,?_,?_⟩
 ·obtain ⟨u,hu⟩:=h.r0 o ho
  exact ⟨u,((US.cell (p:=⟨w.heap.size,o,none⟩) (by show w.heap.size < _; omega) (by simp)).trans ((U.cell (p:=⟨w.heap.size,o,none⟩) (by show w.heap.size < _; omega) (no w.heap.size (by omega))).trans hu))⟩
 ·exact (US.frozen (p:=⟨w.heap.size,o,none⟩) (by show w.heap.size < _; omega) (by simp)).trans ((U.frozen (p:=⟨w.heap.size,o,none⟩) (by show w.heap.size < _; omega) (no w.heap.size (by omega))).trans (h.rf o))
 ·rw [World.frozen?_setCell]
  exact (U.frozen (p:=⟨w.heap.size+2,o,none⟩) (by show w.heap.size+2 < _; omega) (no (w.heap.size+2) (by omega))).trans (h.tf o)
 ·rw [flat3_append]
  exact US.ownsRow hown (fun q hq hm=>by simp only [own_slice,Option.some.injEq] at hq; simp only [List.mem_singleton] at hm; omega)
 ·have hlt:=(List.getElem?_eq_some_iff.1 hk).1
  rw [List.getElem?_eq_getElem hlt] at hk
  rw [List.take_succ_eq_append_getElem hlt,Option.some.inj hk,List.map_append]
  have hz2:=hu2.size
  have hfr:∀ q,(w.heap.size+3<=q/\v.ownBlock ≠ some q)/\q < wr.heap.size->w.heap.size+3<=q/\(Value.slice (some ⟨g',0,none⟩) (j+1) cap).ownBlock ≠ some q:=fun q hq=>⟨hq.1.1,fun e=>by
   simp only [own_slice,Option.some.injEq] at e
   subst e
   rcases hat with hat | hat
   ·exact hq.1.2 hat
   ·simp at hat; omega⟩
  refine AllIs.snoc ?_ ?_
  ·have h1:IsTm w2 (fun k=>wr.heap.size<=k/\k < w2.heap.size) n c (g k):=hc.mono fun q hq hl=>⟨hq,hl⟩
   have h2:=h1.later U1 (fun q hq hm=>by have:=hge q (by simpa using hm); omega)
   refine (h2.later US (fun q hq hm=>by simp only [List.mem_singleton] at hm; omega)).mono (fun q hq _=>⟨by omega,fun e=>?_⟩)
   simp only [own_slice,Option.some.injEq] at e
   subst e
   rcases hat with hat | hat
   ·have:=hge _ hat; omega
   ·simp at hat; omega
  ·refine hall.mono fun a b hab=>?_
   have h1:IsTm wr (fun k=>(w.heap.size+3<=k/\v.ownBlock ≠ some k)/\k < wr.heap.size) n a b:=hab.mono fun q hq hl=>⟨hq,hl⟩
   have h2:=h1.later U (fun q hq hm=>hq.1.2 (by simpa using hm))
   exact (h2.later US (fun q hq hm=>by simp only [List.mem_singleton] at hm; omega)).mono (fun q hq _=>hfr q hq)
 ·refine (h.upd.trans' U (fun x hx hl=>?_)).setCell (.inr (by show w.heap.size<=w.heap.size+2; omega)) _
  have:=hge x (by simpa using hx)
  omega
 ·have:=U.size
  simp [World.setCell]
  omega
theorem partsL_get {s:Sh} {q:Nat} (h:q < s.2.1):(partsL s)[q]?=some (partAt s q):=by
 unfold partsL
 rw [List.getElem?_map,List.getElem?_range h]
 rfl
theorem partsL_length (s:Sh):(partsL s).length=s.2.1:=by simp [partsL]
theorem term_step (w:World) (wb:Nat) (H:Hd) (Z:Nat->Prop) (S:WS) (i n:Nat) (g:Nat->Tm n) (h:WebAt w wb H Z S) (hB:Base S) (hi:i < S.shapes.length) (hT:∀ k,k < i->PartTerm wb n g w k) :
  Calls Tryz.prog 130 #[.pointer (some ⟨wb,0,none⟩),.int .i64 i] w fun e w'=>∃ (a:ByteArray) (p:Int) (gq:Option Addr) (l cc:Nat),e=.returned (.agg #[.string a,.int .i64 p,.slice gq l cc])/\Upd [] w w'/\IsTm w' (fun j=>w.heap.size<=j) (n+1) (.string a,.int .i64 p,.slice gq l cc) (Tm.mk (shapeAt S i).1 0 ((partsL (shapeAt S i)).map g)):=by
 obtain ⟨i0,hi0,hz0,hz1,hz2⟩:=info_parts info_readTerm
 have hsh:=shapeAt_some hi
 have hg:=hB.good i _ hsh
 obtain ⟨gs,cap,hd,hcap,hmax⟩:∃ g cap,H.shapes=.slice (some ⟨g,0,none⟩) S.shapes.length cap/\S.shapes.length<=cap/\cap<=maxLen:=by
  rcases ownsRow_slice h.rs with ⟨_,h0⟩ | hh
  ·omega
  ·exact hh
 have c1:=h.c1
 rw [hd] at c1
 have hrs:=h.rs
 rw [hd] at hrs
 obtain ⟨k0,k1,k2,k3,k4⟩:=row5_cells hrs hsh
 have hgl:gs < w.heap.size:=ownsRow_lt hrs rfl
 have UR:=(Upd.refl [] w).alloc (.cells #[.string ⟨#[]⟩,.int .i64 0,.slice none 0 0] 98)
 have c1':=(UR.cell (p:=⟨wb,2,none⟩) h.lt (by simp)).trans c1
 have k0':=(UR.cell (p:=⟨gs,i * 5,none⟩) hgl (by simp)).trans k0
 have k1':=(UR.cell (p:=⟨gs,i * 5+1,none⟩) hgl (by simp)).trans k1
 have k2':=(UR.cell (p:=⟨gs,i * 5+2,none⟩) hgl (by simp)).trans k2
 have k3':=(UR.cell (p:=⟨gs,i * 5+3,none⟩) hgl (by simp)).trans k3
 have k4':=(UR.cell (p:=⟨gs,i * 5+4,none⟩) hgl (by simp)).trans k4
 have hi':(i:Int) < (S.shapes.length:Int):=by omega
 have hcnt:=hg.count
 have hc3:((shapeAt S i).2.1:Int)<=3:=by omega
 have HT:=hide hT
 have Hg:=hide hg
 clear hsh hrs hd h hB hg hT k0 k1 k2 k3 k4 c1 UR
 generalize shapeAt S i=s at *
 have hstart:Terming w (((w.alloc (.cells #[.string ⟨#[]⟩,.int .i64 0,.slice none 0 0] 98)).alloc (.cells #[.string s.1,.int .i64 s.2.1,.int .i64 s.2.2.1,.int .i64 s.2.2.2.1,.int .i64 s.2.2.2.2] 141)).alloc (.cells #[.string s.1,.int .i64 0,.slice none 0 0] 98)) s n g (.slice none 0 0) 0:=by
  have U3:=(((Upd.refl [] w).alloc (.cells #[.string ⟨#[]⟩,.int .i64 0,.slice none 0 0] 98)).alloc (.cells #[.string s.1,.int .i64 s.2.1,.int .i64 s.2.2.1,.int .i64 s.2.2.2.1,.int .i64 s.2.2.2.2] 141)).alloc (.cells #[.string s.1,.int .i64 0,.slice none 0 0] 98)
  refine ⟨⟨by simp,by go_simp,by go_simp,by go_simp,by go_simp,by go_simp⟩,fun o ho=>?_,fun o=>by go_simp,by go_simp,by go_simp,by go_simp,fun o=>by go_simp,⟨[],World.ownsRow_nil _ _ _ _,trivial⟩,U3,by simp⟩
  match o,ho with
  | 0,_=>exact ⟨.string ⟨#[]⟩,by go_simp⟩
  | 1,_=>exact ⟨.int .i64 0,by go_simp⟩
  | 2,_=>exact ⟨.slice none 0 0,by go_simp⟩
  | o+3,ho=>omega
 go_enter Tryz.func130,Tryz.ntmps130
 go_wp2
 generalize ((w.alloc (.cells #[.string ⟨#[]⟩,.int .i64 0,.slice none 0 0] 98)).alloc (.cells #[.string s.1,.int .i64 s.2.1,.int .i64 s.2.2.1,.int .i64 s.2.2.2.1,.int .i64 s.2.2.2.2] 141)).alloc (.cells #[.string s.1,.int .i64 0,.slice none 0 0] 98)=W1 at hstart ⊢
 go_loopw [24] (fun ix wr=>∃ q:Nat,q<=s.2.1/\ix=.int .i64 q/\Hid (∃ v,Terming w wr s n g v q)) (fun ix _=>s.2.1 - (intOf ix).toNat)
 case atStart=>exact ⟨0,Nat.zero_le _,rfl,_,hstart⟩
 case round =>
  obtain ⟨q,hq,rfl,HQ⟩:=hrel
  clear hstart c1' k0' k1' k2' k3' k4'
  obtain ⟨v,ht⟩:=HQ.out
  clear HQ
  obtain ⟨cs,hrow,hall⟩:=ht.row
  obtain ⟨gv,capv,hv⟩:=slice_len hrow
  by_cases hqc:q < s.2.1
  ·have hqc':(q:Int) < (s.2.1:Int):=by omega
   have hcq:=ht.box.part q (by omega)
   have hpq:=Hg.out.part q hqc
   have HC:=hide (HT.out _ hpq)
   have Hk:=hide (partsL_get hqc)
   generalize partAt s q=pq at *
   have t2:=ht.t2
   have tf:=ht.tf
   have hsz:=ht.size
   subst hv
   have HK:Hid (∀ w2,Upd [] wr.drew w2->∀ X:Obj,w2.cell? ⟨w.heap.size+2,2,none⟩=some (.slice gv q capv)/\(w2.alloc X).cell? ⟨w.heap.size+2,2,none⟩=some (.slice gv q capv)/\(w2.alloc X).ownsRow (w.heap.size+3) 98 3 (.slice gv q capv) q (flat3 cs)/\w.heap.size+3<=(w2.alloc X).heap.size/\(∀ w3,(w2.alloc X).grownBy w3 (Value.slice gv q capv).ownBlock->w3.cell? ⟨w.heap.size+2,2,none⟩=some (.slice gv q capv)/\∀ o,w3.frozen? ⟨w.heap.size+2,o,none⟩=false)):=fun w2 hu2 X=>by
    have U:Upd [] wr w2:=(Upd.refl [] wr).drew.trans hu2
    have hl:w.heap.size+2 < wr.heap.size:=by omega
    have e1:=(U.cell (p:=⟨w.heap.size+2,2,none⟩) hl (by simp)).trans t2
    have e2:=((U.alloc X).cell (p:=⟨w.heap.size+2,2,none⟩) hl (by simp)).trans t2
    refine ⟨e1,e2,(U.alloc X).ownsRow hrow (fun _ _=>by simp),Nat.le_trans hsz (U.alloc X).size,fun w3 hgr=>?_⟩
    have UG:Upd (Value.slice gv q capv).ownBlock.toList wr w3:=((U.alloc X).mono (fun x hx _=>by cases hx)).trans (Upd.of_grown hgr)
    have hn:w.heap.size+2 ∉ (Value.slice gv q capv).ownBlock.toList:=fun hm=>by
     have hm':(Value.slice gv q capv).ownBlock=some (w.heap.size+2):=by simpa using hm
     rcases hrow.2 with ⟨hv,_⟩ | ⟨g,cap,cur,hv,hg,_⟩
     ·rw [hv] at hm'; simp [Value.ownBlock] at hm'
     ·rw [hv] at hm'; simp only [own_slice,Option.some.injEq] at hm'; omega
    exact ⟨(UG.cell (p:=⟨w.heap.size+2,2,none⟩) hl hn).trans t2,fun o=>(UG.frozen (p:=⟨w.heap.size+2,o,none⟩) hl hn).trans (tf o)⟩
   have Ht:=hide ht
   have Hrow:=hide hrow
   have Hall:=hide hall
   have hup:=ht.upd
   have HCw:=hide (HC.out wr.drew hup.drew)
   have hlm:q+1<=maxLen:=by unfold maxLen; omega
   have hlb:(q+1) * 48<=140737488355328:=by omega
   clear ht hrow hall hup HC
   go_wp2_with fail
   go_region_law (first
    | (refine step_append_lies _ (by rfl) _ _ 96 (by rfl) (w.heap.size+3) 98 i0 (.agg #[.string ⟨#[]⟩,.int .i64 0,.slice none 0 0]) 3 48 Tryz.underlying96 hi0 hz0 hz1 hz2 (by rfl) (by decide) (.slice gv q capv) q (flat3 cs) (by rfl) m3 ⟨w2.heap.size,0,none⟩ 1 1 [.string a2,.int .i64 p2,.slice g2 l2 d2] (by rfl) (by rfl) mnews mone (by decide) hlm hlb m4 _ (by rfl) ?_; intro g6 cap6 w6 hown6 hgrow6 hat6 hlt6; obtain ⟨n1,n2⟩:=Hm5.out w6 hgrow6)
    | (go_simp; go_at_call 130; refine HCw.out.mono ?_; rintro e w2 ⟨a2,p2,g2,l2,d2,rfl,hu2,hc2⟩; obtain ⟨m1,m2,m3,m4,m5⟩:=HK.out w2 hu2 (.cells #[.string a2,.int .i64 p2,.slice g2 l2 d2] 98); have Hm5:=hide m5; have Hu2:=hide hu2; have Hc2:=hide hc2; have mnews:∀ j u,[Value.string a2,.int .i64 p2,.slice g2 l2 d2][j]?=some u->(w2.alloc (.cells #[.string a2,.int .i64 p2,.slice g2 l2 d2] 98)).cell? ((⟨w2.heap.size,0,none⟩:Addr).add j)=some u:=World.news_of_block (heap_alloc_new w2 _); have mone:∀ u ∈ [Value.string a2,.int .i64 p2,.slice g2 l2 d2],u.oneCell'=true:=(by intro u hu'; simp at hu'; rcases hu' with rfl | rfl | rfl <;> rfl); clear m5 hu2 hc2))
   all_goals (
    go_wp2
    refine ⟨⟨q+1,by omega,by go_num,_,Ht.out.next Hk.out Hrow.out Hall.out ((Upd.refl [] wr).drew.trans Hu2.out) Hc2.out hown6 hgrow6 hat6⟩,by simp [intOf]; omega⟩)
  ·obtain rfl:q=s.2.1:=by omega
   have hge:¬ ((s.2.1:Nat):Int) < (s.2.1:Int):=by omega
   obtain ⟨z0,r0⟩:=ht.r0 0 (by omega)
   obtain ⟨z1,r1⟩:=ht.r0 1 (by omega)
   obtain ⟨z2,r2⟩:=ht.r0 2 (by omega)
   have rf:=ht.rf
   have t0:=ht.t0
   have t1:=ht.t1
   have t2:=ht.t2
   have hsz:=ht.size
   have Ht:=hide ht
   have Hrow:=hide hrow
   have Hall:=hide hall
   subst hv
   clear ht hrow hall
   go_wp2
   have U3:Upd [w.heap.size] wr (((wr.setCell ⟨w.heap.size,0,none⟩ (.string s.1)).setCell ⟨w.heap.size,1,none⟩ (.int .i64 0)).setCell ⟨w.heap.size,2,none⟩ (.slice gv s.2.1 capv)):=(((Upd.refl [w.heap.size] wr).setCell (p:=⟨w.heap.size,0,none⟩) (by simp) _).setCell (p:=⟨w.heap.size,1,none⟩) (by simp) _).setCell (p:=⟨w.heap.size,2,none⟩) (by simp) _
   refine bodyPost_ret (v:=.agg #[.string s.1,.int .i64 0,.slice gv s.2.1 capv]) (by simp [results,Tryz.results130,go_sem,r0,r1,r2]) rfl ⟨_,_,_,_,_,rfl,Ht.out.upd.trans' U3 (fun x hx hl=>by simp only [List.mem_singleton] at hx; omega),rfl,rfl,cs,?_,?_,?_⟩
   ·have hr:=U3.ownsRow Hrow.out (fun k hk hm=>by
     have:=own_geT Hrow.out hk
     simp only [List.mem_singleton] at hm
     omega)
    have e:(Tm.mk s.1 0 (List.map g (partsL s))).parts.length=s.2.1:=by show (List.map g (partsL s)).length=_; rw [List.length_map,partsL_length]
    rw [e]
    exact own_base0 hr
   ·intro k hk
    have:=own_geT Hrow.out hk
    omega
   ·have ha:=Hall.out
    rw [List.take_of_length_le (by rw [partsL_length]; exact Nat.le_refl _)] at ha
    refine ha.mono fun a b hab=>(hab.later U3 (fun k hk hm=>?_)).mono (fun k hk _=>?_)
    ·simp only [List.mem_singleton] at hm
     omega
    ·have:=hk.1
     omega
theorem webTerm_ok (S:WS) (wb:Nat) (H:Hd) (Z:Nat->Prop) (hB:Base S):∀ (f i:Nat),i<=f->i < S.shapes.length->∀ w,WebAt w wb H Z S->PartTerm wb (f+2) (termTm S f) w i
 | 0,i,hif,hi,w,hw=>fun W hu=>by
  obtain rfl:i=0:=by omega
  exact term_step W wb H Z S 0 1 _ (hw.later hu (fun _ _=>by simp)) hB hi (fun k hk=>by omega)
 | f+1,i,hif,hi,w,hw=>fun W hu=>by
  have hW:=hw.later hu (fun _ _=>by simp)
  exact term_step W wb H Z S i (f+2) (termTm S f) hW hB hi (fun k hk=>webTerm_ok S wb H Z hB f k (by omega) (by omega) W hW)
def ClashOn (c:ST) (L:List ST) (p:Nat->Prop):Prop:=∃ M:List ST,(∀ s ∈ M,s=c\/∃ j,p j/\L[j]?=some s)/\ClashT M
theorem ClashOn.mono {c:ST} {L:List ST} {p q:Nat->Prop} (h:∀ j,j < L.length->p j->q j):ClashOn c L p->ClashOn c L q
 | ⟨M,h1,h2⟩=>⟨M,fun s hs=>(h1 s hs).imp id fun ⟨j,hj,e⟩=>⟨j,h j (List.getElem?_eq_some_iff.1 e).1 hj,e⟩,h2⟩
theorem clashOn_iff {c:ST} {L M:List ST} {p:Nat->Prop} (h1:∀ s ∈ M,s=c\/∃ j,p j/\L[j]?=some s) (h2:c ∈ M) (h3:∀ (j:Nat) (s:ST),p j->L[j]?=some s->s ∈ M):ClashT M ↔ ClashOn c L p :=
 ⟨fun h=>⟨M,h1,h⟩,fun ⟨N,n1,n2⟩=>n2.mono fun s hs=>by
  rcases n1 s hs with rfl | ⟨j,hj,e⟩
  ·exact h2
  ·exact h3 j s hj e⟩
structure WhyIs (c:ST) (L:List ST) (l:List Nat):Prop where
 rise:l.Pairwise (· < ·)
 lt:∀ k ∈ l,k < L.length
 iff:∀ k,k < L.length->(k ∈ l ↔ ¬ ClashOn c L (fun j=>j < k\/(k < j/\j ∈ l)))
theorem rise_eq:∀ {l m:List Nat},l.Pairwise (· < ·)->m.Pairwise (· < ·)->(∀ x,x ∈ l ↔ x ∈ m)->l=m
 | [],[],_,_,_=>rfl
 | [],b :: m,_,_,h=>by have:=(h b).2 (by simp); cases this
 | a :: l,[],_,_,h=>by have:=(h a).1 (by simp); cases this
 | a :: l,b :: m,hl,hm,h=>by
  have hl':=List.pairwise_cons.1 hl
  have hm':=List.pairwise_cons.1 hm
  have e:a=b:=by
   have h1:=(h a).1 (by simp)
   have h2:=(h b).2 (by simp)
   simp only [List.mem_cons] at h1 h2
   rcases h1 with h1 | h1
   ·exact h1
   ·rcases h2 with h2 | h2
    ·exact h2.symm
    ·have:=hm'.1 a h1
     have:=hl'.1 b h2
     omega
  subst e
  rw [rise_eq hl'.2 hm'.2 fun x=>?_]
  have hx:=h x
  simp only [List.mem_cons] at hx
  constructor
  ·intro hq
   rcases hx.1 (.inr hq) with rfl | h1
   ·exact absurd (hl'.1 x hq) (Nat.lt_irrefl _)
   ·exact h1
  ·intro hq
   rcases hx.2 (.inr hq) with rfl | h1
   ·exact absurd (hm'.1 x hq) (Nat.lt_irrefl _)
   ·exact h1
theorem WhyIs.unique {c:ST} {L:List ST} {l m:List Nat} (h:WhyIs c L l) (k:WhyIs c L m):l=m:=by
 have key:∀ d i,i < L.length->L.length<=i+d->(i ∈ l ↔ i ∈ m):=by
  intro d
  induction d with
  | zero=>intro i h1 h2; omega
  | succ d ih =>
   intro i h1 h2
   rw [h.iff i h1,k.iff i h1]
   have e:ClashOn c L (fun j=>j < i\/(i < j/\j ∈ l)) ↔ ClashOn c L (fun j=>j < i\/(i < j/\j ∈ m)):=by
    constructor
    ·exact ClashOn.mono fun j hj hp=>hp.imp id fun hp=>⟨hp.1,(ih j hj (by omega)).1 hp.2⟩
    ·exact ClashOn.mono fun j hj hp=>hp.imp id fun hp=>⟨hp.1,(ih j hj (by omega)).2 hp.2⟩
   rw [e]
 refine rise_eq h.rise k.rise fun x=>⟨fun hx=>?_,fun hx=>?_⟩
 ·have:=h.lt x hx
  exact (key L.length x this (by omega)).1 hx
 ·have:=k.lt x hx
  exact (key L.length x this (by omega)).2 hx
def eraseX (x:SntX):ST:=eraseS x.2
def whyR (O:Nat->WS) (xs:List SntX):Nat->List Nat × List SntX
 | 0=>([],[])
 | d+1=>if clashM (sayAll (O (xs.length - (d+1))) (whyR O xs d).2) then whyR O xs d else ((whyR O xs d).1++[xs.length - (d+1)],(whyR O xs d).2++(xs[xs.length - (d+1)]?).toList)
def whyL (O:Nat->WS) (xs:List SntX):List Nat:=(whyR O xs xs.length).1.reverse
structure WhyTo (O:Nat->WS) (xs:List SntX) (c:ST) (d:Nat):Prop where
 rise:(whyR O xs d).1.reverse.Pairwise (· < ·)
 lt:∀ k ∈ (whyR O xs d).1,k < xs.length/\xs.length<=k+d
 mem:∀ x,x ∈ (whyR O xs d).2 ↔ ∃ k ∈ (whyR O xs d).1,xs[k]?=some x
 len:(whyR O xs d).1.length<=d
 len2:(whyR O xs d).2.length=(whyR O xs d).1.length
 iff:∀ k,k < xs.length->xs.length<=k+d->(k ∈ (whyR O xs d).1 ↔ ¬ ClashOn c (xs.map eraseX) (fun j=>j < k\/(k < j/\j ∈ (whyR O xs d).1)))
def AskOK (O:Nat->WS) (xs:List SntX) (c:ST):Prop :=
 ∀ (k:Nat) (ys:List SntX),k < xs.length->(∀ y ∈ ys,y ∈ xs)->(clashM (sayAll (O k) ys)=true ↔ ClashT (c :: ((xs.map eraseX).take k++ys.map eraseX)))
theorem whyTo {O:Nat->WS} {xs:List SntX} {c:ST} (hO:AskOK O xs c):∀ d,d<=xs.length->WhyTo O xs c d
 | 0,_=>⟨by simp [whyR],fun k hk=>by simp [whyR] at hk,fun x=>by simp [whyR],Nat.le_refl _,rfl,fun k h1 h2=>by omega⟩
 | d+1,hd=>by
  have h:=whyTo hO d (by omega)
  obtain ⟨k,hk⟩:∃ k,xs.length - (d+1)=k:=⟨_,rfl⟩
  have hkl:k < xs.length:=by omega
  have hx:xs[k]?=some xs[k]:=List.getElem?_eq_getElem hkl
  have hin:∀ y ∈ (whyR O xs d).2,y ∈ xs:=fun y hy=>by
   obtain ⟨j,_,e⟩:=(h.mem y).1 hy
   exact List.mem_of_getElem? e
  have htest:=hO k (whyR O xs d).2 hkl hin
  have hon:ClashT (c :: ((xs.map eraseX).take k++(whyR O xs d).2.map eraseX)) ↔ ClashOn c (xs.map eraseX) (fun j=>j < k\/(k < j/\j ∈ (whyR O xs d).1)):=by
   refine clashOn_iff (fun s hs=>?_) (by simp) (fun j s hj e=>?_)
   ·simp only [List.mem_cons,List.mem_append] at hs
    rcases hs with rfl | hs | hs
    ·exact .inl rfl
    ·obtain ⟨j,hj⟩:=List.getElem?_of_mem hs
     rw [List.getElem?_take] at hj
     split at hj
     ·exact .inr ⟨j,.inl ‹_›,hj⟩
     ·cases hj
    ·obtain ⟨y,hy,rfl⟩:=List.mem_map.1 hs
     obtain ⟨j,hj,e⟩:=(h.mem y).1 hy
     have:=(h.lt j hj).2
     exact .inr ⟨j,.inr ⟨by omega,hj⟩,by rw [List.getElem?_map,e]; rfl⟩
   ·simp only [List.mem_cons,List.mem_append]
    rcases hj with hj | hj
    ·exact .inr (.inl (List.mem_of_getElem? (i:=j) (by rw [List.getElem?_take,if_pos hj]; exact e)))
    ·rw [List.getElem?_map] at e
     obtain ⟨y,hy,rfl⟩:=Option.map_eq_some_iff.1 e
     exact .inr (.inr (List.mem_map.2 ⟨y,(h.mem y).2 ⟨j,hj.2,hy⟩,rfl⟩))
  by_cases hc:clashM (sayAll (O k) (whyR O xs d).2)=true
  ·have e:whyR O xs (d+1)=whyR O xs d:=by simp only [whyR,hk]; rw [if_pos hc]
   refine ⟨by rw [e]; exact h.rise,fun j hj=>?_,by rw [e]; exact h.mem,by rw [e]; have:=h.len; omega,by rw [e]; exact h.len2,fun j h1 h2=>?_⟩
   ·rw [e] at hj
    have:=h.lt j hj
    omega
   ·rw [e]
    by_cases hj:j=k
    ·subst hj
     have h3:=hon.1 (htest.1 hc)
     exact ⟨fun hm=>by have:=(h.lt j hm).2; omega,fun hn=>absurd h3 hn⟩
    ·exact h.iff j h1 (by omega)
  ·have e:whyR O xs (d+1)=((whyR O xs d).1++[k],(whyR O xs d).2++[xs[k]]):=by simp only [whyR,hk]; rw [if_neg hc,hx]; rfl
   have hne:∀ j ∈ (whyR O xs d).1,k < j:=fun j hj=>by have:=(h.lt j hj).2; omega
   have hset:∀ i,k<=i->∀ j,(j < i\/(i < j/\j ∈ (whyR O xs d).1++[k])) ↔ (j < i\/(i < j/\j ∈ (whyR O xs d).1)):=fun i hi j=>by
    simp only [List.mem_append,List.mem_singleton]
    constructor
    ·rintro (h | ⟨h1,h2 | h2⟩)
     ·exact .inl h
     ·exact .inr ⟨h1,h2⟩
     ·omega
    ·rintro (h | ⟨h1,h2⟩)
     ·exact .inl h
     ·exact .inr ⟨h1,.inl h2⟩
   refine ⟨?_,fun j hj=>?_,fun x=>?_,?_,?_,fun j h1 h2=>?_⟩
   ·rw [e]
    simp only [List.reverse_append,List.reverse_cons,List.reverse_nil,List.nil_append,List.singleton_append,List.pairwise_cons,List.mem_reverse]
    exact ⟨hne,h.rise⟩
   ·rw [e] at hj
    simp only [List.mem_append,List.mem_singleton] at hj
    rcases hj with hj | rfl
    ·have:=h.lt j hj
     omega
    ·omega
   ·rw [e]
    simp only [List.mem_append,List.mem_singleton]
    constructor
    ·rintro (h1 | rfl)
     ·obtain ⟨j,hj,e⟩:=(h.mem x).1 h1
      exact ⟨j,.inl hj,e⟩
     ·exact ⟨k,.inr rfl,hx⟩
    ·rintro ⟨j,h1 | rfl,e2⟩
     ·exact .inl ((h.mem x).2 ⟨j,h1,e2⟩)
     ·rw [hx] at e2
      exact .inr (Option.some.inj e2).symm
   ·rw [e]
    have:=h.len
    simp only [List.length_append,List.length_singleton]
    omega
   ·rw [e]
    have:=h.len2
    simp only [List.length_append,List.length_singleton]
    omega
   ·rw [e]
    simp only
    have hon':∀ i,k<=i->(ClashOn c (xs.map eraseX) (fun j=>j < i\/(i < j/\j ∈ (whyR O xs d).1++[k])) ↔ ClashOn c (xs.map eraseX) (fun j=>j < i\/(i < j/\j ∈ (whyR O xs d).1))):=fun i hi =>
     ⟨ClashOn.mono fun j _=>(hset i hi j).1,ClashOn.mono fun j _=>(hset i hi j).2⟩
    rw [hon' j (by omega)]
    by_cases hj:j=k
    ·subst hj
     have h3:¬ ClashOn c (xs.map eraseX) (fun i=>i < j\/(j < i/\i ∈ (whyR O xs d).1)):=fun hh=>hc (htest.2 (hon.2 hh))
     exact ⟨fun _=>h3,fun _=>by simp⟩
    ·rw [<- h.iff j h1 (by omega)]
     simp only [List.mem_append,List.mem_singleton,hj,or_false]
theorem whyL_is {O:Nat->WS} {xs:List SntX} {c:ST} (hO:AskOK O xs c):WhyIs c (xs.map eraseX) (whyL O xs):=by
 have h:=whyTo hO xs.length (Nat.le_refl _)
 unfold whyL
 refine ⟨h.rise,fun k hk=>?_,fun k hk=>?_⟩
 ·rw [List.mem_reverse] at hk
  rw [List.length_map]
  exact (h.lt k hk).1
 ·rw [List.length_map] at hk
  rw [List.mem_reverse,h.iff k hk (by omega)]
  simp only [List.mem_reverse]
structure Under (B:WS) (K:List ST):Prop where
 holds:Holds B K
 few:B.shapes.length<=250
def SubX (K:List ST) (x:SntX):Prop:=NarrowX x/\sizeX x<=150/\∀ t,known [eraseX x] t->known K t
theorem known_append {L M:List ST} {t:Trm}:known (L++M) t ↔ known L t\/known M t:=by
 unfold known
 simp only [List.mem_append]
 constructor
 ·rintro ⟨s,h1 | h1,h2⟩
  ·exact .inl ⟨s,h1,h2⟩
  ·exact .inr ⟨s,h1,h2⟩
 ·rintro (⟨s,h1,h2⟩ | ⟨s,h1,h2⟩)
  ·exact ⟨s,.inl h1,h2⟩
  ·exact ⟨s,.inr h1,h2⟩
theorem Under.say {B:WS} {K:List ST} (h:Under B K) {S:WS} {L:List ST} (hS:Holds S L) (hk:∀ t,known L t->known K t) {x:SntX} (hx:SubX K x):S.shapes.length+sizeX x<=400/\Holds (sayM S x.2) (L++[eraseX x])/\∀ t,known (L++[eraseX x]) t->known K t:=by
 have h1:=h.holds.fewer hS hk
 have h2:=h.few
 have h3:=hx.2.1
 have h4:S.shapes.length+sizeX x<=400:=by omega
 exact ⟨h4,hS.say hx.1 h4,fun t ht=>(known_append.1 ht).elim (hk t) (hx.2.2 t)⟩
theorem Under.sayAll {B:WS} {K:List ST} (h:Under B K):∀ (ys:List SntX) {S:WS} {L:List ST},Holds S L->(∀ t,known L t->known K t)->(∀ y ∈ ys,SubX K y)->RoomX S ys/\Holds (sayAll S ys) (L++ys.map eraseX)/\allOf NarrowX ys/\∀ t,known (L++ys.map eraseX) t->known K t
 | [],S,L,hS,hk,_=>⟨by have h1:=h.holds.fewer hS hk; have h2:=h.few; show S.shapes.length<=400; omega,by simpa [Go.Proofs.YtmfkpllnmmfpiaaGreatDoor.sayAll] using hS,trivial,by simpa using hk⟩
 | y :: ys,S,L,hS,hk,hy=>by
  obtain ⟨a,b,c⟩:=h.say hS hk (hy y (by simp))
  obtain ⟨d,e,f,g⟩:=Under.sayAll h ys b c (fun z hz=>hy z (by simp [hz]))
  have e1:L++(y :: ys).map eraseX=L++[eraseX y]++ys.map eraseX:=by simp
  rw [e1]
  exact ⟨⟨a,d⟩,e,⟨(hy y (by simp)).1,f⟩,g⟩
def otherM (c:SntX) (xs:List SntX) (k:Nat):WS:=sayAll (sayM noWS c.2) (xs.take k)
theorem ask_ok {B:WS} {K:List ST} (h:Under B K) {c:SntX} {xs:List SntX} (hc:SubX K c) (hx:∀ x ∈ xs,SubX K x):AskOK (otherM c xs) xs (eraseX c):=fun k ys hk hy=>by
 obtain ⟨_,h1,h2⟩:=h.say Holds.none (fun t ⟨s,hs,_⟩=>by cases hs) hc
 obtain ⟨_,h3,_,h4⟩:=h.sayAll (xs.take k) h1 h2 (fun x hm=>hx x (List.mem_of_mem_take hm))
 obtain ⟨_,h5,_,_⟩:=h.sayAll ys h3 h4 (fun y hm=>hx y (hy y hm))
 unfold otherM
 rw [h5.clash_iff]
 have e:[]++[eraseX c]++(xs.take k).map eraseX++ys.map eraseX=eraseX c :: ((xs.map eraseX).take k++ys.map eraseX):=by simp [List.map_take]
 rw [e]
mutual
/-- How many terms a term has in it. -/
def Trm.size:Trm->Nat
 | .node _ ps=>1+Trm.sizeL ps
def Trm.sizeL:List Trm->Nat
 | []=>0
 | p :: ps=>p.size+Trm.sizeL ps
end
theorem sizeL_map {n:Nat} (h:∀ t:Tm n,(erase n t).size=sizeT n t):∀ l:List (Tm n),Trm.sizeL (l.map (erase n))=sumOf (sizeT n) l
 | []=>rfl
 | p :: l=>by
  show (erase n p).size+Trm.sizeL (l.map (erase n))=sizeT n p+sumOf (sizeT n) l
  rw [h p,sizeL_map h l]
theorem size_erase:∀ (n:Nat) (t:Tm n),(erase n t).size=sizeT n t
 | 0,t=>nomatch t
 | n+1,t=>by
  show 1+Trm.sizeL (t.parts.map (erase n))=1+sumOf (sizeT n) t.parts
  rw [sizeL_map (size_erase n)]
def ST.size (s:ST):Nat:=s.l.size+s.r.size
theorem sizeS_erase {n:Nat} (x:Snt n):(eraseS x).size=sizeS x:=by
 show (erase n x.left).size+(erase n x.right).size=_
 rw [size_erase,size_erase]
 rfl
theorem shapeOf_parts {i:Nat} {s:Sh} (h:ShOK i s):shapeOf s.1 (partsL s)=s:=by
 have hc:=h.count
 have hl:=partsL_length s
 refine Sh.ext' rfl hl fun j hj=>?_
 by_cases hjs:j < s.2.1
 ·exact partAt_shapeOf (by omega) (partsL_get hjs)
 ·rw [h.rest j (by omega) hj]
  have e:∀ k,s.2.1<=k->(partsL s).getD k 0=0:=fun k hk=>by rw [List.getD_eq_getElem?_getD,List.getElem?_eq_none (by omega)]; rfl
  match j,hj,hjs with
  | 0,_,hjs=>exact e 0 (by omega)
  | 1,_,hjs=>exact e 1 (by omega)
  | 2,_,hjs=>exact e 2 (by omega)
  | j+3,hj,_=>omega
theorem partsL_lt {i:Nat} {s:Sh} (h:ShOK i s):∀ k ∈ partsL s,k < i:=fun k hk=>by
 unfold partsL at hk
 obtain ⟨q,hq,rfl⟩:=List.mem_map.1 hk
 exact h.part q (List.mem_range.1 hq)
theorem termTm_den {S:WS} (hB:Base S):∀ (f i:Nat),i<=f->i < S.shapes.length->DenE S (erase _ (termTm S f i)) i
 | 0,i,h1,h2=>by
  obtain rfl:i=0:=by omega
  have hg:=hB.good 0 _ (shapeAt_some h2)
  have h0:partsL (shapeAt S 0)=[]:=by
   cases hp:partsL (shapeAt S 0) with
   | nil=>rfl
   | cons k l=>exact absurd (partsL_lt hg k (by rw [hp]; simp)) (Nat.not_lt_zero _)
  have e:erase _ (termTm S 0 0)=.node (shapeAt S 0).1 []:=by
   show Trm.node (shapeAt S 0).1 (((partsL (shapeAt S 0)).map fun _=>(Tm.mk ⟨#[]⟩ 0 []:Tm 1)).map (erase 1))=_
   rw [h0]
   rfl
  rw [e]
  refine .mk (ks:=[]) ?_ rfl (by simp) (fun j p k hp _=>by simp at hp)
  rw [<- h0,shapeOf_parts hg]
  exact shapeAt_some h2
 | f+1,i,h1,h2=>by
  have hg:=hB.good i _ (shapeAt_some h2)
  have e:erase _ (termTm S (f+1) i)=.node (shapeAt S i).1 ((partsL (shapeAt S i)).map fun k=>erase _ (termTm S f k)):=by
   show Trm.node (shapeAt S i).1 (((partsL (shapeAt S i)).map (termTm S f)).map (erase (f+2)))=_
   rw [List.map_map]
   rfl
  rw [e]
  refine .mk (ks:=partsL (shapeAt S i)) (by rw [shapeOf_parts hg]; exact shapeAt_some h2) (by simp) (by rw [partsL_length]; exact hg.count) fun j p k hp hk=>?_
  rw [List.getElem?_map,hk] at hp
  simp only [Option.map_some,Option.some.injEq] at hp
  subst hp
  have:=partsL_lt hg k (List.mem_of_getElem? hk)
  exact termTm_den hB f k (by omega) (by omega)
theorem termTm_narrow {S:WS} (hB:Base S):∀ (f i:Nat),i<=f->i < S.shapes.length->Narrow _ (termTm S f i)
 | 0,i,h1,h2=>by
  obtain rfl:i=0:=by omega
  have hg:=hB.good 0 _ (shapeAt_some h2)
  have h0:partsL (shapeAt S 0)=[]:=by
   cases hp:partsL (shapeAt S 0) with
   | nil=>rfl
   | cons k l=>exact absurd (partsL_lt hg k (by rw [hp]; simp)) (Nat.not_lt_zero _)
  refine ⟨hg.name,?_,?_⟩
  ·show ((partsL (shapeAt S 0)).map fun _=>(Tm.mk ⟨#[]⟩ 0 []:Tm 1)).length<=3
   rw [h0]
   simp
  ·show allOf _ ((partsL (shapeAt S 0)).map fun _=>(Tm.mk ⟨#[]⟩ 0 []:Tm 1))
   rw [h0]
   trivial
 | f+1,i,h1,h2=>by
  have hg:=hB.good i _ (shapeAt_some h2)
  refine ⟨hg.name,?_,?_⟩
  ·show ((partsL (shapeAt S i)).map (termTm S f)).length<=3
   rw [List.length_map,partsL_length]
   exact hg.count
  ·show allOf _ ((partsL (shapeAt S i)).map (termTm S f))
   refine allOf_of fun a ha=>?_
   obtain ⟨k,hk,rfl⟩:=List.mem_map.1 ha
   have:=partsL_lt hg k hk
   exact termTm_narrow hB f k (by omega) (by omega)
def sentX (S:WS) (x:Nat × Nat × Nat):SntX:=⟨S.shapes.length+2,⟨termTm S S.shapes.length x.2.1,x.1 == 0,termTm S S.shapes.length x.2.2⟩⟩
def sentsX (S:WS):List SntX:=S.said.map (sentX S)
theorem AllIs.map_eq {α β:Type} {R:α->β->Prop} {f:α->β} (h:∀ a b,R a b->f a=b):∀ {xs:List α} {ys:List β},AllIs R xs ys->xs.map f=ys
 | [],[],_=>rfl
 | _ :: _,_ :: _,hr=>by rw [List.map_cons,h _ _ hr.1,AllIs.map_eq h hr.2]
 | [],_ :: _,hr=>hr.elim
 | _ :: _,[],hr=>hr.elim
theorem Holds.sents {S:WS} {L:List ST} (h:Holds S L):(sentsX S).map eraseX=L:=by
 have hB:=h.fine.web.base
 unfold sentsX
 rw [List.map_map]
 refine AllIs.map_eq (R:=fun (x:Nat × Nat × Nat) (s:ST)=>x.1=(if s.eq then 0 else 1)/\DenE S s.l x.2.1/\DenE S s.r x.2.2) (fun x s hx=>?_) h.said
 obtain ⟨h1,h2,h3⟩:=hx
 have l1:=h2.lt
 have l2:=h3.lt
 show (⟨x.1 == 0,erase _ (termTm S S.shapes.length x.2.1),erase _ (termTm S S.shapes.length x.2.2)⟩:ST)=s
 rw [(termTm_den hB S.shapes.length x.2.1 (by omega) l1).fn h2,(termTm_den hB S.shapes.length x.2.2 (by omega) l2).fn h3]
 obtain ⟨q,l,r⟩:=s
 simp only at h1 ⊢
 rw [h1]
 cases q <;> rfl
def SmallL (L:List ST):Prop:=∀ s ∈ L,s.size<=100
theorem Holds.subs {S:WS} {L:List ST} (h:Holds S L) (hs:SmallL L) {K:List ST} (hk:∀ t,known L t->known K t):∀ x ∈ sentsX S,SubX K x:=fun x hx=>by
 have hB:=h.fine.web.base
 have hm:eraseX x ∈ L:=by rw [<- h.sents]; exact List.mem_map.2 ⟨x,hx,rfl⟩
 have hsz:=hs _ hm
 refine ⟨?_,?_,fun t ⟨s,h1,h2⟩=>hk t ⟨s,?_,h2⟩⟩
 ·unfold sentsX at hx
  obtain ⟨y,hy,rfl⟩:=List.mem_map.1 hx
  obtain ⟨c1,c2⟩:=hB.saidLt y hy
  have:=hB.inv.len
  exact ⟨termTm_narrow hB _ _ (by omega) (by omega),termTm_narrow hB _ _ (by omega) (by omega)⟩
 ·unfold eraseX at hsz
  rw [sizeS_erase] at hsz
  unfold sizeX
  omega
 ·simp only [List.mem_singleton] at h1
  rw [h1]
  exact hm
theorem Holds.follows_iff {S:WS} {L:List ST} (h:Holds S L) {n:Nat} {x:Snt n} (hx:NarrowS x) (hr:S.shapes.length+sizeS x<=400):followsM S x=true ↔ ClashT (L++[contraT (eraseS x)]):=by
 unfold followsM
 rw [<- eraseS_contra]
 exact (h.say (x:=contra x) (contra_narrow hx) hr).clash_iff
theorem Holds.under {S:WS} {L:List ST} (h:Holds S L) {n:Nat} {x:Snt n} (hx:NarrowS x) (hz:sizeS x<=100) (ht:S.shapes.length<=100):Under (sayM S (contra x)) (L++[eraseX ⟨n,contra x⟩])/\SubX (L++[eraseX ⟨n,contra x⟩]) ⟨n,contra x⟩:=by
 have hr:S.shapes.length+sizeS (contra x)<=400:=by rw [contra_size]; omega
 have h1:=h.say (x:=contra x) (contra_narrow hx) hr
 have h2:=(sayM_end h.fine.web (contra_narrow hx) hr).len
 rw [contra_size] at h2
 exact ⟨⟨h1,by omega⟩,contra_narrow hx,by show sizeS (contra x)<=150; rw [contra_size]; omega,fun t ht=>known_append.2 (.inr ht)⟩
theorem Holds.why_is {S:WS} {L:List ST} (h:Holds S L) (hs:SmallL L) {n:Nat} {x:Snt n} (hx:NarrowS x) (hz:sizeS x<=100) (ht:S.shapes.length<=100):WhyIs (contraT (eraseS x)) L (whyL (otherM ⟨n,contra x⟩ (sentsX S)) (sentsX S)):=by
 obtain ⟨hu,hc⟩:=h.under hx hz ht
 have h1:=whyL_is (ask_ok hu hc (h.subs hs (fun t ht=>known_append.2 (.inl ht))))
 rw [h.sents] at h1
 exact h1
def sortT_ren:Go.Shelf.Ren:=⟨fun | 6=>115 | 15=>119 | 14=>135 | 28=>145 | 29=>146 | 20=>161 | 21=>162 | 22=>163 | 23=>164 | 24=>165 | 25=>166 | 26=>167 | 27=>168 | 46=>179 | 47=>171 | 48=>172 | 49=>180 | 50=>181 | 57=>184 | n=>n,fun | 22=>137 | 24=>147 | 25=>192 | 3=>3 | 39=>195 | 0=>0 | 53=>220 | 55=>222 | 4=>4 | 46=>214 | 45=>213 | 50=>189 | 5=>5 | 9=>9 | 66=>240 | 70=>244 | 76=>251 | 77=>252 | n=>n,fun | n=>n⟩
theorem sortT:Go.Proofs.SlLaysF0.n6 Tryz.prog sortT_ren:={
 mixed:=by kernel_rfl
 f6:=⟨Tryz.f115.name,by decide,Tryz.func115.trans (congrArg some (by kernel_rfl))⟩
 f14:=⟨Tryz.f135.name,by decide,Tryz.func135.trans (congrArg some (by kernel_rfl))⟩
 f15:=Tryz.func119.trans (congrArg some (by kernel_rfl))
 f20:=⟨Tryz.f161.name,by decide,Tryz.func161.trans (congrArg some (by kernel_rfl))⟩
 f21:=⟨Tryz.f162.name,by decide,Tryz.func162.trans (congrArg some (by kernel_rfl))⟩
 f22:=⟨Tryz.f163.name,by decide,Tryz.func163.trans (congrArg some (by kernel_rfl))⟩
 f23:=⟨Tryz.f164.name,by decide,Tryz.func164.trans (congrArg some (by kernel_rfl))⟩
 f24:=⟨Tryz.f165.name,by decide,Tryz.func165.trans (congrArg some (by kernel_rfl))⟩
 f25:=⟨Tryz.f166.name,by decide,Tryz.func166.trans (congrArg some (by kernel_rfl))⟩
 f26:=⟨Tryz.f167.name,by decide,Tryz.func167.trans (congrArg some (by kernel_rfl))⟩
 f27:=⟨Tryz.f168.name,by decide,Tryz.func168.trans (congrArg some (by kernel_rfl))⟩
 f28:=Tryz.func145.trans (congrArg some (by kernel_rfl))
 f29:=Tryz.func146.trans (congrArg some (by kernel_rfl))
 f46:=⟨Tryz.f179.name,by decide,Tryz.func179.trans (congrArg some (by kernel_rfl))⟩
 f47:=Tryz.func171.trans (congrArg some (by kernel_rfl))
 f48:=Tryz.func172.trans (congrArg some (by kernel_rfl))
 f49:=⟨Tryz.f180.name,by decide,Tryz.func180.trans (congrArg some (by kernel_rfl))⟩
 f50:=⟨Tryz.f181.name,by decide,Tryz.func181.trans (congrArg some (by kernel_rfl))⟩
 f57:=⟨Tryz.f184.name,by decide,Tryz.func184.trans (congrArg some (by kernel_rfl))⟩
 t0:=Tryz.underlying0
 a0:=Tryz.isAgg0
 z0:=Tryz.sizeOf0
 v0:=Tryz.zeroValue0
 t3:=Tryz.underlying3
 a3:=Tryz.isAgg3
 z3:=Tryz.sizeOf3
 v3:=Tryz.zeroValue3
 t4:=Tryz.underlying4
 a4:=Tryz.isAgg4
 z4:=Tryz.sizeOf4
 v4:=Tryz.zeroValue4
 t5:=Tryz.underlying5
 a5:=Tryz.isAgg5
 z5:=Tryz.sizeOf5
 v5:=Tryz.zeroValue5
 t9:=Tryz.underlying9
 a9:=Tryz.isAgg9
 z9:=Tryz.sizeOf9
 v9:=Tryz.zeroValue9
 t22:=Tryz.underlying137
 a22:=Tryz.isAgg137
 z22:=Tryz.sizeOf137
 v22:=Tryz.zeroValue137
 t25:=Tryz.underlying192
 a25:=Tryz.isAgg192
 z25:=Tryz.sizeOf192
 v25:=Tryz.zeroValue192
 t39:=Tryz.underlying195
 a39:=Tryz.isAgg195
 z39:=Tryz.sizeOf195
 v39:=Tryz.zeroValue195
 t45:=Tryz.underlying213
 a45:=Tryz.isAgg213
 z45:=Tryz.sizeOf213
 v45:=Tryz.zeroValue213
 t46:=Tryz.underlying214
 a46:=Tryz.isAgg214
 z46:=Tryz.sizeOf214
 v46:=Tryz.zeroValue214
 t50:=Tryz.underlying189
 a50:=Tryz.isAgg189
 z50:=Tryz.sizeOf189
 v50:=Tryz.zeroValue189
 t53:=Tryz.underlying220
 a53:=Tryz.isAgg220
 z53:=Tryz.sizeOf220
 v53:=Tryz.zeroValue220
 t55:=Tryz.underlying222
 a55:=Tryz.isAgg222
 z55:=Tryz.sizeOf222
 v55:=Tryz.zeroValue222
 t66:=Tryz.underlying240
 a66:=Tryz.isAgg240
 z66:=Tryz.sizeOf240
 v66:=Tryz.zeroValue240
 t70:=Tryz.underlying244
 a70:=Tryz.isAgg244
 z70:=Tryz.sizeOf244
 v70:=Tryz.zeroValue244
 t76:=Tryz.underlying251
 a76:=Tryz.isAgg251
 z76:=Tryz.sizeOf251
 v76:=Tryz.zeroValue251
 t77:=Tryz.underlying252
 a77:=Tryz.isAgg252
 z77:=Tryz.sizeOf252
 v77:=Tryz.zeroValue252 }
def plainT (S:WS) (i:Nat):ByteArray:=⟨(plainF S (i+1) i).toArray⟩
theorem convert_row {w:World} {B:Nat} {v:Value} {xs:List UInt8} (h:w.ownsRow B 5 1 v xs.length (bytesV xs)):(convert 186 9 v).run Tryz.prog w=.ok (.string ⟨xs.toArray⟩) w:=by
 rcases ownsRow_slice h with ⟨rfl,h0⟩ | ⟨g,cap,rfl,_,_⟩
 ·have:xs=[]:=List.eq_nil_of_length_eq_zero h0
  subst this
  exact run_convert_bytes_nil w 186 5 Tryz.underlying186 Tryz.underlying5 0 0 9 Tryz.underlying9
 ·have hc:∀ i,i < xs.length->w.cell? ⟨g,0+i,none⟩=some (.int .u8 ((xs.map fun b=>(b.toNat:Int)).getD i 0)):=fun i hi=>by
   rw [Nat.zero_add,h.cellAt i (by omega)]
   simp [bytesV,List.getD,hi]
  rw [run_convert_bytes_arg w 186 5 Tryz.underlying186 Tryz.underlying5 g 0 xs.length cap (xs.map fun b=>(b.toNat:Int)) (by simp) hc 9 Tryz.underlying9]
  unfold strOfNums
  rw [List.map_map]
  congr 3
  rw [List.map_congr_left (g:=id) (fun b _=>by simp),List.map_id]
theorem plain_any (w:World) (wb:Nat) (H:Hd) (Z:Nat->Prop) (S:WS) (i:Nat) (h:WebAt w wb H Z S) (hB:Base S) (hZ:∀ k,Z k->k < w.heap.size) (hi:i < S.shapes.length) (hn:S.shapes.length<=1000) (hsm:∀ g j,(plainF S g j).length<=1000) :
  Calls Tryz.prog 88 #[.pointer (some ⟨wb,0,none⟩),.int .i64 i] w fun e w'=>e=.returned (.string (plainT S i))/\Upd [] w w':=by
 have HC:=hide (plain_ok (i+1) w wb w.heap.size H Z S (.slice none 0 0) [] i h hB hZ (Nat.le_refl _) hi (by omega) (World.ownsRow_nil _ _ _ _) hsm (by simp; omega))
 clear h hB
 go_enter Tryz.func88,Tryz.ntmps88
 go_wp2_with (go_at_call 123; refine HC.out.mono ?_; rintro e w2 ⟨v2,rfl,ht⟩; have hcv:=convert_row ht.row; have Hb:=hide ht.below; clear ht)
 go_ret
 refine ⟨rfl,Upd.of_below Hb.out⟩
def signB (b:Bool):ByteArray:=if b then ⟨#[61]⟩ else ⟨#[33,61]⟩
theorem signString_any (k:Nat) (w:World) (hk:k<=1) :
  Calls Tryz.prog 89 #[.int .i64 k] w fun e w'=>e=.returned (.string (signB (k == 0)))/\w'=w:=by
 by_cases h0:k=0
 ·subst h0
  go_enter Tryz.func89,Tryz.ntmps89
  go_wp2
  go_ret
  exact ⟨rfl,rfl⟩
 ·obtain rfl:k=1:=by omega
  go_enter Tryz.func89,Tryz.ntmps89
  go_wp2
  go_ret
  exact ⟨rfl,rfl⟩
end Go.Proofs.YtmfkpllnmmfpiaaGreatDoor
