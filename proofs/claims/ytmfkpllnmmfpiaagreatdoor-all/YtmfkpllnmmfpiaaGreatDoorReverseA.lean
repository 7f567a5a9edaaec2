/- WebSents, RangeLaw, Backward, Reverse -/
import Derived.Test.YtmfkpllnmmfpiaaGreatDoorPlainTextA
import Derived.Test.YtmfkpllnmmfpiaaGreatDoorSaidA
import Derived.RangeFuncNested
import Derived.RangeFuncBound
import Derived.RangeFuncCalls
import Derived.RangeFuncLeaves
import Derived.Test.YtmfkpllnmmfpiaaGreatDoorWebHeapA
import Derived.Test.YtmfkpllnmmfpiaaGreatDoorBookA
import Derived.Shelf.Abstract
import Derived.Shelf.RegionOpen
import Derived.OwnWalkIn
import Derived.TacticsInMore
import Derived.LoopNIn
import Derived.LoopIn
import Derived.Test.YtmfkpllnmmfpiaaGreatDoorTwinsA
set_option maxHeartbeats 16000000
set_option maxRecDepth 100000
namespace Go.Proofs.YtmfkpllnmmfpiaaGreatDoor
open Go.RowKit Go.Shelf
theorem info_readSent:(Tryz.prog.info? 101).map (fun i=>(i.zero,i.size,i.bytes))=some (some (.agg #[.string ⟨#[]⟩,.int .i64 0,.slice none 0 0,.int .i64 0,.string ⟨#[]⟩,.int .i64 0,.slice none 0 0]),7,104):=by kernel_rfl
theorem flat7_append (a b:List V7):flat7 (a++b)=flat7 a++flat7 b:=by
 induction a with
 | nil=>rfl
 | cons c a ih=>simp [flat7,ih]
structure Senting (w wr:World) (wb:Nat) (H:Hd) (Z:Nat->Prop) (S:WS) (v:Value) (j:Nat):Prop where
 web:WebAt wr wb H Z S
 row:∃ cs:List V7,wr.ownsRow w.heap.size 101 7 v j (flat7 cs)/\AllIs (IsX wr (fun k=>w.heap.size<=k/\v.ownBlock ≠ some k)) cs ((sentsX S).take j)
 upd:Upd [] w wr
theorem Senting.next {w wr w2 w3:World} {wb j g' cap:Nat} {H:Hd} {Z:Nat->Prop} {S:WS} {v:Value} {cs:List V7} {c:V7} {x:SntX} {X:Obj} (h:Senting w wr wb H Z S v j) (hZ:∀ k,Z k->k < w.heap.size) (hx:(sentsX S)[j]?=some x)
  (hrow:wr.ownsRow w.heap.size 101 7 v j (flat7 cs)) (hall:AllIs (IsX wr (fun k=>w.heap.size<=k/\v.ownBlock ≠ some k)) cs ((sentsX S).take j))
  (hu2:Upd [] wr w2) (hc:IsX w2 (fun k=>wr.heap.size<=k) c x)
  (hown:w3.ownsRow w.heap.size 101 7 (.slice (some ⟨g',0,none⟩) (j+1) cap) (j+1) (flat7 cs++v7 c)) (hgrow:(w2.alloc X).grownBy w3 v.ownBlock) (hat:v.ownBlock=some g'\/g'=(w2.alloc X).heap.size) :
  Senting w w3 wb H Z S (.slice (some ⟨g',0,none⟩) (j+1) cap) (j+1):=by
 have hge:∀ q,v.ownBlock=some q->w.heap.size<=q/\q < wr.heap.size:=fun q hq=>⟨own_ge hrow hq,ownsRow_lt hrow hq⟩
 have U1:Upd v.ownBlock.toList w2 w3:=((Upd.refl v.ownBlock.toList w2).alloc X).trans (Upd.of_grown hgrow)
 have U:Upd v.ownBlock.toList wr w3:=(hu2.mono (fun x hx _=>by cases hx)).trans U1
 have hz2:=hu2.size
 refine ⟨h.web.later U (fun k hk hm=>?_),⟨cs++[c],?_,?_⟩,h.upd.trans' U (fun k hk hl=>?_)⟩
 ·have:=(hge k (by simpa using hm)).1
  have:=hZ k hk
  omega
 ·rw [flat7_append]
  simpa [flat7] using hown
 ·have hlt:=(List.getElem?_eq_some_iff.1 hx).1
  rw [List.getElem?_eq_getElem hlt] at hx
  rw [List.take_succ_eq_append_getElem hlt,Option.some.inj hx]
  have hfr:∀ q,(w.heap.size<=q/\v.ownBlock ≠ some q)/\q < wr.heap.size->w.heap.size<=q/\(Value.slice (some ⟨g',0,none⟩) (j+1) cap).ownBlock ≠ some q:=fun q hq=>⟨hq.1.1,fun e=>by
   simp only [own_slice,Option.some.injEq] at e
   subst e
   rcases hat with hat | hat
   ·exact hq.1.2 hat
   ·simp at hat; omega⟩
  refine AllIs.snoc ?_ ?_
  ·have h1:IsX w2 (fun k=>wr.heap.size<=k/\k < w2.heap.size) c x:=hc.mono fun q hq hl=>⟨hq,hl⟩
   have h2:=h1.later U1 (fun q hq hm=>by have:=hge q (by simpa using hm); omega)
   have hs:=h.upd.size
   refine h2.mono (fun q hq _=>⟨by omega,fun e=>?_⟩)
   simp only [own_slice,Option.some.injEq] at e
   subst e
   rcases hat with hat | hat
   ·have:=hge _ hat; omega
   ·simp at hat; omega
  ·refine hall.mono fun a b hab=>?_
   have h1:IsX wr (fun k=>(w.heap.size<=k/\v.ownBlock ≠ some k)/\k < wr.heap.size) a b:=hab.mono fun q hq hl=>⟨hq,hl⟩
   have h2:=h1.later U (fun q hq hm=>hq.1.2 (by simpa using hm))
   exact h2.mono (fun q hq _=>hfr q hq)
 ·have:=(hge k (by simpa using hk)).1
  omega
theorem webSents_any (w:World) (wb:Nat) (H:Hd) (Z:Nat->Prop) (S:WS) (h:WebAt w wb H Z S) (hB:Base S) (hZ:∀ k,Z k->k < w.heap.size) (hsd:S.said.length<=1000) (htag:∀ x ∈ S.said,x.1<=1) :
  Calls Tryz.prog 99 #[.pointer (some ⟨wb,0,none⟩)] w fun e w'=>∃ v cs,e=.returned v/\Upd [] w w'/\w'.ownsRow w.heap.size 101 7 v (sentsX S).length (flat7 cs)/\AllIs (IsX w' (fun k=>w.heap.size<=k/\v.ownBlock ≠ some k)) cs (sentsX S):=by
 obtain ⟨i1,hi1,hy0,hy1,hy2⟩:=info_parts info_readSent
 obtain ⟨w1,hmk,hown1,hgr1⟩:=run_make_own (P:=Tryz.prog) w w.heap.size 163 101 i1 _ 7 Tryz.underlying163 hi1 hy0 hy1 .i64 .i64 S.said.length (by rw [hy2]; omega) (by unfold maxLen; omega) (Nat.le_refl _)
 have U1:Upd [] w w1:=Upd.of_grown hgr1
 obtain ⟨g0,cap0,hv0⟩:=slice_len h.rd
 have c5:=h.c5
 rw [hv0] at c5
 have c5':=(U1.cell (p:=⟨wb,6,none⟩) h.lt (by simp)).trans c5
 have hstart:Senting w w1 wb H Z S (.slice (some ⟨w.heap.size,0,none⟩) 0 S.said.length) 0:=⟨h.later U1 (fun _ _=>by simp),⟨[],hown1,trivial⟩,U1⟩
 have HZ:=hide hZ
 have HP:=hide (fun (W:World) (hu:Upd [] w W) (i:Nat) (hi:i < S.shapes.length)=>webTerm_ok S wb H Z hB S.shapes.length i (by omega) hi W (h.later hu (fun _ _=>by simp)) W (Upd.refl [] W))
 have Hlt:=hide hB.saidLt
 have hcl:=hB.inv.len
 have Hcl:=hide hcl
 have Htag:=hide htag
 have Hrd:=hide h.rd
 have Hv0:=hide hv0
 have hlt:=h.lt
 have HlT:Hid ((sentsX S).length=S.said.length):=by show _=_; simp [sentsX]
 have Hg0:Hid (0 < S.said.length->∃ b,g0=some ⟨b,0,none⟩/\b < w.heap.size/\S.said.length<=cap0/\cap0<=maxLen):=fun hp=>by
  rcases ownsRow_slice h.rd with ⟨_,h2⟩ | ⟨g',cap',h1,h2,h3⟩
  ·omega
  ·have hl:=ownsRow_lt h.rd (k:=g') (by rw [h1]; rfl)
   rw [hv0] at h1
   cases h1
   exact ⟨g',rfl,hl,h2,h3⟩
 clear h hB hown1 hgr1 hv0 hZ hcl htag
 go_enter Tryz.func99,Tryz.ntmps99
 go_wp2
 go_loopw [3,17] (fun v i wr=>∃ j:Nat,j<=S.said.length/\i=.int .i64 j/\Hid (Senting w wr wb H Z S v j)) (fun _ i _=>S.said.length - (intOf i).toNat)
 case atStart=>exact ⟨0,Nat.zero_le _,rfl,hstart⟩
 case round =>
  obtain ⟨j,hj,rfl,HT⟩:=hrel
  clear hstart hmk c5 c5' U1
  by_cases hjn:j < S.said.length
  ·have hjn':(j:Int) < (S.said.length:Int):=by omega
   obtain ⟨b,rfl,hbl,hc1,hc2⟩:=Hg0.out (by omega)
   obtain ⟨x,hx⟩:∃ x,S.said[j]?=some x:=⟨_,List.getElem?_eq_getElem hjn⟩
   have hxm:=List.mem_of_getElem? hx
   obtain ⟨l1,l2⟩:=Hlt.out x hxm
   rw [<- Hcl.out] at l1 l2
   have ht1:=Htag.out x hxm
   have hrd:=Hrd.out
   rw [Hv0.out] at hrd
   obtain ⟨f0,f1,f2⟩:=flatSaid_get hx
   have q0:=(hrd.cellAt (j * 3) (by omega)).trans f0
   have q1:=(hrd.cellAt (j * 3+1) (by omega)).trans f1
   have q2:=(hrd.cellAt (j * 3+2) (by omega)).trans f2
   have k0:=(HT.out.upd.cell (p:=⟨b,j * 3,none⟩) hbl (by simp)).trans q0
   have k1:=(HT.out.upd.cell (p:=⟨b,j * 3+1,none⟩) hbl (by simp)).trans q1
   have k2:=(HT.out.upd.cell (p:=⟨b,j * 3+2,none⟩) hbl (by simp)).trans q2
   obtain ⟨W,hW⟩:∃ W,W=wr.alloc (.cells #[.int .i64 x.1,.int .i64 x.2.1,.int .i64 x.2.2] 134):=⟨_,rfl⟩
   have UW:Upd [] wr W:=hW ▸ (Upd.refl [] wr).alloc _
   have hWsz:wr.heap.size < W.heap.size:=by rw [hW]; simp
   have b0:W.cell? ⟨wr.heap.size,0,none⟩=some (.int .i64 x.1):=by rw [hW]; go_simp
   have b1:W.cell? ⟨wr.heap.size,1,none⟩=some (.int .i64 x.2.1):=by rw [hW]; go_simp
   have b2:W.cell? ⟨wr.heap.size,2,none⟩=some (.int .i64 x.2.2):=by rw [hW]; go_simp
   have Hu0:=hide (HT.out.upd.trans UW)
   have HPl:=hide (fun (W':World) (hu:Upd [] W W')=>HP.out W' (Hu0.out.trans hu) x.2.1 l1)
   have HPr:=hide (fun (W':World) (hu:Upd [] W W')=>HP.out W' (Hu0.out.trans hu) x.2.2 l2)
   have Hst:Hid ((sentsX S)[j]?=some (sentX S x)):=by
    show _=_
    unfold sentsX
    rw [List.getElem?_map,hx]
    rfl
   have Hsg:Hid ((x.1:Int)=signInt (x.1 == 0)):=by
    show _=_
    match x.1,ht1 with
    | 0,_=>rfl
    | 1,_=>rfl
    | n+2,h=>omega
   have HK:=hide (fun (w3:World) (hu3:Upd [] W w3)=>(⟨(hu3.cell (p:=⟨wr.heap.size,0,none⟩) hWsz (by simp)).trans b0,(hu3.cell (p:=⟨wr.heap.size,1,none⟩) hWsz (by simp)).trans b1,(hu3.cell (p:=⟨wr.heap.size,2,none⟩) hWsz (by simp)).trans b2⟩:w3.cell? ⟨wr.heap.size,0,none⟩=some (.int .i64 x.1)/\w3.cell? ⟨wr.heap.size,1,none⟩=some (.int .i64 x.2.1)/\w3.cell? ⟨wr.heap.size,2,none⟩=some (.int .i64 x.2.2)))
   obtain ⟨cs,hrow,hall⟩:=HT.out.row
   have HKg:Hid (∀ (w4 w6:World) (X:Obj),Upd [] W w4->(w4.alloc X).grownBy w6 u3.ownBlock->w6.cell? ⟨wr.heap.size,0,none⟩=some (.int .i64 x.1)/\w6.cell? ⟨wr.heap.size,1,none⟩=some (.int .i64 x.2.1)/\w6.cell? ⟨wr.heap.size,2,none⟩=some (.int .i64 x.2.2)):=fun w4 w6 X hu4 hg=>by
    have U:Upd u3.ownBlock.toList W w6:=((hu4.alloc _).mono (fun x hx _=>by cases hx)).trans (Upd.of_grown hg)
    have hn:wr.heap.size ∉ u3.ownBlock.toList:=fun hm=>by
     have:=ownsRow_lt hrow (by simpa using hm)
     omega
    exact ⟨(U.cell (p:=⟨wr.heap.size,0,none⟩) hWsz hn).trans b0,(U.cell (p:=⟨wr.heap.size,1,none⟩) hWsz hn).trans b1,(U.cell (p:=⟨wr.heap.size,2,none⟩) hWsz hn).trans b2⟩
   have HW:=hide hW
   have HUW:=hide UW
   have Hrow:=hide hrow
   have Hall:=hide hall
   unfold maxLen at hc2
   have hcI:(j:Int) < (cap0:Int):=by omega
   have hlm:j+1<=maxLen:=by unfold maxLen; omega
   have hlb:(j+1) * 104<=140737488355328:=by omega
   have HR:Hid (∀ (w4:World) (X:Obj) (hu:Upd [] W w4),(w4.alloc X).ownsRow w.heap.size 101 7 u3 j (flat7 cs)/\w.heap.size<=(w4.alloc X).heap.size):=fun w4 X hu=>⟨((UW.trans hu).alloc _).ownsRow hrow (fun _ _=>by simp),Nat.le_trans Hu0.out.size (hu.alloc _).size⟩
   clear hx hxm l1 l2 ht1 hrd f0 f1 f2 q0 q1 q2 hW UW Hrd Hv0 Hlt Hcl Htag HP Hg0 hrow hall
   go_upto_region 5 with (fail)
   rw [<- HW.out]
   clear k0 k1 k2
   go_region_held3 (fun w'=>w'.cell? ⟨wr.heap.size,0,none⟩=some (.int .i64 x.1)/\w'.cell? ⟨wr.heap.size,1,none⟩=some (.int .i64 x.2.1)/\w'.cell? ⟨wr.heap.size,2,none⟩=some (.int .i64 x.2.2)) ((first | go_keep | (refine ⟨?_,?_,?_⟩ <;> go_simp)))
    (first
     | (refine step_append_lies _ (by rfl) _ _ 163 (by rfl) w.heap.size 101 i1 (.agg #[.string ⟨#[]⟩,.int .i64 0,.slice none 0 0,.int .i64 0,.string ⟨#[]⟩,.int .i64 0,.slice none 0 0]) 7 104 Tryz.underlying163 hi1 hy0 hy1 hy2 (by rfl) (by decide) u3 j (flat7 cs) (by rfl) hrow4 ⟨w4.heap.size,0,none⟩ 1 1 [.string a2,.int .i64 p2,.slice g2 l2 d2,.int .i64 x.1,.string a5,.int .i64 p5,.slice g5 l5 d5] (by rfl) (by rfl) hnews4 hone (by decide) hlm hlb hbase4 _ (by rfl) ?_; intro g6 cap6 w6 hown6 hgrow6 hat6 hlt6; obtain ⟨x0,x1,x2⟩:=HKg.out w4 w6 _ Hu4.out hgrow6)
     | (go_at_call_of 130 (Value.int .i64 x.2.1); refine (HPl.out _ (Upd.refl [] W).drew).mono ?_; rintro e w3 ⟨a2,p2,g2,l2,d2,rfl,hu3,ht3⟩; have Hu3:=hide ((Upd.refl [] W).drew.trans hu3); have Ht3:=hide ht3; obtain ⟨y0,y1,y2⟩:=HK.out w3 Hu3.out; clear hu3 ht3)
     | (go_at_call_of 130 (Value.int .i64 x.2.2); refine (HPr.out _ Hu3.out).mono ?_; rintro e w4 ⟨a5,p5,g5,l5,d5,rfl,hu4,ht4⟩; have Hu34:=hide hu4; have Ht4:=hide ht4; have Hu4:=hide (Hu3.out.trans hu4); obtain ⟨x0,x1,x2⟩:=HK.out w4 Hu4.out; obtain ⟨hrow4,hbase4⟩:=HR.out w4 (.cells #[.string a2,.int .i64 p2,.slice g2 l2 d2,.int .i64 x.1,.string a5,.int .i64 p5,.slice g5 l5 d5] 101) Hu4.out; have hnews4:=World.news_of_block (heap_alloc_new w4 (.cells #[.string a2,.int .i64 p2,.slice g2 l2 d2,.int .i64 x.1,.string a5,.int .i64 p5,.slice g5 l5 d5] 101)); have hone:∀ u ∈ [Value.string a2,.int .i64 p2,.slice g2 l2 d2,.int .i64 x.1,.string a5,.int .i64 p5,.slice g5 l5 d5],u.oneCell'=true:=(by intro u hu'; simp at hu'; rcases hu' with rfl | rfl | rfl | rfl | rfl | rfl | rfl <;> rfl); clear hu4 ht4))
   go_wp2
   refine ⟨⟨j+1,by omega,by go_num,?_⟩,by simp [intOf]; omega⟩
   have s1:=HUW.out.size
   have s3:=Hu3.out.size
   refine HT.out.next (c:=((.string a2,.int .i64 p2,.slice g2 l2 d2),x.1,(.string a5,.int .i64 p5,.slice g5 l5 d5))) HZ.out Hst.out Hrow.out Hall.out (HUW.out.trans Hu4.out) ⟨?_,Hsg.out,?_⟩ hown6 hgrow6 hat6
   ·exact (Ht3.out.later Hu34.out (fun _ _=>by simp)).mono (fun k hk _=>by simp at hk; omega)
   ·exact Ht4.out.mono (fun k hk _=>by omega)
  ·obtain rfl:j=S.said.length:=by omega
   have hge:¬ ((S.said.length:Nat):Int) < (S.said.length:Int):=by omega
   obtain ⟨cs,hrow,hall⟩:=HT.out.row
   rw [List.take_of_length_le (by rw [HlT.out]; exact Nat.le_refl _)] at hall
   rw [<- HlT.out] at hrow
   have Hrow:=hide hrow
   have Hall:=hide hall
   have Hu:=hide HT.out.upd
   clear HT HP Hg0 Hrd Hv0 hrow hall
   go_wp2
   go_ret
   exact ⟨_,rfl,Hu.out,cs,Hrow.out,Hall.out⟩
def goesOn (J:World->Prop):Exit->Act->World->Prop
 | .normal,_,W'=>J W'
 | .ret,_,_=>False
 | .exit _,_,_=>False
 | .goto _,_,_=>False
 | .panic _,_,_=>False
 | .outgrown,_,_=>False
def Two2 (B:Nat) (A A':World):Prop:=A'.heap[B+1]?=A.heap[B+1]?/\A'.heap[B]?=A.heap[B]?
theorem Two2.of_upd {B:Nat} {L:List Nat} {A A':World} (U:Upd L A A') (h:B+1 < A.heap.size) (h1:B+1 ∉ L) (h0:B ∉ L):Two2 B A A':=⟨U.block _ h h1,U.block _ (by omega) h0⟩
theorem range_law {α:Type} {F:Fence} {n:Nat} {P:Program} {g:Operand} {ps:Array Tmp} {assign body:Code} {Q:Exit->Act->World->Prop} {a:Act} {w:World}
  (hro:F.round=none) (h1:1<=n) {gf:Nat} {lb:Array Value} (hg:a.eval g=.func (.func gf) #[] lb) (hFg:F.fn gf) (eg:∀ args w,(callFunc gf args).run P w=.ok (.enter gf args) w)
  {encs:α->Array Value} {N:Nat} {nth:Nat->α} (RD:World->Prop)
  (hseq:∀ (l:Nat) (J:Nat->World->Prop) (W:World),(∀ k W1,J k W1->RD W1)->(∀ k W1,k < N->J k W1->YieldAt F (n - 1 - 1) P l (encs (nth k)) W1 fun e W'=>e=.returned (.bool true)/\J (k+1) W')->J 0 W ->
   CallsIn F (n - 1) P gf (#[.func (.yield l) #[] #[]]++lb) W fun e W'=>(∃ v,e=.returned v)/\J N W')
  (hps:∀ x,(encs x).size=ps.size)
  (I:Nat->World->Prop) (hRD:∀ k W,I k W->RD W) (hput:∀ k W o,w.heap.size+1 < W.heap.size->I k W->I k (W.putObj (w.heap.size+1) o))
  (h0:∀ o,I 0 ((w.alloc (.deferred (some []))).alloc o))
  (hround:∀ k W,k < N->I k W->w.heap.size+1 < W.heap.size ->
   assign.wpIn (F.inRound (w.heap.size+1)) (n - 1 - 1) P (Exit.then (fun a1 W1=>Two2 w.heap.size W W1/\∀ o,body.wpIn (F.inRound (w.heap.size+1)) (n - 1 - 1) P (goesOn fun W2=>Two2 w.heap.size (W1.putObj (w.heap.size+1) o) W2/\I (k+1) W2) a1 (W1.putObj (w.heap.size+1) o)) (fun _ _ _=>False))
    { tmps:=(ps.zip (encs (nth k))).foldl (fun t (p,v)=>t.setIfInBounds p v) a.tmps,defers:=[] } W)
  (hdone:∀ W,I N W->w.heap.size+1 < W.heap.size->W.heap[w.heap.size]?=some (.deferred (some []))->Q .normal { a with defers:={ target:=.collected w.heap.size,args:=#[] } :: a.defers } W) :
  (Code.rangeFunc g ps assign body).wpIn F n P Q a w:=by
 refine wpIn_rangeFunc ?_
 intro fn hfn
 rw [hro]
 obtain ⟨rec,hrec⟩:∃ rec:LoopState->Option Code->Loop,rec=fun st pe=>{ state:=st,pending:=pe,fn,tmps:=a.tmps,params:=ps,assign,body,defers:=w.heap.size }:=⟨_,rfl⟩
 obtain ⟨W1,hW1⟩:∃ W1,(w.alloc (.deferred (some []))).alloc (.loop (rec .ready none))=W1:=⟨_,rfl⟩
 have hL1:W1.heap[w.heap.size+1]?=some (.loop (rec .ready none)):=by
  rw [<- hW1]
  have:=World.alloc_heap_new (w.alloc (.deferred (some []))) (.loop (rec .ready none))
  rwa [World.size_alloc] at this
 have hK1:W1.heap[w.heap.size]?=some (.deferred (some [])):=by
  rw [<- hW1]
  exact (Below.heap_alloc _ _ _ (by simp)).trans (World.alloc_heap_new w _)
 have hI1:I 0 W1:=by rw [<- hW1]; exact h0 _
 refine ⟨w.heap.size+1,[{ target:=.collected w.heap.size,args:=#[] }],W1,{ target:=.fn (.func gf) lb,args:=#[.func (.yield (w.heap.size+1)) #[] #[]] },W1,gf,#[.func (.yield (w.heap.size+1)) #[] #[]]++lb,W1,?_,?_,?_,?_,fun _=>h1,?_⟩
 ·rw [<- hW1,hrec]
  exact run_enterLoop_outer _ _ _ _ _
 ·simp only [resolve,hg]
  simp [go_sem]
 ·intro f' hf'
  simp [Target.leads] at hf'
  subst hf'
  exact hFg
 ·simp [invoke,go_sem,eg]
 ·refine (hseq (w.heap.size+1) (fun k W=>I k W/\W.heap[w.heap.size+1]?=some (.loop (rec .ready none))/\W.heap[w.heap.size]?=some (.deferred (some []))) W1 (fun k W h=>hRD k W h.1) ?_ ⟨hI1,hL1,hK1⟩).mono ?_
  ·rintro k W hk ⟨hi,hl,hd⟩
   have hlt:w.heap.size+1 < W.heap.size:=(Array.getElem?_eq_some_iff.1 hl).1
   have hy:=run_yield (P:=P) (args:=encs (nth k)) hl (by rw [hrec]; exact hps _)
   rw [hrec] at hy
   refine ⟨fn,_,assign,body,hy,roundIn_of_wpIn hfn (wpIn_mono (hround k W hk hi hlt) ?_)⟩
   rintro e a1 W2 hp
   cases e with
   | normal =>
    obtain ⟨ht,hb⟩:=hp
    have hl2:=ht.1.trans hl
    have hd2:=ht.2.trans hd
    have hlt2:w.heap.size+1 < W2.heap.size:=(Array.getElem?_eq_some_iff.1 hl2).1
    refine ⟨_,run_beginRound hl2 (by rw [hrec]),wpIn_mono (hb _) ?_⟩
    rintro e2 a3 W3 hp3
    cases e2 with
    | normal =>
     obtain ⟨ht3,hi3⟩:=hp3
     have hl3:=ht3.1.trans (World.putObj_heap_same hlt2)
     have hd3:=ht3.2.trans ((World.putObj_heap_other (by omega)).trans hd2)
     have hlt3:w.heap.size+1 < W3.heap.size:=(Array.getElem?_eq_some_iff.1 hl3).1
     have hr:=run_endRound (P:=P) none hl3
     refine ⟨_,_,hr,rfl,hput _ _ _ hlt3 hi3,?_,(World.putObj_heap_other (by omega)).trans hd3⟩
     rw [World.putObj_heap_same hlt3,hrec]
     rfl
    | ret=>exact hp3.elim
    | exit id=>exact hp3.elim
    | goto t=>exact hp3.elim
    | panic ch=>exact hp3.elim
    | outgrown=>exact hp3.elim
   | ret=>exact hp.elim
   | exit id=>exact hp.elim
   | goto t=>exact hp.elim
   | panic ch=>exact hp.elim
   | outgrown=>exact hp.elim
  ·rintro e W2 ⟨⟨v,rfl⟩,hi,hl,hd⟩
   have hlt:w.heap.size+1 < W2.heap.size:=(Array.getElem?_eq_some_iff.1 hl).1
   refine ⟨none,_,by have:=run_endLoop (P:=P) hl (by rw [hrec]; simp); rw [hrec] at this; exact this,hdone _ (hput _ _ _ hlt hi) (by simpa using hlt) ((World.putObj_heap_other (by omega)).trans hd)⟩
attribute [local go_sem] Oper.semAt_some
theorem backward_any (g:Option Addr) (len cap:Nat) (w:World):Calls Tryz.prog 100 #[.slice g len cap] w fun e w'=>e=.returned (.func (.func 131) #[] #[.pointer (some ⟨w.heap.size,0,none⟩)])/\w'=w.alloc (.cells #[.slice g len cap] 163):=by
 go_enter Tryz.func100,Tryz.ntmps100
 go_wp2
 go_ret
 exact ⟨rfl,rfl⟩
def Form7 (c:V7):Prop:=∃ (a:ByteArray) (p:Int) (g:Option Addr) (l d:Nat) (a':ByteArray) (p':Int) (g':Option Addr) (l' d':Nat),c.1=(.string a,.int .i64 p,.slice g l d)/\c.2.2=(.string a',.int .i64 p',.slice g' l' d')
def agg7 (c:V7):Value:=.agg #[c.1.1,c.1.2.1,c.1.2.2,.int .i64 c.2.1,c.2.2.1,c.2.2.2.1,c.2.2.2.2]
structure RowRead (Bs:Nat) (g:Option Addr) (N cap:Nat) (c:Nat->V7) (W:World):Prop where
 box:W.cell? ⟨Bs,0,none⟩=some (.slice g N cap)
 cells:∀ i,i < N->∃ b,g=some ⟨b,0,none⟩/\∀ o,o < 7->W.cell? ⟨b,i * 7+o,none⟩=(v7 (c i))[o]?
theorem backward1_in (F:Fence) (n:Nat) (hfn:F.fn 131) (hro:F.round=none) (hn:1<=n) (l Bs:Nat) (gs:Option Addr) (N cap:Nat) (c:Nat->V7) (hf:∀ i,i < N->Form7 (c i)) (hN:N<=1000) (J:Nat->World->Prop) (W:World)
  (hRD:∀ k W1,J k W1->RowRead Bs gs N cap c W1)
  (hY:∀ k W1,k < N->J k W1->YieldAt F (n - 1) Tryz.prog l #[.int .i64 ((N - 1 - k:Nat):Int),agg7 (c (N - 1 - k))] W1 fun e W'=>e=.returned (.bool true)/\J (k+1) W') (h0:J 0 W) :
  CallsIn F n Tryz.prog 131 (#[.func (.yield l) #[] #[]]++#[.pointer (some ⟨Bs,0,none⟩)]) W fun e W'=>(∃ v,e=.returned v)/\J N W':=by
 have hb0:=(hRD 0 W h0).box
 refine callsIn_of_wp Tryz.func131 rfl hfn ?_ hro
 simp only [Tryz.ntmps131,List.size_toArray,List.length_cons,List.length_nil,Nat.reduceAdd,Nat.reduceSub,Array.replicate_succ,Array.replicate_zero,List.push_toArray,List.append_toArray,List.nil_append,List.cons_append]
 gi_wp2
 clear hb0
 gi_loopw [3] (fun i wr=>∃ j:Nat,j<=N/\i=.int .i64 ((j:Int) - 1)/\J (N - j) wr) (fun i _=>(intOf i+1).toNat)
 case atStart=>exact ⟨N,Nat.le_refl _,rfl,by rw [Nat.sub_self]; exact h0⟩
 case round =>
  obtain ⟨j,hj,rfl,hJ⟩:=hrel
  clear h0
  cases j with
  | zero =>
   gi_wp2
   go_end0
   exact ⟨⟨_,rfl⟩,hJ⟩
  | succ m =>
   have e:(((m+1:Nat):Int) - 1)=(m:Int):=by omega
   rw [e]
   have ek:N - 1 - (N - (m+1))=m:=by omega
   obtain ⟨fn,tmps,assign,body,hy,hR⟩:=hY (N - (m+1)) wr (by omega) hJ
   rw [ek] at hy
   have hrd:=hRD _ _ hJ
   obtain ⟨b,rfl,hcs⟩:=hrd.cells m (by omega)
   obtain ⟨a,p,g,ll,d,a',p',g',ll',d',hc1,hc2⟩:=hf m (by omega)
   generalize c m=q at *
   obtain ⟨q1,k,q3⟩:=q
   simp only at hc1 hc2
   subst hc1 hc2
   have m0:wr.cell? ⟨b,m * 7,none⟩=some (.string a):=hcs 0 (by omega)
   have m1:wr.cell? ⟨b,m * 7+1,none⟩=some (.int .i64 p):=hcs 1 (by omega)
   have m2:wr.cell? ⟨b,m * 7+2,none⟩=some (.slice g ll d):=hcs 2 (by omega)
   have m3:wr.cell? ⟨b,m * 7+3,none⟩=some (.int .i64 k):=hcs 3 (by omega)
   have m4:wr.cell? ⟨b,m * 7+4,none⟩=some (.string a'):=hcs 4 (by omega)
   have m5:wr.cell? ⟨b,m * 7+5,none⟩=some (.int .i64 p'):=hcs 5 (by omega)
   have m6:wr.cell? ⟨b,m * 7+6,none⟩=some (.slice g' ll' d'):=hcs 6 (by omega)
   have hbx:=hrd.box
   unfold agg7 at hy
   simp only at hy
   have hm1:(m:Int) < (N:Int):=by omega
   clear hcs hrd ek e
   gi_wp2
   refine hR.mono ?_
   rintro e W3 ⟨rfl,hJ3⟩
   gi_wp2
   go_roundw
   case rel =>
    refine ⟨m,by omega,by go_num,?_⟩
    have e:N - (m+1)+1=N - m:=by omega
    rw [<- e]
    exact hJ3
   case measure=>simp [intOf]
def revTo (l:List Nat) (i:Nat):List Nat:=(List.range l.length).map fun p=>if p < i\/l.length < p+1+i then l.getD (l.length - 1 - p) 0 else l.getD p 0
theorem revTo_length (l:List Nat) (i:Nat):(revTo l i).length=l.length:=by simp [revTo]
theorem revTo_get (l:List Nat) (i p:Nat) (h:p < l.length):(revTo l i)[p]?=some (if p < i\/l.length < p+1+i then l.getD (l.length - 1 - p) 0 else l.getD p 0):=by
 unfold revTo
 rw [List.getElem?_map,List.getElem?_range h]
 rfl
theorem revTo_zero (l:List Nat):revTo l 0=l:=by
 refine List.ext_getElem? fun p=>?_
 by_cases h:p < l.length
 ·rw [revTo_get l 0 p h,if_neg (by omega),List.getD_eq_getElem?_getD,List.getElem?_eq_getElem h]
  rfl
 ·rw [List.getElem?_eq_none (by rw [revTo_length]; omega),List.getElem?_eq_none (by omega)]
theorem revTo_end (l:List Nat) (i:Nat) (hi:l.length<=2 * i+1):revTo l i=l.reverse:=by
 refine List.ext_getElem? fun p=>?_
 by_cases h:p < l.length
 ·rw [revTo_get l i p h,List.getElem?_reverse h]
  by_cases hc:p < i\/l.length < p+1+i
  ·rw [if_pos hc,List.getD_eq_getElem?_getD,List.getElem?_eq_getElem (by omega)]
   rfl
  ·rw [if_neg hc,List.getD_eq_getElem?_getD]
   have:l.length - 1 - p=p:=by omega
   rw [this,List.getElem?_eq_getElem h]
   rfl
 ·rw [List.getElem?_eq_none (by rw [revTo_length]; omega),List.getElem?_eq_none (by simp; omega)]
theorem revTo_succ (l:List Nat) (i:Nat) (hi:2 * i+1 < l.length):revTo l (i+1)=((revTo l i).set i (l.getD (l.length - 1 - i) 0)).set (l.length - 1 - i) (l.getD i 0):=by
 refine List.ext_getElem? fun p=>?_
 by_cases h:p < l.length
 ·rw [revTo_get l (i+1) p h,List.getElem?_set,List.getElem?_set,List.length_set,revTo_length,revTo_get l i p h]
  by_cases e1:l.length - 1 - i=p
  ·rw [if_pos e1,if_pos (by omega),if_pos (by omega)]
   congr 2
   omega
  ·rw [if_neg e1]
   by_cases e2:i=p
   ·subst e2
    rw [if_pos rfl,if_pos (by omega),if_pos (by omega)]
   ·rw [if_neg e2]
    by_cases hc:p < i\/l.length < p+1+i
    ·rw [if_pos hc,if_pos (by omega)]
    ·rw [if_neg hc,if_neg (by omega)]
 ·rw [List.getElem?_eq_none (by rw [revTo_length]; omega),List.getElem?_eq_none (by simp [revTo_length]; omega)]
theorem revTo_getD (l:List Nat) (i p:Nat) (h1:i<=p) (h2:p+i < l.length):(revTo l i).getD p 0=l.getD p 0:=by
 rw [List.getD_eq_getElem?_getD,revTo_get l i p (by omega),if_neg (by omega)]
 rfl
theorem reverse_any (w:World) (base:Nat) (v:Value) (l:List Nat) (h:w.ownsRow base 3 1 v l.length (intsOf l)) (hl:l.length<=1000) :
  Calls Tryz.prog 101 #[v] w fun e w'=>e=.returned (.tuple #[])/\w'.ownsRow base 3 1 v l.length (intsOf l.reverse)/\Upd v.ownBlock.toList w w':=by
 rcases ownsRow_slice h with ⟨rfl,h0⟩ | ⟨g,cap,rfl,hc,hm⟩
 ·have e:l=[]:=List.eq_nil_of_length_eq_zero h0
  subst e
  have Hh:=hide h
  clear h h0
  go_enter Tryz.func101,Tryz.ntmps101
  go_wp2
  go_loopw [2,3] (fun i j wr=>i=.int .i64 0/\j=.int .i64 (-1)/\wr=w) (fun _ _ _=>0)
  case atStart=>exact ⟨rfl,rfl,rfl⟩
  case round =>
   obtain ⟨rfl,rfl,rfl⟩:=hrel
   go_wp2
   go_end0
   exact ⟨rfl,Hh.out,Upd.refl _ _⟩
 ·have hstart:w.ownsRow base 3 1 (.slice (some ⟨g,0,none⟩) l.length cap) l.length (intsOf (revTo l 0))/\Upd [g] w w:=by rw [revTo_zero]; exact ⟨h,Upd.refl _ _⟩
  unfold maxLen at hm
  clear h
  go_enter Tryz.func101,Tryz.ntmps101
  go_wp2
  go_loopw [2,3] (fun i j wr=>∃ k:Nat,2 * k<=l.length+1/\i=.int .i64 k/\j=.int .i64 ((l.length:Int) - 1 - k)/\Hid (wr.ownsRow base 3 1 (.slice (some ⟨g,0,none⟩) l.length cap) l.length (intsOf (revTo l k))/\Upd [g] w wr)) (fun i _ _=>l.length - (intOf i).toNat)
  case atStart=>exact ⟨0,by omega,rfl,by simp,hstart⟩
  case round =>
   obtain ⟨k,hk,rfl,rfl,HR⟩:=hrel
   clear hstart
   by_cases hlt:2 * k+1 < l.length
   ·obtain ⟨q,hq⟩:∃ q:Nat,l.length - 1 - k=q:=⟨_,rfl⟩
    have e:((l.length:Int) - 1 - (k:Int))=(q:Int):=by omega
    rw [e]
    have hkq:(k:Int) < (q:Int):=by omega
    have hqn:(q:Int) < (l.length:Int):=by omega
    have hkn:(k:Int) < (l.length:Int):=by omega
    obtain ⟨hrow,hupd⟩:=HR.out
    have hlen:=revTo_length l k
    have c1:=row1_cell hrow (i:=k) (by omega)
    have c2:=row1_cell hrow (i:=q) (by omega)
    rw [revTo_getD l k k (Nat.le_refl _) (by omega)] at c1
    rw [revTo_getD l k q (by omega) (by omega)] at c2
    have f1:=hrow.frozenAt k
    have f2:=hrow.frozenAt q
    have hne:k ≠ q:=by omega
    have HN:Hid (((wr.setCell ⟨g,k,none⟩ (.int .i64 (l.getD q 0:Nat))).setCell ⟨g,q,none⟩ (.int .i64 (l.getD k 0:Nat))).ownsRow base 3 1 (.slice (some ⟨g,0,none⟩) l.length cap) l.length (intsOf (revTo l (k+1)))/\Upd [g] w ((wr.setCell ⟨g,k,none⟩ (.int .i64 (l.getD q 0:Nat))).setCell ⟨g,q,none⟩ (.int .i64 (l.getD k 0:Nat)))):=by
     refine ⟨?_,(hupd.setCell (by simp) _).setCell (by simp) _⟩
     rw [revTo_succ l k hlt,hq]
     exact ownsRow_set1 (ownsRow_set1 hrow)
    clear HR hrow hupd e
    generalize l.getD q 0=b at *
    generalize l.getD k 0=a at *
    have hqw:-9223372036854775808<=(q:Int) - 1:=by omega
    go_wp2
    go_region
    all_goals (
     go_wp2
     refine ⟨⟨k+1,by omega,by go_num,by congr 1; omega,?_⟩,by simp [intOf]; omega⟩
     exact ⟨(Upd.refl [] _).drew.ownsRow HN.out.1 (fun _ _=>by simp),HN.out.2.drew⟩)
   ·have hge:¬ (k:Int) < (l.length:Int) - 1 - (k:Int):=by omega
    have HF:Hid (wr.ownsRow base 3 1 (.slice (some ⟨g,0,none⟩) l.length cap) l.length (intsOf l.reverse)):=by
     have:=HR.out.1
     rw [revTo_end l k (by omega)] at this
     exact this
    have HU:=hide HR.out.2
    clear HR
    go_wp2
    go_end0
    exact ⟨rfl,HF.out,HU.out⟩
end Go.Proofs.YtmfkpllnmmfpiaaGreatDoor
