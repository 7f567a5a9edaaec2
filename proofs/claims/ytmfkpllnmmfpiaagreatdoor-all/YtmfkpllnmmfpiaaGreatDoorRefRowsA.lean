/- RefRows -/
import Derived.Test.YtmfkpllnmmfpiaaGreatDoorRefRowsReadA
import Derived.Deep.RegionHeld3
set_option maxHeartbeats 16000000
set_option maxRecDepth 100000
namespace Go.Proofs.YtmfkpllnmmfpiaaGreatDoor
open Go.RowKit
theorem append_emptyR (a:Option Addr) (cap:Nat) (ty:TypeId) (W:World):(Builtin.append_ #[46,46] ty #[.slice none 0 0,.slice a 0 cap]).run Tryz.prog W=.ok (.slice none 0 0) W:=by
 obtain ⟨i0,hi,hz0,hz1,hz2⟩:=info_parts info_apiRow
 cases a with
 | none=>simp [Builtin.append_,run_underlying Tryz.underlying46,sizeOf,typeInfo,hi,Builtin.lenOf,Builtin.firstCells]
 | some a=>simp [Builtin.append_,run_underlying Tryz.underlying46,sizeOf,typeInfo,hi,Builtin.lenOf,Builtin.firstCells,loadCells,loadCellsFrom]
theorem wpList_append_emptyR {w:World} {ops:Array Oper} {rest:List Oper} {o:Oper} {a:Act} {Q:Exit->Act->World->Prop} (hgd:o.guard=none) (s x:Operand)
  (ho:o.op=.call { callee:=.builtin .append,args:=#[s,x],argTypes:=#[46,46] }) (ad:Option Addr) (cap:Nat)
  (hs:a.eval s=.slice none 0 0) (hx:a.eval x=.slice ad 0 cap)
  (h:wpList Tryz.prog ops Q rest (a.put o.dst (.slice none 0 0)) w):wpList Tryz.prog ops Q (o :: rest) a w:=by
 refine wpList_plain hgd fun K hK=>?_
 have hrun:=append_emptyR ad cap o.type w
 unfold Oper.wp
 simp [execOp,ho,resolve,invoke,builtin,hs,hx,hrun,Result.andThen]
 exact hK _ _ h
theorem flat_one {w:World} {xs:List RX} (h:∀ x ∈ xs,IntsAt w x.2 x.1.args):∀ u ∈ flatR xs,u.oneCell'=true:=fun u hu=>by
 unfold flatR at hu
 obtain ⟨x,hx,hm⟩:=List.mem_flatMap.1 hu
 obtain ⟨a,c,e,_⟩:=h x hx
 simp only [encR,e,List.mem_cons,List.not_mem_nil,or_false] at hm
 rcases hm with rfl | rfl | rfl <;> rfl
theorem refRows_any (w0:World) (rb:Nat) (Z:Nat->Prop) (L:List ST) (M:List Nat) (h:RBAt w0 rb Z L M) (hok:∀ x ∈ L,STOK x) (hsm:SmallL L) (hL:L.length<=40) (hcl:clashR L=false) :
  Calls Tryz.prog 73 #[.pointer (some ⟨rb,0,none⟩)] w0 fun e w'=>∃ v xs,e=.returned (.tuple #[v,.int .i64 0])/\Upd [] w0 w'/\RRead w' w0.heap.size v xs/\xs.map (·.1)=rowsD (classesR L) (termsR L) (termsR L).length:=by
 obtain ⟨i0,hi,hz0,hz1,hz2⟩:=info_parts info_apiRow
 obtain ⟨j0,hj0,hy0,hy1,hy2⟩:=info_parts info_int
 obtain ⟨sv,cs,c0,hrow⟩:=h.said
 have HCl:=hide (refClash_any w0 L sv cs (hrow.mono fun k _ hl=>hl) hok (fun s hs=>by have:=hsm s hs; omega) (by omega))
 rw [hcl] at HCl
 have HCs:=hide (fun (w1:World) (U:Upd [] w0 w1)=>refClasses_any w1 rb Z L M (h.later U (fun _ _=>by simp)) hok hsm hL)
 have HD:=hide (fun (w1:World) (U:Upd [] w0 w1)=>refDrawn_any w1 L sv cs ((hrow.later U (fun _ _=>by simp)).mono fun k _ hl=>hl) hok (fun s hs=>by have:=hsm s hs; omega) (by omega))
 have hlen:=termsR_len L (fun s hs=>by have:=hsm s hs; omega)
 have Hdl:=hide (drawnR_len hok)
 have hn1:(termsR L).length<=100000:=by omega
 have HOf:=hide (fun (w:World) (B:Nat) (v:Value) (rs:List Value) (hl:LRead w B v rs (classesR L)) (t:Trm) (ht:t ∈ termsR L)=>ofText_any hok hn1 w B v rs hl ht)
 have Hpf:=hide (fun (nm:ByteArray) (ps:List Trm) (hm:Trm.node nm ps ∈ termsR L)=>parts_few hok hsm hm)
 have Hpt:=hide (termsR_ok hok).1.parts
 obtain ⟨ts,hts⟩:∃ ts,termsR L=ts:=⟨_,rfl⟩
 obtain ⟨ls,hls⟩:∃ ls,classesR L=ls:=⟨_,rfl⟩
 obtain ⟨D,hD⟩:∃ D,drawnR L=D:=⟨_,rfl⟩
 rw [hts,hls] at HOf ⊢
 rw [hts] at HD hlen Hdl Hpf Hpt hn1
 rw [hls] at HCs
 rw [hD] at HD Hdl
 obtain ⟨N,hN⟩:∃ N,ts.length=N:=⟨_,rfl⟩
 have HN:=hide hN
 rw [hN] at hn1
 have hrlt:=h.lt
 clear h hrow hts hls hD hok hsm hN hlen hcl
 go_enter Tryz.func73,Tryz.ntmps73
 go_wp2_with (first
  | (go_at_call 92; refine HCl.out.mono ?_; rintro e w1 ⟨rfl,hu1⟩; have HC1:=hide (HCs.out w1 hu1); have k1:=(hu1.cell (p:=⟨rb,0,none⟩) hrlt (by simp)).trans c0; have HU1:=hide hu1; clear hu1)
  | (go_at_call 65; refine HC1.out.mono ?_; rintro e w2 ⟨cv,crs,rfl,hu2,hl2⟩; have HU2:=hide (HU1.out.trans hu2); have HL2:=hide hl2; have k2:=(HU2.out.cell (p:=⟨rb,0,none⟩) hrlt (by simp)).trans c0; have HD2:=hide (HD.out w2 HU2.out); clear hu2 hl2)
  | (go_at_call 76; refine HD2.out.mono ?_; rintro e w3 ⟨wb,rfl,h3⟩; have H3:=hide h3; clear h3))
 obtain ⟨av,capv,t0,a1,a2,hwb,hrd⟩:=H3.out.reads Hdl.out
 rw [HN.out] at t0 a1 hrd
 have HT0:=hide t0
 have HRd:=hide hrd
 have HU3:=hide (HU2.out.trans H3.out.1)
 have HL3:=hide (HL2.out.later H3.out.1)
 unfold maxLen at a2
 clear c0 HD k1 k2 hrd t0 HD2 HC1 HCs HCl HU1 HL2
 go_loopw [7,8] (fun fv i wr=>∃ j:Nat,j<=N/\i=.int .i64 j/\Hid (Upd [] w3 wr/\∃ xs,RRead wr w3.heap.size fv xs/\xs.map (·.1)=rowsD ls ts j)) (fun _ i _=>N - (intOf i).toNat)
 case atStart=>exact ⟨0,Nat.zero_le _,rfl,Upd.refl _ _,[],⟨⟨rfl,.inl ⟨rfl,rfl⟩⟩,fun x hx=>by cases hx⟩,by simp [rowsD]⟩
 case round =>
  obtain ⟨w4,hw4⟩:∃ w4,w4=wr:=⟨_,rfl⟩
  rw [<- hw4] at hrel ⊢
  clear hw4
  obtain ⟨j,hj,rfl,HJ⟩:=hrel
  have e0:=(HJ.out.1.cell (p:=⟨wb,0,none⟩) hwb (by simp)).trans HT0.out
  by_cases hjn:j < N
  ·have hjI:(j:Int) < (N:Int):=by omega
   obtain ⟨gv,rfl,gl1,hcell⟩:=HRd.out (by omega)
   obtain ⟨t,ht⟩:∃ t,ts[j]?=some t:=⟨_,List.getElem?_eq_getElem (by rw [HN.out]; exact hjn)⟩
   obtain ⟨nm,ps⟩:=t
   obtain ⟨tb,ap,capp,tl,y1,y2,y3,y4,y5,y6,hparts⟩:=hcell j nm ps ht
   have e1:=(HJ.out.1.cell (p:=⟨gv,j,none⟩) gl1 (by simp)).trans y1
   have e2:=(HJ.out.1.cell (p:=⟨tb,0,none⟩) tl (by simp)).trans y2
   have e3:=(HJ.out.1.cell (p:=⟨tb,2,none⟩) tl (by simp)).trans y4
   have htm:=List.mem_of_getElem? ht
   have Hprt:=hide hparts
   have hnp:=Hpf.out nm ps htm
   have HOt:=hide (fun (W:World) (U:Upd [] w3 W)=>HOf.out W _ cv crs (HL3.out.later U) _ htm)
   have HOp:=hide (fun (W:World) (U:Upd [] w3 W) (p:Trm) (hp:p ∈ ps)=>HOf.out W _ cv crs (HL3.out.later U) p (Hpt.out nm ps htm p hp))
   have HUr:=hide HJ.out.1
   have Hy1:=hide y1
   have Hy3:=hide y3
   have HRx:=hide HJ.out.2
   have HSc:=hide (rowsD_succ (ls:=ls) ht)
   obtain ⟨T,hT⟩:∃ T,(Trm.node nm ps).text=T:=⟨_,rfl⟩
   obtain ⟨val,hval⟩:∃ val,ofP ls T=val:=⟨_,rfl⟩
   obtain ⟨np,hnpe⟩:∃ np,ps.length=np:=⟨_,rfl⟩
   have HRT:Hid (rowT ls (.node nm ps)=⟨nm,ps.map (fun p=>ofP ls p.text),val⟩):=by show (⟨nm,ps.map (fun p=>ofP ls p.text),ofP ls (Trm.node nm ps).text⟩:RowP)=_; rw [hT,hval]
   rw [hT,hval] at HOt
   rw [hT] at e3
   rw [hnpe] at hnp Hy3 y5 Hprt
   have Hnp:=hide hnpe
   have l1:wb < w4.heap.size:=Nat.lt_of_lt_of_le hwb HUr.out.size
   have l2:gv < w4.heap.size:=Nat.lt_of_lt_of_le gl1 HUr.out.size
   have l3:tb < w4.heap.size:=Nat.lt_of_lt_of_le tl HUr.out.size
   clear hcell y1 y2 y3 y4 ht htm HJ hparts hT hval hnpe
   go_upto_region 10 with fail
   go_cut [9] (fun p wx=>∃ RB:Nat,p=.pointer (some ⟨RB,0,none⟩)/\Hid (RowB w4 wx RB nm val (.slice none 0 0) []))
   case first =>
    go_region_held3 (fun w'=>w'.cell? ⟨wb,0,none⟩=some (.slice (some ⟨gv,0,none⟩) N capv)/\w'.cell? ⟨gv,j,none⟩=some (.pointer (some ⟨tb,0,none⟩))/\w'.cell? ⟨tb,0,none⟩=some (.string nm)/\w'.cell? ⟨tb,2,none⟩=some (.string T)) ((first | go_keep | (refine ⟨?_,?_,?_,?_⟩ <;> go_simp)))
     ((go_at_call 105; first
      | (refine (HOt.out _ HUr.out.drew).mono ?_; rintro e w5 ⟨rfl,hw5⟩; rw [hw5]; clear hw5 w5)
      | (refine (HOt.out _ (HUr.out.drew.alloc _)).mono ?_; rintro e w5 ⟨rfl,hw5⟩; rw [hw5]; clear hw5 w5)))
    all_goals (
     go_wp2_with fail
     go_meet
     case rel =>
      have U2:=(((Upd.refl [] w4).alloc (.cells #[.string nm,.slice none 0 0,.int .i64 val] 88)).drew)
      exact ⟨w4.heap.size,rfl,⟨by simp,fun o=>by go_simp,by go_simp,by go_simp,by go_simp,⟨rfl,.inl ⟨rfl,rfl⟩⟩,Nat.le_refl _,U2⟩⟩)
   case rest =>
    obtain ⟨RB,rfl,HB⟩:=hcut
    clear e0 e1 e2 e3 HOt
    go_wp2
    go_loopw [10] (fun ix wr=>∃ (q:Nat) (vA:Value),q<=np/\ix=.int .i64 q/\Hid (RowB w4 wr RB nm val vA ((ps.map fun p=>ofP ls p.text).take q))) (fun ix _=>np - (intOf ix).toNat)
    case atStart=>exact ⟨0,_,Nat.zero_le _,rfl,HB⟩
    case round =>
     clear HB
     obtain ⟨w5,hw5⟩:∃ w5,w5=wr:=⟨_,rfl⟩
     rw [<- hw5] at hrel ⊢
     clear hw5
     obtain ⟨q,vA,hq,rfl,HQ⟩:=hrel
     have hal:((ps.map fun p=>ofP ls p.text).take q).length=q:=by rw [List.length_take,List.length_map,Hnp.out]; omega
     obtain ⟨gA,capA,hvA⟩:=slice_len HQ.out.row
     rw [hal] at hvA
     have Hal:=hide hal
     have U35:=HUr.out.trans HQ.out.upd
     have HU35:=hide U35
     have e0:=(U35.cell (p:=⟨wb,0,none⟩) hwb (by simp)).trans HT0.out
     have e1:=(U35.cell (p:=⟨gv,j,none⟩) gl1 (by simp)).trans Hy1.out
     have e2:=(U35.cell (p:=⟨tb,1,none⟩) tl (by simp)).trans Hy3.out
     clear U35 hal
     by_cases hqc:q < np
     ·have hqI:(q:Int) < (np:Int):=by omega
      obtain ⟨gp,rfl,gl2,hpc⟩:=Hprt.out (by omega)
      obtain ⟨p,hp⟩:∃ p,ps[q]?=some p:=⟨_,List.getElem?_eq_getElem (by rw [Hnp.out]; exact hqc)⟩
      obtain ⟨pb,pl,p1,p2⟩:=hpc q p hp
      have e3:=(HU35.out.cell (p:=⟨gp,q,none⟩) gl2 (by simp)).trans p1
      have e4:=(HU35.out.cell (p:=⟨pb,2,none⟩) pl (by simp)).trans p2
      have HOq:=hide (fun (W:World) (U:Upd [] w5 W)=>HOp.out W (HU35.out.trans U) p (List.mem_of_getElem? hp))
      obtain ⟨PT,hPT⟩:∃ PT,p.text=PT:=⟨_,rfl⟩
      obtain ⟨a,ha⟩:∃ a,ofP ls PT=a:=⟨_,rfl⟩
      have HNx:Hid ((ps.map fun p=>ofP ls p.text).take (q+1)=(ps.map fun p=>ofP ls p.text).take q++[a]):=by
       show _=_
       have hlt:q < (ps.map fun p=>ofP ls p.text).length:=by rw [List.length_map,Hnp.out]; exact hqc
       rw [List.take_succ_eq_append_getElem hlt]
       have:(ps.map fun p=>ofP ls p.text)[q]=a:=by
        obtain ⟨_,e⟩:=List.getElem?_eq_some_iff.1 hp
        rw [List.getElem_map,e,hPT,ha]
       rw [this]
      rw [hPT] at e4
      rw [hPT,ha] at HOq
      have z1:=HQ.out.c1
      have zf:=HQ.out.free
      have hRl:=HQ.out.lt
      have m1:wb < w5.heap.size:=Nat.lt_of_lt_of_le hwb HU35.out.size
      have m2:gv < w5.heap.size:=Nat.lt_of_lt_of_le gl1 HU35.out.size
      have m3:tb < w5.heap.size:=Nat.lt_of_lt_of_le tl HU35.out.size
      have m4:gp < w5.heap.size:=Nat.lt_of_lt_of_le gl2 HU35.out.size
      have m5:pb < w5.heap.size:=Nat.lt_of_lt_of_le pl HU35.out.size
      have hrow1:=(((Upd.refl [] w5).alloc (.cells #[.int .i64 a] 3)).drew).ownsRow HQ.out.row (fun _ _=>by simp)
      rw [Hal.out] at hrow1
      have Hrow1:=hide hrow1
      have hnews:Hid (∀ j u,[Value.int .i64 a][j]?=some u->(w5.alloc (.cells #[.int .i64 a] 3)).drew.cell? ((⟨w5.heap.size,0,none⟩:Addr).add j)=some u):=World.news_of_block (heap_alloc_new w5 _)
      have hone:Hid (∀ u ∈ [Value.int .i64 a],u.oneCell'=true):=(fun u hu'=>by simp at hu'; subst hu'; rfl)
      have Hc:Hid (∀ w6,(w5.alloc (.cells #[.int .i64 a] 3)).drew.grownBy w6 vA.ownBlock->w6.cell? ⟨RB,1,none⟩=some vA/\∀ o,w6.frozen? ⟨RB,o,none⟩=false):=fun w6 hg=>HQ.out.grown (((Upd.refl [] w5).alloc _).drew) hg
      have Hfin:Hid (∀ g cap w6,(w5.alloc (.cells #[.int .i64 a] 3)).drew.grownBy w6 vA.ownBlock->(vA.ownBlock=some g\/g=(w5.alloc (.cells #[.int .i64 a] 3)).drew.heap.size)->w6.ownsRow (RB+1) 3 1 (.slice (some ⟨g,0,none⟩) (q+1) cap) (q+1) (intsOf ((ps.map fun p=>ofP ls p.text).take q)++[.int .i64 a])->RowB w4 (w6.setCell ⟨RB,1,none⟩ (.slice (some ⟨g,0,none⟩) (q+1) cap)) RB nm val (.slice (some ⟨g,0,none⟩) (q+1) cap) ((ps.map fun p=>ofP ls p.text).take (q+1))):=fun g cap w6 hg hat hown=>by
       rw [HNx.out]
       have:=HQ.out.next (a:=a) (((Upd.refl [] w5).alloc _).drew) hg hat (by rw [Hal.out]; exact hown)
       rw [Hal.out] at this
       exact this
      have hlm:q+1<=maxLen:=by unfold maxLen; omega
      have hlb:(q+1) * 8<=140737488355328:=by omega
      have hbs:RB+1<=(w5.alloc (.cells #[.int .i64 a] 3)).drew.heap.size:=by simp; omega
      have Hbs:=hide hbs
      clear hpc hp p1 p2 hPT ha hrow1 HQ hbs hvA
      go_upto_region 14 with fail
      have hnRB:RB ≠ w5.heap.size:=by omega
      have y2:=(((Upd.refl [] w5).alloc (.cells #[.int .i64 a] 3)).cell (p:=⟨RB,1,none⟩) hRl (by simp)).trans z1
      go_region_law (first
       | (refine step_append_lies _ (by rfl) _ _ 44 (by rfl) (RB+1) 3 j0 (.int .i64 0) 1 8 Tryz.underlying44 hj0 hy0 hy1 hy2 (by rfl) (by decide) vA q (intsOf ((ps.map fun p=>ofP ls p.text).take q)) (by rfl) Hrow1.out ⟨w5.heap.size,0,none⟩ 1 1 [Value.int .i64 a] (by rfl) (by rfl) hnews.out hone.out (by decide) hlm hlb Hbs.out _ (by rfl) ?_; intro g cap' w6 hown' hgrow hat hlt3; obtain ⟨k0,kf⟩:=Hc.out w6 hgrow)
       | (go_simp; go_at_call 105; refine (HOq.out _ (Upd.refl [] w5).drew).mono ?_; rintro e w6 ⟨rfl,hw6⟩; rw [hw6]; clear hw6 w6))
      all_goals (
       go_wp2
       refine ⟨⟨q+1,_,by omega,by simp,Hfin.out g cap' w6 hgrow hat hown'⟩,?_⟩
       simp [intOf]
       omega)
     ·have hqI:¬ (q:Int) < (np:Int):=by omega
      have hqe:(ps.map fun p=>ofP ls p.text).take q=ps.map fun p=>ofP ls p.text:=List.take_of_length_le (by rw [List.length_map,Hnp.out]; omega)
      rw [hqe] at HQ Hal
      obtain ⟨ag,hag⟩:∃ ag,(ps.map fun p=>ofP ls p.text)=ag:=⟨_,rfl⟩
      rw [hag] at HQ Hal HRT
      subst hvA
      obtain ⟨xs,hR,hxs⟩:=HRx.out
      have hR5:=hR.later HQ.out.upd
      obtain ⟨a,cap,hv,b1,b2,bn,hform⟩:=hR5.form
      obtain ⟨n,hn⟩:∃ n,xs.length=n:=⟨_,rfl⟩
      rw [hn] at hv b1 hform
      subst hv
      have hnl:n<=j:=by
       have h1:=congrArg List.length hxs
       have h2:=rowsD_length ls ts j (by rw [HN.out]; omega)
       rw [List.length_map,hn] at h1
       omega
      have Hnil:=hide bn
      have Hn:=hide hn
      have HRx5:=hide hR5
      have Hxs:=hide hxs
      have Hform:=hide hform
      have HIr:=hide (intsAt_of HQ.out.row)
      have r0:=HQ.out.c0
      have r1:=HQ.out.c1
      have r2:=HQ.out.c2
      have hRl:=HQ.out.lt
      unfold maxLen at b2
      clear hqe hag hR hR5 hn bn hform hxs Hprt HOp HRx hqc
      go_upto_block 4 with fail
      clear e0 e1 e2
      go_cut [11,12] (fun p tw wx=>∃ (at_:Nat) (b:Bool),at_<=n/\p=.int .i64 at_/\tw=.bool b/\Hid (Upd [] w5 wx)/\Hid ((b=true->putRow (xs.map (·.1)) ⟨nm,ag,val⟩=xs.map (·.1))/\(b=false->putRow (xs.map (·.1)) ⟨nm,ag,val⟩=(xs.map (·.1)).take at_++⟨nm,ag,val⟩ :: (xs.map (·.1)).drop at_)))
      case first =>
       go_wp2_with fail
       go_loopw [11,12] (fun p tw wr=>∃ at_:Nat,at_<=n/\p=.int .i64 at_/\tw=.bool false/\Hid (Upd [] w5 wr)/\Hid (∀ q x,q < at_->(xs.map (·.1))[q]?=some x->aheadR x ⟨nm,ag,val⟩=true)) (fun p _ _=>n - (intOf p).toNat)
       case atStart=>exact ⟨0,Nat.zero_le _,rfl,rfl,Upd.refl _ _,fun q x h=>by omega⟩
       case round =>
        obtain ⟨w6,hw6⟩:∃ w6,w6=wr:=⟨_,rfl⟩
        rw [<- hw6] at hrel ⊢
        clear hw6
        obtain ⟨k,hk,rfl,rfl,HU6,HK⟩:=hrel
        by_cases hkn:k < n
        ·have hkI:(k:Int) < (n:Int):=by omega
         obtain ⟨g0,rfl,hg1,hg2⟩:=Hform.out (by omega)
         obtain ⟨x,hx⟩:∃ x,xs[k]?=some x:=⟨_,List.getElem?_eq_getElem (by rw [Hn.out]; exact hkn)⟩
         obtain ⟨f0,f1,f2⟩:=flat_cells hg2 hx
         have hI:=HRx5.out.args x (List.mem_of_getElem? hx)
         obtain ⟨ax,cx,hvx,_⟩:=id hI
         obtain ⟨lx,hlx⟩:∃ lx,x.1.args.length=lx:=⟨_,rfl⟩
         rw [hlx] at hvx
         have q0:=(HU6.out.cell (p:=⟨g0,k * 3,none⟩) hg1 (by simp)).trans f0
         have q1:=(HU6.out.cell (p:=⟨g0,k * 3+1,none⟩) hg1 (by simp)).trans f1
         have q2:=(HU6.out.cell (p:=⟨g0,k * 3+2,none⟩) hg1 (by simp)).trans f2
         have s0:=(HU6.out.cell (p:=⟨RB,0,none⟩) hRl (by simp)).trans r0
         have s1:=(HU6.out.cell (p:=⟨RB,1,none⟩) hRl (by simp)).trans r1
         have s2:=(HU6.out.cell (p:=⟨RB,2,none⟩) hRl (by simp)).trans r2
         rw [hvx] at q1
         have HAh:Hid (Calls Tryz.prog 106 #[.agg #[.string x.1.name,.slice ax lx cx,.int .i64 x.1.value],.agg #[.string nm,.slice gA q capA,.int .i64 val]] w6.drew fun e w'=>e=.returned (.tuple #[.bool (aheadR x.1 ⟨nm,ag,val⟩),.bool (alikeR x.1 ⟨nm,ag,val⟩)])/\Upd [] w6.drew w'):=by
          have:=refAhead_any x.1 ⟨nm,ag,val⟩ x.2 (.slice gA q capA) w6.drew (hI.later HU6.out.drew (fun _ _=>by simp)) (HIr.out.later HU6.out.drew (fun _ _=>by simp))
          rw [hvx] at this
          exact this
         have HLK:Hid (∀ W,Upd [] w6.drew W->W.cell? ⟨g0,k * 3,none⟩=some (.string x.1.name)/\W.cell? ⟨g0,k * 3+1,none⟩=some (.slice ax lx cx)/\W.cell? ⟨g0,k * 3+2,none⟩=some (.int .i64 x.1.value)/\W.cell? ⟨RB,0,none⟩=some (.string nm)/\W.cell? ⟨RB,1,none⟩=some (.slice gA q capA)/\W.cell? ⟨RB,2,none⟩=some (.int .i64 val)):=fun W U=>by
          have UU:=(Upd.refl [] w6).drew.trans U
          have l0:g0 < w6.heap.size:=Nat.lt_of_lt_of_le hg1 HU6.out.size
          have l1:RB < w6.heap.size:=Nat.lt_of_lt_of_le hRl HU6.out.size
          exact ⟨(UU.cell (p:=⟨g0,k * 3,none⟩) l0 (by simp)).trans q0,(UU.cell (p:=⟨g0,k * 3+1,none⟩) l0 (by simp)).trans q1,(UU.cell (p:=⟨g0,k * 3+2,none⟩) l0 (by simp)).trans q2,(UU.cell (p:=⟨RB,0,none⟩) l1 (by simp)).trans s0,(UU.cell (p:=⟨RB,1,none⟩) l1 (by simp)).trans s1,(UU.cell (p:=⟨RB,2,none⟩) l1 (by simp)).trans s2⟩
         have hmx:(xs.map (·.1))[k]?=some x.1:=by rw [List.getElem?_map,hx]; rfl
         have HA1:=hide (fun (e:aheadR x.1 ⟨nm,ag,val⟩=true)=>alike_not e)
         have HNx:Hid (aheadR x.1 ⟨nm,ag,val⟩=true->∀ q y,q < k+1->(xs.map (·.1))[q]?=some y->aheadR y ⟨nm,ag,val⟩=true):=fun e q y hq hy=>by
          by_cases e2:q < k
          ·exact HK.out q y e2 hy
          ·obtain rfl:q=k:=(by omega)
           rw [hmx] at hy
           cases hy
           exact e
         have HTw:Hid (aheadR x.1 ⟨nm,ag,val⟩=false->alikeR x.1 ⟨nm,ag,val⟩=true->putRow (xs.map (·.1)) ⟨nm,ag,val⟩=xs.map (·.1)):=fun e1 e2=>putRow_twice HK.out hmx e1 e2
         have HPt:Hid (aheadR x.1 ⟨nm,ag,val⟩=false->alikeR x.1 ⟨nm,ag,val⟩=false->putRow (xs.map (·.1)) ⟨nm,ag,val⟩=(xs.map (·.1)).take k++⟨nm,ag,val⟩ :: (xs.map (·.1)).drop k):=fun e1 e2=>putRow_at HK.out (.inr ⟨_,hmx,e1⟩) (fun y hy=>by rw [hmx] at hy; cases hy; exact e2)
         obtain ⟨A,hA⟩:∃ A,aheadR x.1 ⟨nm,ag,val⟩=A:=⟨_,rfl⟩
         obtain ⟨E,hE⟩:∃ E,alikeR x.1 ⟨nm,ag,val⟩=E:=⟨_,rfl⟩
         rw [hA,hE] at HAh HTw HPt HA1
         rw [hA] at HNx
         clear hmx hI hvx hlx hA hE f0 f1 f2 hg2 hx
         go_upto_region 18 with fail
         go_region_held3 (fun w'=>w'.cell? ⟨g0,k * 3,none⟩=some (.string x.1.name)/\w'.cell? ⟨g0,k * 3+1,none⟩=some (.slice ax lx cx)/\w'.cell? ⟨g0,k * 3+2,none⟩=some (.int .i64 x.1.value)/\w'.cell? ⟨RB,0,none⟩=some (.string nm)/\w'.cell? ⟨RB,1,none⟩=some (.slice gA q capA)/\w'.cell? ⟨RB,2,none⟩=some (.int .i64 val)) ((first | go_keep | (refine ⟨?_,?_,?_,?_,?_,?_⟩ <;> go_simp)))
          ((go_at_call 106; refine HAh.out.mono ?_; rintro e w7 ⟨rfl,hu7⟩; have Hu7:=hide hu7; obtain ⟨v0,v1,v2,v3,v4,v5⟩:=HLK.out w7 hu7; clear hu7))
         have HU7:=hide ((HU6.out.drew).trans Hu7.out)
         cases A with
         | true =>
          have hE:=HA1.out rfl
          subst hE
          have HN1:=hide (HNx.out rfl)
          clear HA1 HNx HTw HPt
          go_wp2
          refine ⟨⟨k+1,by omega,by simp,rfl,HU7,HN1⟩,?_⟩
          simp [intOf]
          omega
         | false =>
          cases E with
          | true =>
           have HT:=hide (HTw.out rfl rfl)
           clear HA1 HNx HTw HPt
           go_wp2_with fail
           go_meet
           case rel=>exact ⟨k,true,by omega,rfl,rfl,HU7,fun _=>HT.out,fun e=>by cases e⟩
          | false =>
           have HT:=hide (HPt.out rfl rfl)
           clear HA1 HNx HTw HPt
           go_wp2_with fail
           go_meet
           case rel=>exact ⟨k,false,by omega,rfl,rfl,HU7,fun e=>(by cases e),fun _=>HT.out⟩
        ·have hkI:¬ (k:Int) < (n:Int):=by omega
         have HPt:Hid (putRow (xs.map (·.1)) ⟨nm,ag,val⟩=(xs.map (·.1)).take k++⟨nm,ag,val⟩ :: (xs.map (·.1)).drop k):=putRow_at HK.out (.inl (by rw [List.length_map,Hn.out]; omega)) (fun y hy=>by
          have:=(List.getElem?_eq_some_iff.1 hy).1
          rw [List.length_map,Hn.out] at this
          omega)
         go_wp2_with fail
         go_meet
         case rel=>exact ⟨k,false,by omega,rfl,rfl,HU6,fun e=>(by cases e),fun _=>HPt.out⟩
      case rest =>
       obtain ⟨k,b,hk,rfl,rfl,HU6,HP⟩:=hcut
       have HE:Hid (rowsD ls ts (j+1)=putRow (xs.map (·.1)) ⟨nm,ag,val⟩):=by show _=_; rw [HSc.out,HRT.out,Hxs.out]
       have HUall:=hide ((HUr.out.trans HQ.out.upd).trans HU6.out)
       have HRx6:=hide (HRx5.out.later HU6.out)
       have s0:=(HU6.out.cell (p:=⟨RB,0,none⟩) hRl (by simp)).trans r0
       have s1:=(HU6.out.cell (p:=⟨RB,1,none⟩) hRl (by simp)).trans r1
       have s2:=(HU6.out.cell (p:=⟨RB,2,none⟩) hRl (by simp)).trans r2
       have hRl6:RB < wc.heap.size:=Nat.lt_of_lt_of_le hRl HU6.out.size
       have HIr6:=hide (HIr.out.later HU6.out (fun _ _=>by simp))
       have Hform6:Hid (0 < n->∃ g,a=some ⟨g,0,none⟩/\g < wc.heap.size/\∀ q u,(flatR xs)[q]?=some u->wc.cell? ⟨g,q,none⟩=some u):=fun h0=>by
        obtain ⟨g,h1,h2,h3⟩:=Hform.out h0
        exact ⟨g,h1,Nat.lt_of_lt_of_le h2 HU6.out.size,fun q u hu=>(HU6.out.cell (p:=⟨g,q,none⟩) h2 (by simp)).trans (h3 q u hu)⟩
       clear r0 r1 r2 HQ HRx5 HIr Hform HU6
       cases b with
       | true =>
        have HE2:=HP.out.1 rfl
        go_wp2
        refine ⟨⟨j+1,by omega,by simp,HUall.out,xs,HRx6.out,by rw [HE.out,HE2]⟩,?_⟩
        simp [intOf]
        omega
       | false =>
        have HE2:Hid (rowsD ls ts (j+1)=(xs.take k++(⟨nm,ag,val⟩,.slice gA q capA) :: xs.drop k).map (·.1)):=by
         show _=_
         rw [HE.out,HP.out.2 rfl,List.map_append,List.map_cons,List.map_take,List.map_drop]
        have Hfin:Hid (∀ w9 v9,Upd [] wc w9->w9.ownsRow wc.heap.size 88 3 v9 (n+1) (flatR (xs.take k++(⟨nm,ag,val⟩,.slice gA q capA) :: xs.drop k))->Upd [] w3 w9/\∃ xs,RRead w9 w3.heap.size v9 xs/\xs.map (·.1)=rowsD ls ts (j+1)):=fun w9 v9 hu ho=>by
         have hs:=HUall.out.size
         refine ⟨HUall.out.trans hu,_,⟨?_,fun x hx=>?_⟩,HE2.out.symm⟩
         ·have hl:(xs.take k++(⟨nm,ag,val⟩,Value.slice gA q capA) :: xs.drop k).length=n+1:=by
           have:=Hn.out
           simp only [List.length_append,List.length_take,List.length_cons,List.length_drop]
           omega
          rw [hl]
          exact ownsRow_base ho fun b hb=>by have:=own_geT ho hb; omega
         ·rcases List.mem_append.1 hx with hx | hx
          ·exact (HRx6.out.args x (List.mem_of_mem_take hx)).later hu (fun _ _=>by simp)
          ·rcases List.mem_cons.1 hx with rfl | hx
           ·exact HIr6.out.later hu (fun _ _=>by simp)
           ·exact (HRx6.out.args x (List.mem_of_mem_drop hx)).later hu (fun _ _=>by simp)
        have hkl:(flatR (xs.take k)).length=k * 3:=by rw [flatR_length,List.length_take,Hn.out]; congr 1; omega
        have Hkl:=hide hkl
        have Hone:Hid (∀ u ∈ flatR xs,u.oneCell'=true):=flat_one HRx6.out.args
        obtain ⟨w6,hw6⟩:∃ w6,w6=wc:=⟨_,rfl⟩
        rw [<- hw6] at HUall HRx6 HIr6 Hform6 Hfin s0 s1 s2 hRl6 ⊢
        clear hw6 hkl HE HP HE2 wc
        go_upto_region 24 with fail
        go_cut [15] (fun mv wx=>Hid (wx.ownsRow w6.heap.size 88 3 mv k (flatR (xs.take k))/\Upd [] w6 wx))
        case first =>
         by_cases hk0:k=0
         ·subst hk0
          go_wp2_with (at_builtin; refine wpList_append_emptyR rfl _ _ rfl _ _ rfl rfl ?_)
          go_meet
          case rel=>exact ⟨⟨rfl,.inl ⟨rfl,rfl⟩⟩,Upd.refl _ _⟩
         ·have hpos:0 < k:=by omega
          obtain ⟨g0,rfl,hg1,hg3⟩:=Hform6.out (by omega)
          have hnews0:Hid (∀ q u,(flatR (xs.take k))[q]?=some u->w6.cell? ((⟨g0,0,none⟩:Addr).add q)=some u):=fun q u hu=>by
           have hq:=(List.getElem?_eq_some_iff.1 hu).1
           rw [Hkl.out] at hq
           rw [flatR_take,List.getElem?_take_of_lt hq] at hu
           have:=hg3 q u hu
           cases q <;> simpa [Addr.add] using this
          have hone0:Hid (∀ u ∈ flatR (xs.take k),u.oneCell'=true):=fun u hu=>Hone.out u (by rw [flatR_take] at hu; exact List.mem_of_mem_take hu)
          have Hrow0:Hid (w6.ownsRow w6.heap.size 88 3 (.slice none 0 0) 0 []):=⟨rfl,.inl ⟨rfl,rfl⟩⟩
          have hlm0:0+k<=maxLen:=by unfold maxLen; omega
          have hlb0:(0+k) * 48<=140737488355328:=by omega
          have hcap0:¬ cap=0:=by omega
          have hkI:(k:Int)<=(n:Int):=by omega
          clear hg3 hg1
          go_wp2_with (at_builtin; go_must (refine wpList_append_lies _ rfl _ _ 46 rfl w6.heap.size 88 i0 (.agg #[.string ⟨#[]⟩,.slice none 0 0,.int .i64 0]) 3 48 Tryz.underlying46 hi hz0 hz1 hz2 rfl (by decide) _ _ _ rfl Hrow0.out ⟨g0,0,none⟩ k cap (flatR (xs.take k)) rfl Hkl.out hnews0.out hone0.out hpos hlm0 hlb0 (Nat.le_refl _) _ rfl ?_); intro g1 cap1 w1 hown1 hgrow1 hat1 hlt1)
          go_meet
          case rel =>
           refine ⟨?_,Upd.of_grown hgrow1⟩
           simpa using hown1
        case rest =>
         obtain ⟨hown,hU⟩:=hcut.out
         have hs3:=hU.size
         have v0:=(hU.cell (p:=⟨RB,0,none⟩) hRl6 (by simp)).trans s0
         have v1:=(hU.cell (p:=⟨RB,1,none⟩) hRl6 (by simp)).trans s1
         have v2:=(hU.cell (p:=⟨RB,2,none⟩) hRl6 (by simp)).trans s2
         have hrw:=((Upd.refl [] wc).alloc (.cells #[.string nm,.slice gA q capA,.int .i64 val] 88)).ownsRow hown (fun _ _=>by simp)
         have Hrw:=hide hrw
         have Hnews:Hid (∀ q' u,[Value.string nm,.slice gA q capA,.int .i64 val][q']?=some u->(wc.alloc (.cells #[.string nm,.slice gA q capA,.int .i64 val] 88)).cell? ((⟨wc.heap.size,0,none⟩:Addr).add q')=some u):=World.news_of_block (heap_alloc_new _ _)
         have hone:Hid (∀ u ∈ [Value.string nm,.slice gA q capA,.int .i64 val],u.oneCell'=true):=fun u hu'=>by simp at hu'; rcases hu' with rfl | rfl | rfl <;> rfl
         have Hf3:Hid (∀ g cp w7,(wc.alloc (.cells #[.string nm,.slice gA q capA,.int .i64 val] 88)).grownBy w7 u15.ownBlock->w7.ownsRow w6.heap.size 88 3 (.slice (some ⟨g,0,none⟩) (k+1) cp) (k+1) (flatR (xs.take k)++[.string nm,.slice gA q capA,.int .i64 val])->Upd [] w6 w7):=fun g cp w7 hg ho=>by
          refine (hU.alloc _).trans' (Upd.of_grown hg) (fun b hb hl=>?_)
          have:=own_geT hown (show u15.ownBlock=some b by simpa using hb)
          omega
         have hlm:k+1<=maxLen:=by unfold maxLen; omega
         have hlb:(k+1) * 48<=140737488355328:=by omega
         clear hcut hrw hU hown s0 s1 s2
         go_upto_region 26 with (at_builtin; go_must (refine wpList_append_lies _ rfl _ _ 46 rfl w6.heap.size 88 i0 (.agg #[.string ⟨#[]⟩,.slice none 0 0,.int .i64 0]) 3 48 Tryz.underlying46 hi hz0 hz1 hz2 rfl (by decide) _ _ _ rfl Hrw.out ⟨wc.heap.size,0,none⟩ 1 1 [.string nm,.slice gA q capA,.int .i64 val] rfl rfl Hnews.out hone.out (by decide) hlm hlb (by simp; omega) _ rfl ?_); intro g3 cap3 w7 hown3 hgrow3 hat3 hlt3)
         have Hu3:=hide (Hf3.out g3 cap3 w7 hgrow3 hown3)
         have Ho3:=hide hown3
         have hk3:k+1<=cap3:=by
          rcases ownsRow_slice hown3 with ⟨x,_⟩ | ⟨_,_,x,y,_⟩
          ·cases x
          ·cases x; exact y
         clear hown3 hgrow3 hat3 hlt3 Hf3 Hrw Hnews hone v0 v1 v2
         have HFl:Hid (flatR (xs.take k++(⟨nm,ag,val⟩,.slice gA q capA) :: xs.drop k)=flatR (xs.take k)++[.string nm,.slice gA q capA,.int .i64 val]++flatR (xs.drop k)):=by
          show _=_
          rw [flatR_append,show ((⟨nm,ag,val⟩,Value.slice gA q capA) :: xs.drop k:List RX)=[(⟨nm,ag,val⟩,Value.slice gA q capA)]++xs.drop k from rfl,flatR_append,List.append_assoc]
          rfl
         by_cases hkn:k < n
         ·obtain ⟨g0,rfl,hg1,hg3⟩:=Hform6.out (by omega)
          have hdl:Hid ((flatR (xs.drop k)).length=(n - k) * 3):=by show _=_; rw [flatR_length,List.length_drop,Hn.out]
          have hnews0:Hid (∀ q' u,(flatR (xs.drop k))[q']?=some u->w7.cell? ((⟨g0,k * 3,none⟩:Addr).add q')=some u):=fun q' u hu=>by
           rw [flatR_drop,List.getElem?_drop] at hu
           have:=(Hu3.out.cell (p:=⟨g0,k * 3+q',none⟩) hg1 (by simp)).trans (hg3 _ u hu)
           cases q' <;> simpa [Addr.add] using this
          have hone0:Hid (∀ u ∈ flatR (xs.drop k),u.oneCell'=true):=fun u hu=>Hone.out u (by rw [flatR_drop] at hu; exact List.mem_of_mem_drop hu)
          have hlm0:k+1+(n - k)<=maxLen:=by unfold maxLen; omega
          have hlb0:(k+1+(n - k)) * 48<=140737488355328:=by omega
          have hcj:¬ cap=k:=by omega
          have hpos:0 < n - k:=by omega
          have hs03:=Hu3.out.size
          have hkI:(k:Int)<=(n:Int):=by omega
          have HR:Hid (∀ g cp w8,w7.grownBy w8 (some g3)->w8.ownsRow w6.heap.size 88 3 (.slice (some ⟨g,0,none⟩) (k+1+(n - k)) cp) (k+1+(n - k)) (flatR (xs.take k)++[.string nm,.slice gA q capA,.int .i64 val]++flatR (xs.drop k))->Upd [] w3 w8/\∃ xs,RRead w8 w3.heap.size (.slice (some ⟨g,0,none⟩) (k+1+(n - k)) cp) xs/\xs.map (·.1)=rowsD ls ts (j+1)):=fun g cp w8 hg ho=>by
           refine Hfin.out w8 _ (Hu3.out.trans' (Upd.of_grown hg) (fun b hb hl=>?_)) ?_
           ·have:=own_geT Ho3.out (show (Value.slice (some ⟨g3,0,none⟩) (k+1) cap3).ownBlock=some b by simp at hb; rw [hb]; rfl)
            omega
           ·rw [HFl.out,show n+1=k+1+(n - k) by omega]
            exact ho
          clear hg3 hg1
          go_wp2_with (at_builtin; go_must (refine wpList_append_lies _ rfl _ _ 46 rfl w6.heap.size 88 i0 (.agg #[.string ⟨#[]⟩,.slice none 0 0,.int .i64 0]) 3 48 Tryz.underlying46 hi hz0 hz1 hz2 rfl (by decide) _ _ _ rfl Ho3.out ⟨g0,k * 3,none⟩ (n - k) (cap - k) (flatR (xs.drop k)) rfl hdl.out hnews0.out hone0.out hpos hlm0 hlb0 (by omega) _ rfl ?_); intro g4 cap4 w8 hown4 hgrow4 hat4 hlt4)
          refine ⟨⟨j+1,by omega,by simp,HR.out g4 cap4 w8 hgrow4 hown4⟩,?_⟩
          simp [intOf]
          omega
         ·have hkn2:k=n:=by omega
          have hdl:flatR (xs.drop k)=[]:=by rw [List.drop_eq_nil_of_le (by rw [Hn.out]; omega)]; rfl
          have HR:Hid (∀ w8,w7.grownBy w8 (some g3)->w8.ownsRow w6.heap.size 88 3 (.slice (some ⟨g3,0,none⟩) (k+1+0) cap3) (k+1+0) (flatR (xs.take k)++[.string nm,.slice gA q capA,.int .i64 val]++[])->Upd [] w3 w8/\∃ xs,RRead w8 w3.heap.size (.slice (some ⟨g3,0,none⟩) (k+1) cap3) xs/\xs.map (·.1)=rowsD ls ts (j+1)):=fun w8 hg ho=>by
           have h1:=Hu3.out.size
           refine Hfin.out w8 _ (Hu3.out.trans' (Upd.of_grown hg) (fun b hb hl=>?_)) ?_
           ·have:=own_geT Ho3.out (show (Value.slice (some ⟨g3,0,none⟩) (k+1) cap3).ownBlock=some b by simp at hb; rw [hb]; rfl)
            omega
           ·rw [HFl.out,hdl,<- hkn2]
            simpa using ho
          have HnA:Hid (a=none->0=0/\cap - k=0):=fun e=>by have:=Hnil.out e; omega
          have HnB:Hid (a.map (fun x=>x.add (k * 3))=none->0=0/\cap - k=0):=fun e=>by have:=Hnil.out (by simpa using e); omega
          subst hkn2
          clear hdl hkn
          by_cases hcj:cap=k
          ·go_wp2_with (at_builtin; go_must (refine wpList_append_fits_any _ rfl _ _ 46 rfl w6.heap.size 88 i0 3 Tryz.underlying46 hi hz1 g3 (k+1) cap3 (flatR (xs.take k)++[.string nm,.slice gA q capA,.int .i64 val]) rfl Ho3.out _ 0 _ [] rfl rfl (by first | exact HnA.out | (rw [<- hcj]; simp) | simp) (fun _ _ q u hu=>by simp at hu) (fun u hu=>by cases hu) hk3 ?_); intro w8 hown4 hgrow4)
           refine ⟨⟨j+1,by omega,by simp,HR.out w8 hgrow4 hown4⟩,?_⟩
           simp [intOf]
           omega
          ·go_wp2_with (at_builtin; go_must (refine wpList_append_fits_any _ rfl _ _ 46 rfl w6.heap.size 88 i0 3 Tryz.underlying46 hi hz1 g3 (k+1) cap3 (flatR (xs.take k)++[.string nm,.slice gA q capA,.int .i64 val]) rfl Ho3.out _ 0 _ [] rfl rfl HnB.out (fun _ _ q u hu=>by simp at hu) (fun u hu=>by cases hu) hk3 ?_); intro w8 hown4 hgrow4)
           refine ⟨⟨j+1,by omega,by simp,HR.out w8 hgrow4 hown4⟩,?_⟩
           simp [intOf]
           omega
  ·have hjI:¬ (j:Int) < (N:Int):=by omega
   obtain ⟨hU,xs,hR,hxs⟩:=HJ.out
   have hje:j=N:=by omega
   rw [hje] at hxs
   have HF:Hid (Upd [] w0 w4/\RRead w4 w0.heap.size u7 xs/\xs.map (·.1)=rowsD ls ts ts.length):=by
    have hs:=HU3.out.size
    exact ⟨HU3.out.trans hU,⟨ownsRow_base hR.row fun b hb=>by have:=own_geT hR.row hb; omega,hR.args⟩,by rw [HN.out]; exact hxs⟩
   clear hje hU hR hxs HJ
   go_wp2
   go_ret2
   exact ⟨_,rfl,HF.out.1,xs,HF.out.2⟩
theorem refRows_clash (w0:World) (rb:Nat) (Z:Nat->Prop) (L:List ST) (M:List Nat) (h:RBAt w0 rb Z L M) (hok:∀ x ∈ L,STOK x) (hsm:SmallL L) (hL:L.length<=40) (hcl:clashR L=true) :
  Calls Tryz.prog 73 #[.pointer (some ⟨rb,0,none⟩)] w0 fun e w'=>e=.returned (.tuple #[.slice none 0 0,.int .i64 6])/\Upd [] w0 w':=by
 obtain ⟨sv,cs,c0,hrow⟩:=h.said
 have HCl:=hide (refClash_any w0 L sv cs (hrow.mono fun k _ hl=>hl) hok (fun s hs=>by have:=hsm s hs; omega) (by omega))
 rw [hcl] at HCl
 clear h hrow hok hsm hcl
 go_enter Tryz.func73,Tryz.ntmps73
 go_wp2_with (go_at_call 92; refine HCl.out.mono ?_; rintro e w1 ⟨rfl,hu1⟩; have HU1:=hide hu1; clear hu1)
 go_ret2
 exact ⟨rfl,HU1.out⟩
end Go.Proofs.YtmfkpllnmmfpiaaGreatDoor
