/- RowWalk, RowLin, SortLayR, RowSort, RowComp -/
import Derived.Test.YtmfkpllnmmfpiaaGreatDoorAllRoomA
import Derived.Test.YtmfkpllnmmfpiaaGreatDoorRefHoldA
import Derived.Deep.CutBlock
import Derived.Test.YtmfkpllnmmfpiaaGreatDoorRowCmpA
import Derived.Shelf.SlSortCmp.WholeK
import Derived.Ground.SlsfProg
import Derived.Test.YtmfkpllnmmfpiaaGreatDoorProg
import Derived.Laws.IdiomCopy
set_option maxHeartbeats 16000000
set_option maxRecDepth 100000
namespace Go.Proofs.YtmfkpllnmmfpiaaGreatDoor
open Go.RowKit Go.Shelf Go.Sort
def Built (w wr:World) (v:Value) (S:WS) (pl:List Nat):Prop:=∃ w3 xs,Upd [] w w3/\Rowing w3 wr v xs/\xs.map (·.1)=rowsTo S pl S.shapes.length
def placesOf (S:WS):List Nat:=placesTo S (sortedT S) (sortedT S).length
theorem webWorld_any (w:World) (wb:Nat) (H:Hd) (Z:Nat->Prop) (S:WS) (h:WebAt w wb H Z S) (hB:Base S) (hZ:∀ k,Z k->k < w.heap.size) (hn:S.shapes.length<=1000) (hsm:∀ g j,(plainF S g j).length<=1000) (R:World->Value->World->Prop)
  (hSort:∀ (wr:World) (g cap:Nat),Built w wr (.slice (some ⟨g,0,none⟩) S.shapes.length cap) S (placesOf S)->Calls Tryz.prog 84 #[.slice (some ⟨g,0,none⟩) S.shapes.length cap,.func (.func 85) #[] #[]] wr fun e w'=>e=.returned (.tuple #[])/\R wr (.slice (some ⟨g,0,none⟩) S.shapes.length cap) w')
  (Q:World->Value->World->Prop)
  (hComp:∀ (wr w':World) (v:Value),R wr v w'->Built w wr v S (placesOf S)->Calls Tryz.prog 86 #[v,.func (.func 87) #[] #[]] w' fun e w''=>∃ v',e=.returned v'/\Q wr v' w'') :
  Calls Tryz.prog 46 #[.pointer (some ⟨wb,0,none⟩)] w fun e w'=>∃ v' wr,e=.returned v'/\Q wr v' w':=by
 obtain ⟨i0,hi,hz0,hz1,hz2⟩:=info_parts info_apiRow
 obtain ⟨j0,hj0,hy0,hy1,hy2⟩:=info_parts info_int
 have HT:=hide (byText_any w wb H Z S h hB hZ hn hsm)
 have HP:=hide (fun (w1:World) (v:Value) (hu:Upd [] w w1) (ht:TextsAt w1 w.heap.size v (sortedT S))=>places_any w1 wb w.heap.size H Z S v (sortedT S) (h.later hu (fun _ _=>by simp)) hB.inv (fun k hk=>Nat.lt_of_lt_of_le (hZ k hk) hu.size) ht (sortedT_nums S).2 (sortedT_length S) hn)
 rw [sortedT_length] at HP
 obtain ⟨pl,hpl⟩:∃ pl,placesTo S (sortedT S) S.shapes.length=pl:=⟨_,rfl⟩
 have hplo:placesOf S=pl:=by unfold placesOf; rw [sortedT_length]; exact hpl
 rw [hpl] at HP
 rw [hplo] at hSort hComp
 have hpll:pl.length=S.shapes.length:=by rw [<- hpl,placesTo_length,sortedT_length]
 have HSort:=hide hSort
 have HComp:=hide hComp
 obtain ⟨n,hnn⟩:∃ n,S.shapes.length=n:=⟨_,rfl⟩
 have hrs:=h.rs
 obtain ⟨gs,cap,hd,hcap,hmax,hgs⟩:∃ g cap,H.shapes=.slice g S.shapes.length cap/\S.shapes.length<=cap/\cap<=maxLen/\(0 < S.shapes.length->∃ b,g=some ⟨b,0,none⟩):=by
  rcases ownsRow_slice hrs with ⟨h1,h2⟩ | ⟨g,cap,h1,h2,h3⟩
  ·exact ⟨none,0,by rw [h1,h2],by omega,by simp [maxLen],fun e=>by omega⟩
  ·exact ⟨_,cap,h1,h2,h3,fun _=>⟨g,rfl⟩⟩
 have c1:=h.c1
 rw [hd] at c1 hrs
 have Hrs:=hide hrs
 have Hgood:=hide hB.good
 rw [hnn] at hcap c1 hgs hn HSort HP hpll
 have Hn:=hide hnn
 have HC1:=hide c1
 have hwlt:=h.lt
 have Hgs:=hide hgs
 have Hpll:=hide hpll
 unfold maxLen at hmax
 clear h hB hZ hsm hSort hComp hpl hplo hrs c1 hgs hnn hd hpll
 go_enter Tryz.func46,Tryz.ntmps46
 go_upto_region 2 with (first
  | (go_at_call 83; refine HT.out.mono ?_; rintro e w1 ⟨v1,rfl,hu1,ht1⟩; have HP1:=hide (HP.out w1 v1 hu1 ht1); have HU1:=hide hu1; clear hu1 ht1)
  | (go_at_call 82; refine HP1.out.mono ?_; rintro e w2 ⟨P,rfl,hu2,hr2⟩; have HU2:=hide hu2; have HR2:=hide hr2; clear hu2 hr2))
 have hU:=HU1.out.trans HU2.out
 have c2:=(hU.cell (p:=⟨wb,2,none⟩) hwlt (by simp)).trans HC1.out
 obtain ⟨w3,hmk,hown3,hgr3⟩:=run_make_own (P:=Tryz.prog) w2 w2.heap.size 46 88 i0 _ 3 Tryz.underlying46 hi hz0 hz1 .i64 .i64 n (by rw [hz2]; omega) (by unfold maxLen; omega) (Nat.le_refl _)
 have U3:Upd [] w2 w3:=Upd.of_grown hgr3
 have hU3:=hU.trans U3
 have c3:=(hU3.cell (p:=⟨wb,2,none⟩) hwlt (by simp)).trans HC1.out
 have HU3:=hide hU3
 have HU23:=hide U3
 have hstart:Rowing w2 w3 (.slice (some ⟨w2.heap.size,0,none⟩) 0 n) []:=⟨hown3,fun i x hx=>by simp at hx,fun i x hx=>by simp at hx,fun i j x y hx=>by simp at hx,U3,by simp [own_slice]⟩
 have HUw2:=hide hU
 have Hst:=hide hstart
 clear hgr3 hown3 U3 hU hU3 hstart HT HP HP1
 go_wp2
 clear hmk c2 c3
 go_loopw [4,25] (fun v i wr=>∃ j:Nat,j<=n/\i=.int .i64 j/\Hid (∃ xs,Rowing w2 wr v xs/\xs.map (·.1)=rowsTo S pl j)) (fun _ i _=>n - (intOf i).toNat)
 case atStart=>exact ⟨0,Nat.zero_le _,rfl,[],Hst.out,rfl⟩
 case round =>
  clear Hst
  obtain ⟨w4,hw4⟩:∃ w4,w4=wr:=⟨_,rfl⟩
  rw [<- hw4] at hrel ⊢
  clear hw4
  obtain ⟨j,hj,rfl,HJ⟩:=hrel
  by_cases hjn:j < n
  ·have hjI:(j:Int) < (n:Int):=by omega
   obtain ⟨xs,hR,hxs⟩:=HJ.out
   have hxl:xs.length=j:=by have:=congrArg List.length hxs; simpa [rowsTo] using this
   obtain ⟨gb,rfl⟩:=Hgs.out (by omega)
   have hsh:=shapeAt_some (S:=S) (i:=j) (by rw [Hn.out]; exact hjn)
   have hgd:=Hgood.out j _ hsh
   obtain ⟨k0,k1,k2,k3,k4⟩:=row5_cells Hrs.out hsh
   have hgl:gb < w.heap.size:=ownsRow_lt Hrs.out rfl
   have hUw:=HUw2.out.trans hR.upd
   have q0:=(hUw.cell (p:=⟨gb,j * 5,none⟩) hgl (by simp)).trans k0
   have q1:=(hUw.cell (p:=⟨gb,j * 5+1,none⟩) hgl (by simp)).trans k1
   have q2:=(hUw.cell (p:=⟨gb,j * 5+2,none⟩) hgl (by simp)).trans k2
   have q3:=(hUw.cell (p:=⟨gb,j * 5+3,none⟩) hgl (by simp)).trans k3
   have q4:=(hUw.cell (p:=⟨gb,j * 5+4,none⟩) hgl (by simp)).trans k4
   have hPlt:P < w2.heap.size:=ownsRow_lt HR2.out rfl
   have HPl:Hid (∀ wr,Upd [] w2 wr->∀ i,i < n->wr.cell? ⟨P,i,none⟩=some (.int .i64 (pl.getD i 0))):=fun wr hu i hi=>by
    rw [hu.cell (p:=⟨P,i,none⟩) hPlt (by simp),HR2.out.cellAt i (by omega)]
    have:i < pl.length:=by rw [Hpll.out]; exact hi
    rw [List.getD_eq_getElem?_getD]
    simp [intsOf,List.getElem?_eq_getElem this]
   have p0:=HPl.out w4 hR.upd j hjn
   have HRo:Hid (rowOf S pl j=⟨(shapeAt S j).1,(partsL (shapeAt S j)).map fun k=>pl.getD k 0,pl.getD j 0⟩):=rfl
   have hcnt:=hgd.count
   have Hpart:=hide hgd.part
   obtain ⟨val,hval⟩:∃ val,pl.getD j 0=val:=⟨_,rfl⟩
   rw [hval] at p0 HRo
   have HRx:=hide hR
   have Hxs:=hide hxs
   have Hxl:=hide hxl
   clear hval hsh hgd k0 k1 k2 k3 k4 hUw hR hxs hxl HJ
   generalize shapeAt S j=s at *
   have hc3:(s.2.1:Int)<=3:=by omega
   have hP4:P < w4.heap.size:=Nat.lt_of_lt_of_le hPlt HRx.out.upd.size
   go_upto_region 6 with fail
   obtain ⟨W1,hW1⟩:∃ W1,W1=w4.alloc (.cells #[.string s.1,.int .i64 s.2.1,.int .i64 s.2.2.1,.int .i64 s.2.2.2.1,.int .i64 s.2.2.2.2] 141):=⟨_,rfl⟩
   have hU1:Upd [] w4 W1:=by rw [hW1]; exact (Upd.refl [] w4).alloc _
   have hx:BoxSh W1 w4.heap.size s:=by rw [hW1]; exact ⟨by simp,by go_simp,by go_simp,by go_simp,by go_simp,by go_simp⟩
   have p1:=(hU1.cell (p:=⟨P,j,none⟩) hP4 (by simp)).trans p0
   have x0:=hx.2.1
   have hW1l:w4.heap.size < W1.heap.size:=hx.1
   have p2:=(((Upd.refl [] W1).alloc (.cells #[.string ⟨#[]⟩,.slice none 0 0,.int .i64 0] 88)).cell (p:=⟨P,j,none⟩) (by show P < _; omega) (by simp)).trans p1
   have x2:=(((Upd.refl [] W1).alloc (.cells #[.string ⟨#[]⟩,.slice none 0 0,.int .i64 0] 88)).cell (p:=⟨w4.heap.size,0,none⟩) hW1l (by simp)).trans x0
   have hPn:P ≠ W1.heap.size:=by omega
   have hSn:w4.heap.size ≠ W1.heap.size:=by omega
   have HX:=hide hx
   have HU1':=hide hU1
   rw [<- hW1]
   clear hW1 hx hU1 p0 q0 q1 q2 q3 q4
   go_cut [7] (fun p wx=>p=.pointer (some ⟨W1.heap.size,0,none⟩)/\Hid (RowBld w4 wx w4.heap.size W1.heap.size s val (.slice none 0 0) []))
   case first =>
    go_region
    all_goals (
     go_wp2_with fail
     go_meet
     case rel =>
      have U2:=(((Upd.refl [] W1).alloc (.cells #[.string s.1,.slice none 0 0,.int .i64 val] 88)).drew)
      refine ⟨rfl,HX.out.later U2 (by simp),hW1l,by simp,fun o=>by go_simp,by go_simp,by go_simp,by go_simp,⟨rfl,.inl ⟨rfl,rfl⟩⟩,Nat.le_refl _,HU1'.out.trans U2⟩)
   case rest =>
    obtain ⟨rfl,HB⟩:=hcut
    have b1:=HB.out.box.2.2.1
    have hsb:=HB.out.box.1
    clear p1 p2 x0 x2 HX HU1' hPn hSn
    go_wp2
    go_loopw [42] (fun ix wr=>∃ (q:Nat) (vA:Value),q<=s.2.1/\ix=.int .i64 q/\Hid (RowBld w4 wr w4.heap.size W1.heap.size s val vA (((partsL s).take q).map fun k=>pl.getD k 0))) (fun ix _=>s.2.1 - (intOf ix).toNat)
    case atStart=>exact ⟨0,_,Nat.zero_le _,rfl,HB.out⟩
    case round =>
     clear HB b1 hsb
     obtain ⟨w5,hw5⟩:∃ w5,w5=wr:=⟨_,rfl⟩
     rw [<- hw5] at hrel ⊢
     clear hw5
     obtain ⟨q,vA,hq,rfl,HQ⟩:=hrel
     have hal:(((partsL s).take q).map fun k=>pl.getD k 0).length=q:=by rw [List.length_map,List.length_take,partsL_length]; omega
     obtain ⟨gA,capA,hvA⟩:=slice_len HQ.out.row
     rw [hal] at hvA
     have Hal:=hide hal
     by_cases hqc:q < s.2.1
     ·have hqI:(q:Int) < (s.2.1:Int):=by omega
      have hcq:=HQ.out.box.part q (by omega)
      have hpq:=Hpart.out q hqc
      have hget:=partsL_get hqc
      have HNx:Hid (((partsL s).take (q+1)).map (fun k=>pl.getD k 0)=((partsL s).take q).map (fun k=>pl.getD k 0)++[pl.getD (partAt s q) 0]):=by
       show _=_
       have hlt:=(List.getElem?_eq_some_iff.1 hget).1
       rw [List.take_succ_eq_append_getElem hlt,List.map_append]
       rw [List.getElem?_eq_getElem hlt] at hget
       rw [Option.some.inj hget]
       rfl
      obtain ⟨pq,hpqe⟩:∃ pq,partAt s q=pq:=⟨_,rfl⟩
      rw [hpqe] at hcq hpq HNx
      have hU25:=HRx.out.upd.trans HQ.out.upd
      have z0:=HPl.out w5 hU25 pq (by omega)
      have hpI:(pq:Int) < (n:Int):=by omega
      obtain ⟨a,ha⟩:∃ a,pl.getD pq 0=a:=⟨_,rfl⟩
      rw [ha] at z0 HNx
      have z1:=HQ.out.c1
      have zf:=HQ.out.free
      have hRl:=HQ.out.lt
      have hP5:P < w5.heap.size:=Nat.lt_of_lt_of_le hPlt hU25.size
      have HA:Hid (∀ X:Obj,(w5.alloc X).cell? ⟨P,pq,none⟩=some (.int .i64 a)/\(w5.alloc X).cell? ⟨W1.heap.size,1,none⟩=some vA):=fun X=>⟨(((Upd.refl [] w5).alloc X).cell (p:=⟨P,pq,none⟩) hP5 (by simp)).trans z0,(((Upd.refl [] w5).alloc X).cell (p:=⟨W1.heap.size,1,none⟩) hRl (by simp)).trans z1⟩
      obtain ⟨y1,y2⟩:=HA.out (.cells #[.int .i64 a] 3)
      have hrow1:=(((Upd.refl [] w5).alloc (.cells #[.int .i64 a] 3)).drew).ownsRow HQ.out.row (fun _ _=>by simp)
      rw [hal] at hrow1
      have Hrow1:=hide hrow1
      have hnews:Hid (∀ j u,[Value.int .i64 a][j]?=some u->(w5.alloc (.cells #[.int .i64 a] 3)).drew.cell? ((⟨w5.heap.size,0,none⟩:Addr).add j)=some u):=World.news_of_block (heap_alloc_new w5 _)
      have hone:Hid (∀ u ∈ [Value.int .i64 a],u.oneCell'=true):=(fun u hu'=>by simp at hu'; subst hu'; rfl)
      have Hc:Hid (∀ w6,(w5.alloc (.cells #[.int .i64 a] 3)).drew.grownBy w6 vA.ownBlock->w6.cell? ⟨W1.heap.size,1,none⟩=some vA/\∀ o,w6.frozen? ⟨W1.heap.size,o,none⟩=false):=fun w6 hg=>HQ.out.grown (((Upd.refl [] w5).alloc _).drew) hg
      have Hfin:Hid (∀ g cap w6,(w5.alloc (.cells #[.int .i64 a] 3)).drew.grownBy w6 vA.ownBlock->(vA.ownBlock=some g\/g=(w5.alloc (.cells #[.int .i64 a] 3)).drew.heap.size)->w6.ownsRow (W1.heap.size+1) 3 1 (.slice (some ⟨g,0,none⟩) (q+1) cap) (q+1) (intsOf (((partsL s).take q).map fun k=>pl.getD k 0)++[.int .i64 a])->RowBld w4 (w6.setCell ⟨W1.heap.size,1,none⟩ (.slice (some ⟨g,0,none⟩) (q+1) cap)) w4.heap.size W1.heap.size s val (.slice (some ⟨g,0,none⟩) (q+1) cap) (((partsL s).take (q+1)).map fun k=>pl.getD k 0)):=fun g cap w6 hg hat hown=>by
       rw [HNx.out]
       have:=HQ.out.next (a:=a) (((Upd.refl [] w5).alloc _).drew) hg hat (by rw [hal]; exact hown)
       rw [hal] at this
       exact this
      have hlm:q+1<=maxLen:=by unfold maxLen; omega
      have hlb:(q+1) * 8<=140737488355328:=by omega
      have hbs:W1.heap.size+1<=(w5.alloc (.cells #[.int .i64 a] 3)).drew.heap.size:=by simp; omega
      have Hbs:=hide hbs
      have hn5:P ≠ w5.heap.size:=by omega
      have hn6:W1.heap.size ≠ w5.heap.size:=by omega
      clear hpqe ha hget hal hrow1 hU25 HQ hbs hvA
      go_wp2_with fail
      go_region_law (refine step_append_lies _ (by rfl) _ _ 44 (by rfl) (W1.heap.size+1) 3 j0 (.int .i64 0) 1 8 Tryz.underlying44 hj0 hy0 hy1 hy2 (by rfl) (by decide) vA q (intsOf (((partsL s).take q).map fun k=>pl.getD k 0)) (by rfl) Hrow1.out ⟨w5.heap.size,0,none⟩ 1 1 [Value.int .i64 a] (by rfl) (by rfl) hnews.out hone.out (by decide) hlm hlb Hbs.out _ (by rfl) ?_; intro g cap' w6 hown' hgrow hat hlt3; obtain ⟨k0,kf⟩:=Hc.out w6 hgrow)
      all_goals (
       go_wp2
       refine ⟨⟨q+1,_,by omega,by simp,Hfin.out g cap' w6 hgrow hat hown'⟩,?_⟩
       simp [intOf]
       omega)
     ·have hqI:¬ (q:Int) < (s.2.1:Int):=by omega
      have hqe:(partsL s).take q=partsL s:=List.take_of_length_le (by rw [partsL_length]; omega)
      rw [hqe] at HQ Hal
      subst hvA
      have t0:=HQ.out.c0
      have t1:=HQ.out.c1
      have t2:=HQ.out.c2
      have hRl:=HQ.out.lt
      have hb5:=HQ.out.upd.size
      have hrw:=((HQ.out.upd.alloc (.cells #[.string s.1,.slice gA q capA,.int .i64 val] 88))).ownsRow HRx.out.row (fun _ _=>by simp)
      rw [Hxl.out] at hrw
      have Hrw:=hide hrw
      have Hnews:Hid (∀ j u,[Value.string s.1,.slice gA q capA,.int .i64 val][j]?=some u->(w5.alloc (.cells #[.string s.1,.slice gA q capA,.int .i64 val] 88)).cell? ((⟨w5.heap.size,0,none⟩:Addr).add j)=some u):=World.news_of_block (heap_alloc_new _ _)
      have hone:Hid (∀ u ∈ [Value.string s.1,.slice gA q capA,.int .i64 val],u.oneCell'=true):=fun u hu'=>by simp at hu'; rcases hu' with rfl | rfl | rfl <;> rfl
      have Hfin:Hid (∀ g cap w6,(w5.alloc (.cells #[.string s.1,.slice gA q capA,.int .i64 val] 88)).grownBy w6 u4.ownBlock->(u4.ownBlock=some g\/g=(w5.alloc (.cells #[.string s.1,.slice gA q capA,.int .i64 val] 88)).heap.size)->w6.ownsRow w2.heap.size 88 3 (.slice (some ⟨g,0,none⟩) (j+1) cap) (j+1) (flatR xs++[.string s.1,.slice gA q capA,.int .i64 val])->∃ ys,Rowing w2 w6 (.slice (some ⟨g,0,none⟩) (j+1) cap) ys/\ys.map (·.1)=rowsTo S pl (j+1)):=fun g cap w6 hg hat hown=>by
       have hrw':=HQ.out.row
       rw [Hal.out] at hrw'
       have hrl:(rowOf S pl j).args.length=q:=by rw [HRo.out]; exact Hal.out
       have hra:(rowOf S pl j).args=(partsL s).map fun k=>pl.getD k 0:=by rw [HRo.out]
       have:=HRx.out.next (r:=rowOf S pl j) (vA:=.slice gA q capA) (B:=W1.heap.size+1) HQ.out.upd (by rw [hrl,hra]; exact hrw') (by have:=hW1l; omega) ((Upd.refl [] w5).alloc _) hg hat (by rw [Hxl.out,HRo.out]; exact hown)
       rw [Hxl.out] at this
       exact ⟨_,this,by rw [List.map_append,Hxs.out,rowsTo_succ]; rfl⟩
      have hlm:j+1<=maxLen:=by unfold maxLen; omega
      have hlb:(j+1) * 48<=140737488355328:=by omega
      have hs24:=HRx.out.upd.size
      have hbs:w2.heap.size<=(w5.alloc (.cells #[.string s.1,.slice gA q capA,.int .i64 val] 88)).heap.size:=by simp; omega
      have Hbs:=hide hbs
      clear hqe hrw hbs HQ
      go_wp2_with (at_builtin; go_must (refine wpList_append_lies _ rfl _ _ 46 rfl w2.heap.size 88 i0 (.agg #[.string ⟨#[]⟩,.slice none 0 0,.int .i64 0]) 3 48 Tryz.underlying46 hi hz0 hz1 hz2 rfl (by decide) _ _ _ rfl Hrw.out ⟨w5.heap.size,0,none⟩ 1 1 [.string s.1,.slice gA q capA,.int .i64 val] rfl rfl Hnews.out hone.out (by decide) hlm hlb Hbs.out _ rfl ?_); intro g6 cap6 w6 hown6 hgrow6 hat6 hlt6)
      refine ⟨⟨j+1,by omega,by simp,Hfin.out g6 cap6 w6 hgrow6 hat6 hown6⟩,?_⟩
      simp [intOf]
      omega
  ·have hjI:¬ (j:Int) < (n:Int):=by omega
   have hje:j=n:=by omega
   obtain ⟨xs,hR,hxs⟩:=HJ.out
   rw [hje] at hxs
   have hxl:xs.length=n:=by have:=congrArg List.length hxs; simpa [rowsTo] using this
   obtain ⟨g,capv,hv⟩:∃ g cap,u4=.slice (some ⟨g,0,none⟩) n cap:=by
    rcases ownsRow_slice hR.row with ⟨h1,_⟩ | ⟨g,cap,h1,_⟩
    ·exact absurd (by rw [h1]; rfl) hR.made
    ·exact ⟨g,cap,by rw [h1,hxl]⟩
   subst hv
   have hBt:Built w w4 (.slice (some ⟨g,0,none⟩) n capv) S pl:=⟨w2,xs,HUw2.out,hR,by rw [Hn.out]; exact hxs⟩
   have HS1:=hide (HSort.out w4 g capv hBt)
   have HC1':=hide (fun w' hr=>HComp.out w4 w' (.slice (some ⟨g,0,none⟩) n capv) hr hBt)
   clear hje hR hxs hxl hBt HJ
   go_wp2_with (first
    | (go_at_call 84; refine HS1.out.mono ?_; rintro e w5 ⟨rfl,hr5⟩; have HC5:=hide (HC1'.out w5 hr5); clear hr5)
    | (go_at_call 86; refine HC5.out.mono ?_; rintro e w6 ⟨v6,rfl,hq6⟩; have HQ6:=hide hq6; clear hq6))
   go_ret
   exact ⟨_,_,rfl,HQ6.out⟩
structure Lin {β:Type} (c:β->β->Int):Prop where
 eq:∀ a b,c a b=0 ↔ a=b
 tr:∀ a b d,c a b < 0->c b d < 0->c a d < 0
 tot:∀ a b,c a b < 0\/a=b\/c b a < 0
theorem Lin.irr {β:Type} {c:β->β->Int} (h:Lin c) (a:β):¬ c a a < 0:=by rw [(h.eq a a).2 rfl]; omega
def lex2 {β γ:Type} (c:β->β->Int) (d:γ->γ->Int) (x y:β × γ):Int:=if c x.1 y.1 ≠ 0 then c x.1 y.1 else d x.2 y.2
theorem lex2_lt {β γ:Type} {c:β->β->Int} {d:γ->γ->Int} (hc:Lin c) {x y:β × γ}:lex2 c d x y < 0 ↔ c x.1 y.1 < 0\/(x.1=y.1/\d x.2 y.2 < 0):=by
 unfold lex2
 by_cases h:c x.1 y.1=0
 ·rw [if_neg (by simp [h])]
  have e:=(hc.eq _ _).1 h
  constructor
  ·exact fun hd=>.inr ⟨e,hd⟩
  ·rintro (h1 | h1)
   ·omega
   ·exact h1.2
 ·rw [if_pos h]
  constructor
  ·exact fun hd=>.inl hd
  ·rintro (h1 | h1)
   ·exact h1
   ·exact absurd ((hc.eq _ _).2 h1.1) h
theorem Lin.lex {β γ:Type} {c:β->β->Int} {d:γ->γ->Int} (hc:Lin c) (hd:Lin d):Lin (lex2 c d):=by
 refine ⟨fun a b=>?_,fun a b e h1 h2=>?_,fun a b=>?_⟩
 ·unfold lex2
  by_cases h:c a.1 b.1=0
  ·rw [if_neg (by simp [h]),hd.eq]
   have e:=(hc.eq _ _).1 h
   exact ⟨fun e2=>Prod.ext e e2,fun e2=>by rw [e2]⟩
  ·rw [if_pos h]
   exact ⟨fun e=>absurd e h,fun e=>absurd ((hc.eq _ _).2 (by rw [e])) h⟩
 ·rw [lex2_lt hc] at h1 h2 ⊢
  rcases h1 with h1 | ⟨e1,h1⟩
  ·rcases h2 with h2 | ⟨e2,_⟩
   ·exact .inl (hc.tr _ _ _ h1 h2)
   ·exact .inl (by rw [<- e2]; exact h1)
  ·rcases h2 with h2 | ⟨e2,h2⟩
   ·exact .inl (by rw [e1]; exact h2)
   ·exact .inr ⟨e1.trans e2,hd.tr _ _ _ h1 h2⟩
 ·rw [lex2_lt hc,lex2_lt hc]
  rcases hc.tot a.1 b.1 with h | h | h
  ·exact .inl (.inl h)
  ·rcases hd.tot a.2 b.2 with k | k | k
   ·exact .inl (.inr ⟨h,k⟩)
   ·exact .inr (.inl (Prod.ext h k))
   ·exact .inr (.inr (.inr ⟨h.symm,k⟩))
  ·exact .inr (.inr (.inl h))
theorem lin_bytes:Lin Lib.compareBytes:=by
 refine ⟨fun a b=>(cmpB_lt a b).2,fun a b d h1 h2=>?_,fun a b=>?_⟩
 ·exact (cmpB_lt a d).1.2 (List.lt_trans ((cmpB_lt a b).1.1 h1) ((cmpB_lt b d).1.1 h2))
 ·rcases List.le_total a b with h | h
  ·rcases List.le_iff_lt_or_eq.1 h with h1 | h1
   ·exact .inl ((cmpB_lt a b).1.2 h1)
   ·exact .inr (.inl h1)
  ·rcases List.le_iff_lt_or_eq.1 h with h1 | h1
   ·exact .inr (.inr ((cmpB_lt b a).1.2 h1))
   ·exact .inr (.inl h1.symm)
theorem cmpI_lt {a b:Nat}:cmpI a b < 0 ↔ a < b:=by
 unfold cmpI
 split
 ·simp; omega
 ·split
  ·simp; omega
  ·simp; omega
theorem lin_int:Lin cmpI:=⟨fun a b=>cmpI_zero,fun a b d h1 h2=>by rw [cmpI_lt] at *; omega,fun a b=>by rw [cmpI_lt,cmpI_lt]; omega⟩
theorem cmpArgs_cons (a b:Nat) (l m:List Nat):cmpArgs (a :: l) (b :: m)=lex2 cmpI cmpArgs (a,l) (b,m):=rfl
theorem lin_args:Lin cmpArgs:=by
 have h1:∀ l m,cmpArgs l m=0 ↔ l=m:=by
  intro l
  induction l with
  | nil=>intro m; cases m <;> simp [cmpArgs]
  | cons a l ih =>
   intro m
   cases m with
   | nil=>simp [cmpArgs]
   | cons b m =>
    unfold cmpArgs
    by_cases h:cmpI a b=0
    ·rw [if_neg (by simp [h]),ih m]
     have e:=cmpI_zero.1 h
     simp [e]
    ·rw [if_pos h]
     exact ⟨fun e=>absurd e h,fun e=>absurd (cmpI_zero.2 (by simp at e; exact e.1)) h⟩
 have hlt:∀ a b l m,cmpArgs (a :: l) (b :: m) < 0 ↔ a < b\/(a=b/\cmpArgs l m < 0):=fun a b l m=>by
  rw [cmpArgs_cons,lex2_lt lin_int,cmpI_lt]
 refine ⟨h1,fun l=>?_,fun l=>?_⟩
 ·induction l with
  | nil =>
   intro m d k1 k2
   cases m with
   | nil=>simp [cmpArgs] at k1
   | cons b m =>
    cases d with
    | nil=>simp [cmpArgs] at k2
    | cons c d=>simp [cmpArgs]
  | cons a l ih =>
   intro m d k1 k2
   cases m with
   | nil=>simp [cmpArgs] at k1
   | cons b m =>
    cases d with
    | nil=>simp [cmpArgs] at k2
    | cons c d =>
     rw [hlt] at k1 k2 ⊢
     rcases k1 with k1 | ⟨e1,k1⟩
     ·rcases k2 with k2 | ⟨e2,_⟩
      ·exact .inl (by omega)
      ·exact .inl (by omega)
     ·rcases k2 with k2 | ⟨e2,k2⟩
      ·exact .inl (by omega)
      ·exact .inr ⟨by omega,ih m d k1 k2⟩
 ·induction l with
  | nil=>intro m; cases m <;> simp [cmpArgs]
  | cons a l ih =>
   intro m
   cases m with
   | nil=>simp [cmpArgs]
   | cons b m =>
    rw [hlt,hlt]
    rcases Nat.lt_trichotomy a b with h | h | h
    ·exact .inl (.inl h)
    ·rcases ih m with k | k | k
     ·exact .inl (.inr ⟨h,k⟩)
     ·exact .inr (.inl (by rw [h,k]))
     ·exact .inr (.inr (.inr ⟨h.symm,k⟩))
    ·exact .inr (.inr (.inl h))
def keyR (x:RowP):List UInt8 × Nat × List Nat:=(x.name.data.toList,x.args.length,x.args)
def cmpK:List UInt8 × Nat × List Nat->List UInt8 × Nat × List Nat->Int:=lex2 Lib.compareBytes (lex2 cmpI cmpArgs)
theorem lin_key:Lin cmpK:=lin_bytes.lex (lin_int.lex lin_args)
theorem cmpRow_key (x y:RowP):cmpRow x y=cmpK (keyR x) (keyR y):=by
 unfold cmpRow cmpK lex2 keyR
 simp only [firstNZ]
 by_cases h1:Lib.compareBytes x.name.data.toList y.name.data.toList=0
 ·by_cases h2:cmpI x.args.length y.args.length=0
  ·by_cases h3:cmpArgs x.args y.args=0
   ·simp [h1,h2,h3]
   ·simp [h1,h2,h3]
  ·simp [h1,h2]
 ·simp [h1]
theorem keyR_eq {x y:RowP}:keyR x=keyR y ↔ x.name=y.name/\x.args=y.args:=by
 unfold keyR
 simp only [Prod.mk.injEq]
 constructor
 ·rintro ⟨h1,_,h3⟩
  exact ⟨ByteArray.ext (Array.ext' h1),h3⟩
 ·rintro ⟨h1,h2⟩
  rw [h1,h2]
  exact ⟨rfl,rfl,rfl⟩
theorem swo_of {α:Type} {β:Type} {c:β->β->Int} (h:Lin c) (f:α->β):SWO (ltOf fun x y=>c (f x) (f y)) where
 irrefl x:=by
  unfold ltOf
  simpa using h.irr (f x)
 trans x y z h1 h2:=by
  unfold ltOf at *
  simp only [decide_eq_true_eq] at *
  exact h.tr _ _ _ h1 h2
 ntrans x y z h1 h2:=by
  unfold ltOf at *
  simp only [decide_eq_false_iff_not] at *
  intro h3
  rcases h.tot (f x) (f y) with k | k | k
  ·exact h1 k
  ·exact h2 (by rw [<- k]; exact h3)
  ·exact h2 (h.tr _ _ _ k h3)
def sortR_ren:Go.Shelf.Ren:=⟨fun | 6=>84 | 15=>119 | 14=>118 | 28=>145 | 29=>146 | 20=>137 | 21=>138 | 22=>139 | 23=>140 | 24=>141 | 25=>142 | 26=>143 | 27=>144 | 46=>170 | 47=>171 | 48=>172 | 49=>173 | 50=>174 | 57=>182 | n=>n,fun | 22=>46 | 24=>88 | 25=>143 | 3=>3 | 39=>195 | 0=>0 | 53=>220 | 55=>222 | 4=>4 | 46=>214 | 45=>213 | 50=>189 | 5=>5 | 9=>9 | 66=>240 | 70=>244 | 76=>251 | 77=>252 | n=>n,fun | n=>n⟩
theorem sortR:Go.Proofs.SlLaysF0.n6 Tryz.prog sortR_ren:={
 mixed:=by kernel_rfl
 f6:=⟨Tryz.f84.name,by decide,Tryz.func84.trans (congrArg some (by kernel_rfl))⟩
 f14:=⟨Tryz.f118.name,by decide,Tryz.func118.trans (congrArg some (by kernel_rfl))⟩
 f15:=Tryz.func119.trans (congrArg some (by kernel_rfl))
 f20:=⟨Tryz.f137.name,by decide,Tryz.func137.trans (congrArg some (by kernel_rfl))⟩
 f21:=⟨Tryz.f138.name,by decide,Tryz.func138.trans (congrArg some (by kernel_rfl))⟩
 f22:=⟨Tryz.f139.name,by decide,Tryz.func139.trans (congrArg some (by kernel_rfl))⟩
 f23:=⟨Tryz.f140.name,by decide,Tryz.func140.trans (congrArg some (by kernel_rfl))⟩
 f24:=⟨Tryz.f141.name,by decide,Tryz.func141.trans (congrArg some (by kernel_rfl))⟩
 f25:=⟨Tryz.f142.name,by decide,Tryz.func142.trans (congrArg some (by kernel_rfl))⟩
 f26:=⟨Tryz.f143.name,by decide,Tryz.func143.trans (congrArg some (by kernel_rfl))⟩
 f27:=⟨Tryz.f144.name,by decide,Tryz.func144.trans (congrArg some (by kernel_rfl))⟩
 f28:=Tryz.func145.trans (congrArg some (by kernel_rfl))
 f29:=Tryz.func146.trans (congrArg some (by kernel_rfl))
 f46:=⟨Tryz.f170.name,by decide,Tryz.func170.trans (congrArg some (by kernel_rfl))⟩
 f47:=Tryz.func171.trans (congrArg some (by kernel_rfl))
 f48:=Tryz.func172.trans (congrArg some (by kernel_rfl))
 f49:=⟨Tryz.f173.name,by decide,Tryz.func173.trans (congrArg some (by kernel_rfl))⟩
 f50:=⟨Tryz.f174.name,by decide,Tryz.func174.trans (congrArg some (by kernel_rfl))⟩
 f57:=⟨Tryz.f182.name,by decide,Tryz.func182.trans (congrArg some (by kernel_rfl))⟩
 t0:=Tryz.underlying0
 a0:=Tryz.isAgg0
 z0:=Tryz.sizeOf0
 v0:=Tryz.zeroValue0
 t3:=Tryz.underlying3
 a3:=Tryz.isAgg3
 z3:=Tryz.sizeOf3
 v3:=Tryz.zeroValue3
 t4:=Tryz.underlying4
 a4:=Tryz.isAgg4
 z4:=Tryz.sizeOf4
 v4:=Tryz.zeroValue4
 t5:=Tryz.underlying5
 a5:=Tryz.isAgg5
 z5:=Tryz.sizeOf5
 v5:=Tryz.zeroValue5
 t9:=Tryz.underlying9
 a9:=Tryz.isAgg9
 z9:=Tryz.sizeOf9
 v9:=Tryz.zeroValue9
 t22:=Tryz.underlying46
 a22:=Tryz.isAgg46
 z22:=Tryz.sizeOf46
 v22:=Tryz.zeroValue46
 t25:=Tryz.underlying143
 a25:=Tryz.isAgg143
 z25:=Tryz.sizeOf143
 v25:=Tryz.zeroValue143
 t39:=Tryz.underlying195
 a39:=Tryz.isAgg195
 z39:=Tryz.sizeOf195
 v39:=Tryz.zeroValue195
 t45:=Tryz.underlying213
 a45:=Tryz.isAgg213
 z45:=Tryz.sizeOf213
 v45:=Tryz.zeroValue213
 t46:=Tryz.underlying214
 a46:=Tryz.isAgg214
 z46:=Tryz.sizeOf214
 v46:=Tryz.zeroValue214
 t50:=Tryz.underlying189
 a50:=Tryz.isAgg189
 z50:=Tryz.sizeOf189
 v50:=Tryz.zeroValue189
 t53:=Tryz.underlying220
 a53:=Tryz.isAgg220
 z53:=Tryz.sizeOf220
 v53:=Tryz.zeroValue220
 t55:=Tryz.underlying222
 a55:=Tryz.isAgg222
 z55:=Tryz.sizeOf222
 v55:=Tryz.zeroValue222
 t66:=Tryz.underlying240
 a66:=Tryz.isAgg240
 z66:=Tryz.sizeOf240
 v66:=Tryz.zeroValue240
 t70:=Tryz.underlying244
 a70:=Tryz.isAgg244
 z70:=Tryz.sizeOf244
 v70:=Tryz.zeroValue244
 t76:=Tryz.underlying251
 a76:=Tryz.isAgg251
 z76:=Tryz.sizeOf251
 v76:=Tryz.zeroValue251
 t77:=Tryz.underlying252
 a77:=Tryz.isAgg252
 z77:=Tryz.sizeOf252
 v77:=Tryz.zeroValue252 }
theorem intsAt_of {w:World} {base:Nat} {v:Value} {l:List Nat} (h:w.ownsRow base 3 1 v l.length (intsOf l)):IntsAt w v l:=by
 rcases ownsRow_slice h with ⟨h1,h2⟩ | ⟨g,cap,h1,h2,h3⟩
 ·exact ⟨none,0,by rw [h2]; exact h1,by omega,by simp [maxLen],fun h=>by omega⟩
 ·subst h1
  refine ⟨_,cap,rfl,h2,h3,fun _=>⟨g,rfl,ownsRow_lt h rfl,fun i t ht=>?_⟩⟩
  have hi:=(List.getElem?_eq_some_iff.1 ht).1
  have:=h.cellAt i (by omega)
  rw [this]
  simp [intsOf,ht]
theorem flatR_get:∀ (xs:List RX) (i c:Nat) (x:RX),xs[i]?=some x->c < 3->(flatR xs)[i * 3+c]?=(encR x)[c]?
 | y :: xs,0,c,x,h,hc=>by
  simp at h
  subst h
  simp only [flatR,List.flatMap_cons,Nat.zero_mul,Nat.zero_add]
  rw [List.getElem?_append_left (by simp [encR]; omega)]
 | y :: xs,i+1,c,x,h,hc=>by
  have ih:=flatR_get xs i c x (by simpa using h) hc
  simp only [flatR,List.flatMap_cons] at ih ⊢
  rw [List.getElem?_append_right (by simp [encR]; omega)]
  have e:(i+1) * 3+c - (encR y).length=i * 3+c:=by simp [encR]; omega
  rw [e]
  exact ih
 | [],i,c,x,h,_=>by simp at h
structure RowsAt (w:World) (g:Nat) (xs:List RX):Prop where
 lt:g < w.heap.size
 cell:∀ (i:Nat) (x:RX),xs[i]?=some x->w.cell? ⟨g,i * 3,none⟩=some (.string x.1.name)/\w.cell? ⟨g,i * 3+1,none⟩=some x.2/\w.cell? ⟨g,i * 3+2,none⟩=some (.int .i64 x.1.value)
 free:∀ o,o < xs.length * 3->w.frozen? ⟨g,o,none⟩=false
abbrev RY (w:World) (g:Nat):={ x:RX // (∃ a l c,x.2=.slice a l c)/\IntsAt w x.2 x.1.args/\x.2.ownBlock ≠ some g }
instance (w:World) (g:Nat):Inhabited (RY w g):=⟨⟨(default,.slice none 0 0),⟨none,0,0,rfl⟩,⟨none,0,rfl,Nat.le_refl _,by simp [maxLen],fun h=>absurd h (Nat.lt_irrefl _)⟩,by simp [Value.ownBlock]⟩⟩
def encY {w:World} {g:Nat} (x:RY w g):List Value:=encR x.1
def cmpY {w:World} {g:Nat} (x y:RY w g):Int:=cmpRow x.1.1 y.1.1
theorem upd_sortK {α:Type} [Inhabited α] (enc:α->List Value) (k:Nat) {w:World} (g m:Nat) (d:Array α) (os:Array Obj):Upd [g] w (sortWorldK enc k w g 0 m d os):=by
 unfold sortWorldK putRowK putRow
 refine ⟨rfl,rfl,rfl,?_,fun k hk hn=>?_⟩
 ·simp [grow,mapBlock,Sort.ahead]
 ·simp only [List.mem_singleton] at hn
  simp only [grow,mapBlock,Sort.ahead]
  rw [Array.getElem?_append_left (by simpa using hk)]
  rw [Array.getElem?_modify,if_neg (fun e=>hn e.symm)]
theorem cmpLays_rows (w:World) (g size:Nat):CmpLays Tryz.prog 85 #[] (encY (w:=w) (g:=g)) 3 cmpY g 0 size w:=fun m os dk _ x y=>by
 have U:=upd_sortK (encY (w:=w) (g:=g)) 3 (w:=w) g m dk os
 have hx:=x.2.2.1.later U (fun k hk hm=>x.2.2.2 (hk.trans (by simp at hm; rw [hm])))
 have hy:=y.2.2.1.later U (fun k hk hm=>y.2.2.2 (hk.trans (by simp at hm; rw [hm])))
 exact compareRows_any x.1.1 y.1.1 x.1.2 y.1.2 _ hx hy
theorem swoY {w:World} {g:Nat}:SWO (ltOf (cmpY (w:=w) (g:=g))):=by
 have h:=swo_of (α:=RY w g) lin_key (fun x=>keyR x.1.1)
 have e:(fun (x y:RY w g)=>cmpK (keyR x.1.1) (keyR y.1.1))=cmpY:=by
  funext x y
  exact (cmpRow_key _ _).symm
 rw [e] at h
 exact h
theorem permIn_list {α:Type} [Inhabited α] {d d':Array α} {n:Nat} (h:PermIn 0 n d d') (h1:d.size=n) (h2:d'.size=n):d'.toList.Perm d.toList:=by
 have h3:=h.2.2
 have e1:(d'.extract 0 n).toList=d'.toList:=by
  rw [Array.toList_extract]
  simp [List.extract,List.take_of_length_le (Nat.le_of_eq (show d'.toList.length=n by simpa using h2))]
 have e2:(d.extract 0 n).toList=d.toList:=by
  rw [Array.toList_extract]
  simp [List.extract,List.take_of_length_le (Nat.le_of_eq (show d.toList.length=n by simpa using h1))]
 rw [e1,e2] at h3
 exact h3
def Stays (g:Nat) (w w':World):Prop:=∀ j,((w.cell? ⟨g,j,none⟩).isSome=true->(w'.cell? ⟨g,j,none⟩).isSome=true)/\w'.frozen? ⟨g,j,none⟩=w.frozen? ⟨g,j,none⟩
theorem Stays.refl (g:Nat) (w:World):Stays g w w:=fun _=>⟨id,rfl⟩
theorem Stays.trans {g:Nat} {a b c:World} (h:Stays g a b) (k:Stays g b c):Stays g a c:=fun j=>⟨fun e=>(k j).1 ((h j).1 e),(k j).2.trans (h j).2⟩
theorem Stays.upd {L:List Nat} {g:Nat} {w w':World} (hu:Upd L w w') (hg:g < w.heap.size) (hL:g ∉ L):Stays g w w':=fun j=>⟨fun e=>by rw [hu.cell (p:=⟨g,j,none⟩) hg hL]; exact e,hu.frozen (p:=⟨g,j,none⟩) hg hL⟩
theorem Stays.set {g:Nat} {w w':World} (h:Stays g w w') (o:Nat) (u:Value):Stays g w (w'.setCell ⟨g,o,none⟩ u):=fun j=>by
 refine ⟨fun e=>?_,by rw [World.frozen?_setCell]; exact (h j).2⟩
 have e2:=(h j).1 e
 obtain ⟨x,hx⟩:=Option.isSome_iff_exists.1 e2
 by_cases ej:j=o
 ·subst ej
  rw [World.cell?_setCell_same _ _ _ hx]
  rfl
 ·rw [World.cell?_setCell_other _ _ _ _ (fun e3=>ej (by cases e3; rfl))]
  exact e2
theorem Stays.sets {g:Nat}:∀ (vs:List Value) (o:Nat) (w w':World),Stays g w w'->Stays g w (w'.setCells g o vs)
 | [],_,_,_,h=>h
 | v :: vs,o,w,_,h=>Stays.sets vs (o+1) w _ (h.set o v)
theorem stays_sort {α:Type} [Inhabited α] (enc:α->List Value) (k:Nat) {w:World} {g:Nat} (m:Nat) (d:Array α) (os:Array Obj) {cur:Array Value} {e:TypeId} {fr:Nat × Nat} (hg:w.heap[g]?=some (.cells cur e fr)):Stays g w (sortWorldK enc k w g 0 m d os):=by
 have hlt:g < w.heap.size:=(Array.getElem?_eq_some_iff.1 hg).1
 have h1:Stays g w (putRowK enc k (Sort.ahead w m) g 0 d):=fun j=>by
  refine ⟨fun hs=>?_,by unfold putRowK; rw [frozen?_putRow]; rfl⟩
  have e1:(putRowK enc k (Sort.ahead w m) g 0 d).cell? ⟨g,j,none⟩=(putCells id 0 (flatK enc k d) cur)[j]?:=cell?_mapBlock (Sort.ahead w m) g j _ hg
  have e2:w.cell? ⟨g,j,none⟩=cur[j]?:=cell_of_row w g j cur e fr hg
  rw [e2] at hs
  rw [e1]
  unfold putCells
  rw [Array.getElem?_mapIdx,Option.isSome_map]
  exact hs
 unfold sortWorldK
 refine h1.trans (Stays.upd (L:=[]) ⟨rfl,rfl,rfl,by simp [grow],fun q hq _=>?_⟩ ?_ (by simp))
 ·simp only [grow]
  rw [Array.getElem?_append_left (by simpa using hq)]
 ·unfold putRowK
  rw [size_putRow]
  exact hlt
theorem sortRows_any (w3 wr:World) (g cap:Nat) (xs:List RX) (h:Rowing w3 wr (.slice (some ⟨g,0,none⟩) xs.length cap) xs) (hl:xs.length<=1000) :
  Calls Tryz.prog 84 #[.slice (some ⟨g,0,none⟩) xs.length cap,.func (.func 85) #[] #[]] wr fun e w'=>e=.returned (.tuple #[])/\∃ ys:List RX,ys.Perm xs/\ys.Pairwise (fun x y=>¬ cmpRow y.1 x.1 < 0)/\RowsAt w' g ys/\Upd [g] wr w'/\Stays g wr w':=by
 have hall:∀ x ∈ xs,(∃ a l c,x.2=.slice a l c)/\IntsAt wr x.2 x.1.args/\x.2.ownBlock ≠ some g:=fun x hx=>by
  obtain ⟨i,hi⟩:=List.getElem?_of_mem hx
  have ha:=h.args i x hi
  obtain ⟨a,c,e⟩:=slice_len ha
  exact ⟨⟨a,_,c,e⟩,intsAt_of ha,fun e=>h.out i x hi g e rfl⟩
 have hdl:(xs.pmap (fun x hx=>(⟨x,hx⟩:RY wr g)) hall).toArray.size=xs.length:=by simp
 have hdm:(xs.pmap (fun x hx=>(⟨x,hx⟩:RY wr g)) hall).map (·.1)=xs:=by rw [List.map_pmap]; simp
 obtain ⟨d,hd⟩:∃ d:List (RY wr g),xs.pmap (fun x hx=>(⟨x,hx⟩:RY wr g)) hall=d:=⟨_,rfl⟩
 rw [hd] at hdl hdm
 have hglt:=ownsRow_lt h.row (k:=g) rfl
 have hH:HoldsK (encY (w:=wr) (g:=g)) 3 wr g 0 d.toArray:=by
  intro t ht
  rw [size_flatK,hdl] at ht
  have hq:t / 3 < xs.length:=by omega
  obtain ⟨x,hx⟩:∃ x,xs[t / 3]?=some x:=⟨_,List.getElem?_eq_getElem hq⟩
  have hx2:d[t / 3]?.map (·.1)=some x:=by rw [<- List.getElem?_map,hdm]; exact hx
  obtain ⟨y,hy,hyx⟩:=Option.map_eq_some_iff.1 hx2
  rw [get_flatK _ 3 _ t (by rw [hdl]; exact ht)]
  have e1:d.toArray[t / 3]! = y:=by
   have hlt:t / 3 < d.toArray.size:=by rw [hdl]; exact hq
   rw [getElem!_pos d.toArray (t / 3) hlt]
   have:d[t / 3]?=some d.toArray[t / 3]:=by simp [List.getElem?_eq_getElem (show t / 3 < d.length by simpa using hlt)]
   rw [this] at hy
   exact Option.some.inj hy
  have hg:=flatR_get xs (t / 3) (t % 3) x hx (Nat.mod_lt _ (by omega))
  have et:t / 3 * 3+t % 3=t:=by omega
  rw [et] at hg
  rw [Nat.zero_add,e1]
  refine ⟨?_,row_free h.row t⟩
  rw [h.row.cellAt t (by omega),hg]
  show (encR x)[t % 3]?=some ((encR y.1)[t % 3]!)
  rw [hyx]
  have:t % 3 < (encR x).length:=by simp [encR]; omega
  rw [List.getElem?_eq_getElem this,getElem!_pos (encR x) (t % 3) this]
 have hc:=AnyQ.slices_SortFunc_eq sortR 3 Tryz.isAgg88 Tryz.sizeOf88 (encY (w:=wr) (g:=g)) (fun _=>rfl) (fun x v hv=>by
   obtain ⟨a,l,c,e⟩:=x.2.1
   simp [encY,encR,e] at hv
   rcases hv with rfl | rfl | rfl <;> rfl) cmpY swoY 85 #[] g 0 cap d.toArray wr (enters_of Tryz.func85 (by kernel_rfl) rfl) (cmpLays_rows wr g _) hH hglt (by rw [hdl]; omega)
 rw [hdl] at hc
 change Calls Tryz.prog 84 _ _ _ at hc
 refine hc.mono fun e w' hw=>?_
 obtain ⟨he,m,os,rfl⟩:=hw
 obtain ⟨hp,hs⟩:=pdq_sorts (ltOf (cmpY (w:=wr) (g:=g))) swoY d.toArray 0 xs.length (Lib.bitLen xs.length) true true (Nat.zero_le _) (by rw [hdl]; exact Nat.le_refl _) (Or.inl rfl)
 obtain ⟨d',hd'⟩:∃ d',pdq (ltOf (cmpY (w:=wr) (g:=g))) d.toArray 0 xs.length (Lib.bitLen xs.length) true true=d':=⟨_,rfl⟩
 rw [hd'] at hp hs ⊢
 have hsz:d'.size=xs.length:=by have:=hp.1; rw [hdl] at this; exact this
 have hperm:=permIn_list hp hdl hsz
 have hcur:∃ cur,wr.heap[g]?=some (.cells cur 88 (0,0)):=by
  rcases h.row.2 with ⟨e1,_⟩ | ⟨g',cap',cur,e1,_,e3,_⟩
  ·cases e1
  ·cases e1; exact ⟨cur,e3⟩
 obtain ⟨cur,hcur⟩:=hcur
 refine ⟨he,d'.toList.map (·.1),?_,?_,?_,upd_sortK _ 3 g m d' os,stays_sort _ 3 m d' os hcur⟩
 ·have:=hperm.map (fun (x:RY wr g)=>x.1)
  rw [show d.toArray.toList=d from rfl,hdm] at this
  exact this
 ·rw [List.pairwise_map,List.pairwise_iff_getElem]
  intro i j hi hj hij
  have hi':i < d'.size:=by simpa using hi
  have hj':j < d'.size:=by simpa using hj
  have:=hs i j (Nat.zero_le _) hij (by rw [<- hsz]; exact hj')
  rw [getElem!_pos d' i hi',getElem!_pos d' j hj'] at this
  unfold ltOf at this
  have h2:=of_decide_eq_false this
  simpa [cmpY] using h2
 ·have hG:=holdsK_sortWorldK (encY (w:=wr) (g:=g)) 3 wr g 0 m d.toArray d' os hglt hH (by rw [hsz,hdl])
  refine ⟨lt_sortWorldK _ 3 wr g 0 m d' os hglt,fun i x hx=>?_,fun o ho=>?_⟩
  ·have hi:i < d'.size:=by
    have:=(List.getElem?_eq_some_iff.1 hx).1
    simpa using this
   have ex:d'[i]!.1=x:=by
    rw [getElem!_pos d' i hi]
    rw [List.getElem?_map] at hx
    have e2:d'.toList[i]?=some d'[i]:=by simp [hi]
    rw [e2] at hx
    exact Option.some.inj hx
   have c0:=(hG.cell (i:=i) (c:=0) hi (by omega)).1
   have c1:=(hG.cell (i:=i) (c:=1) hi (by omega)).1
   have c2:=(hG.cell (i:=i) (c:=2) hi (by omega)).1
   simp only [encY,encR,Nat.zero_add,Nat.add_zero] at c0 c1 c2
   rw [ex] at c0 c1 c2
   exact ⟨c0,c1,c2⟩
  ·have:=(hG o (by rw [size_flatK]; simpa using ho)).2
   rwa [Nat.zero_add] at this
def keepsR (ys:List RX):Nat->Bool
 | 0=>true
 | j+1=>match ys[j+1]?,ys[j]? with
  | some y,some p=>decide (cmpRow y.1 p.1 ≠ 0)
  | _,_=>true
def compTo (ys:List RX):Nat->List RX
 | 0=>[]
 | j+1=>compTo ys j++(if keepsR ys j then (ys[j]?).toList else [])
theorem compTo_keep {ys:List RX} {j:Nat} {y:RX} (h:ys[j]?=some y) (hk:keepsR ys j=true):compTo ys (j+1)=compTo ys j++[y]:=by
 rw [compTo,hk,h]
 rfl
theorem compTo_drop {ys:List RX} {j:Nat} (hk:keepsR ys j=false):compTo ys (j+1)=compTo ys j:=by
 rw [compTo,hk]
 simp
theorem keepsR_is {ys:List RX} {j:Nat} {y p:RX} (h1:ys[j+1]?=some y) (h2:ys[j]?=some p):keepsR ys (j+1)=decide (cmpRow y.1 p.1 ≠ 0):=by
 simp only [keepsR,h1,h2]
theorem upd_grow (w:World) (q:Nat) (os:Array Obj):Upd [] w (grow (w.drewN q) os):=by
 refine ⟨rfl,rfl,rfl,by simp [grow,World.drewN],fun k hk _=>?_⟩
 simp only [grow]
 rw [Array.getElem?_append_left (by simpa using hk)]
 rfl
theorem eqRow_any (x y:RowP) (vx vy:Value) (W:World) (hx:IntsAt W vx x.args) (hy:IntsAt W vy y.args) :
  Calls Tryz.prog 87 #[.agg #[.string x.name,vx,.int .i64 x.value],.agg #[.string y.name,vy,.int .i64 y.value]] W fun e w'=>e=.returned (.bool (decide (cmpRow x y=0)))/\Upd [] W w':=by
 have hU:=((Upd.refl [] W).alloc (.cells #[.string x.name,vx,.int .i64 x.value] 88)).alloc (.cells #[.string y.name,vy,.int .i64 y.value] 88)
 have HC:=hide (compareRows_any x y vx vy _ (hx.later hU (fun _ _=>by simp)) (hy.later hU (fun _ _=>by simp)))
 obtain ⟨ax,capx,hvx,_,_,_⟩:=hx
 obtain ⟨ay,capy,hvy,_,_,_⟩:=hy
 have HU:=hide hU
 obtain ⟨nx,hnx⟩:∃ nx,x.args.length=nx:=⟨_,rfl⟩
 obtain ⟨ny,hny⟩:∃ ny,y.args.length=ny:=⟨_,rfl⟩
 rw [hnx] at hvx
 rw [hny] at hvy
 subst hvx hvy
 obtain ⟨R,hR⟩:∃ R,cmpRow x y=R:=⟨_,rfl⟩
 rw [hR] at HC ⊢
 clear hU hnx hny hR
 by_cases h0:R=0
 ·subst h0
  go_enter Tryz.func87,Tryz.ntmps87
  go_wp2_with (go_at_call 85; refine HC.out.mono ?_; rintro e w3 ⟨rfl,q,os,hw3⟩; rw [hw3]; clear hw3 w3)
  go_ret
  exact ⟨by simp,HU.out.trans (upd_grow _ _ _)⟩
 ·have hb:(R == 0)=false:=by simpa using h0
  go_enter Tryz.func87,Tryz.ntmps87
  go_wp2_with (go_at_call 85; refine HC.out.mono ?_; rintro e w3 ⟨rfl,q,os,hw3⟩; rw [hw3]; clear hw3 w3)
  go_ret
  exact ⟨by simp [h0],HU.out.trans (upd_grow _ _ _)⟩
theorem RowsAt.later {w w':World} {g:Nat} {xs:List RX} (h:RowsAt w g xs) (hu:Upd [] w w'):RowsAt w' g xs :=
 ⟨Nat.lt_of_lt_of_le h.lt hu.size,fun i x hx=>⟨(hu.cell (p:=⟨g,i * 3,none⟩) h.lt (by simp)).trans (h.cell i x hx).1,(hu.cell (p:=⟨g,i * 3+1,none⟩) h.lt (by simp)).trans (h.cell i x hx).2.1,(hu.cell (p:=⟨g,i * 3+2,none⟩) h.lt (by simp)).trans (h.cell i x hx).2.2⟩,fun o ho=>(hu.frozen (p:=⟨g,o,none⟩) h.lt (by simp)).trans (h.free o ho)⟩
theorem RowsAt.set {w:World} {g k:Nat} {xs:List RX} {x:RX} (h:RowsAt w g xs) (hk:k < xs.length):RowsAt (((w.setCell ⟨g,k * 3,none⟩ (.string x.1.name)).setCell ⟨g,k * 3+1,none⟩ x.2).setCell ⟨g,k * 3+2,none⟩ (.int .i64 x.1.value)) g (xs.set k x):=by
 have hlt:=h.lt
 obtain ⟨y,hy⟩:∃ y,xs[k]?=some y:=⟨_,List.getElem?_eq_getElem hk⟩
 obtain ⟨y0,y1,y2⟩:=h.cell k y hy
 refine ⟨by simpa using hlt,fun i z hz=>?_,fun o ho=>by simpa using h.free o (by simpa using ho)⟩
 by_cases e:i=k
 ·subst e
  rw [List.getElem?_set] at hz
  simp [hk] at hz
  subst hz
  exact ⟨by go_simp,by go_simp,by go_simp⟩
 ·rw [List.getElem?_set_ne (by omega)] at hz
  obtain ⟨z0,z1,z2⟩:=h.cell i z hz
  refine ⟨?_,?_,?_⟩
  ·refine (World.cell?_setCell_other _ _ _ _ ?_).trans ((World.cell?_setCell_other _ _ _ _ ?_).trans ((World.cell?_setCell_other _ _ _ _ ?_).trans z0)) <;> (intro e; injection e with _ e2; omega)
  ·refine (World.cell?_setCell_other _ _ _ _ ?_).trans ((World.cell?_setCell_other _ _ _ _ ?_).trans ((World.cell?_setCell_other _ _ _ _ ?_).trans z1)) <;> (intro e; injection e with _ e2; omega)
  ·refine (World.cell?_setCell_other _ _ _ _ ?_).trans ((World.cell?_setCell_other _ _ _ _ ?_).trans ((World.cell?_setCell_other _ _ _ _ ?_).trans z2)) <;> (intro e; injection e with _ e2; omega)
theorem run_clear_rows (w:World) (g o n c:Nat) (hn:0 < n) (hc:∀ j,j < n * 3->(w.cell? ⟨g,o+j,none⟩).isSome=true) (hf:∀ j,j < n * 3->w.frozen? ⟨g,o+j,none⟩=false) :
  ∃ vs:List Value,∀ ty,(Builtin.clear_ #[46] ty #[.slice (some ⟨g,o,none⟩) n c]).run Tryz.prog w=.ok (.tuple #[]) (w.setCells g o vs):=by
 obtain ⟨vs,hvs⟩:∃ vs,(Builtin.zeroCells #[.string ⟨#[]⟩,.slice none 0 0,.int .i64 0] n).toList=vs:=⟨_,rfl⟩
 have hl:vs.length=n * 3:=by rw [<- hvs]; simp [Builtin.zeroCells]
 have h1:∀ v ∈ vs,v.oneCell'=true:=fun v hv=>by
  rw [<- hvs] at hv
  simp only [Builtin.zeroCells,Array.toList_map,List.mem_map] at hv
  obtain ⟨i,_,rfl⟩:=hv
  have:i % 3 < 3:=Nat.mod_lt _ (by omega)
  show (#[Value.string ⟨#[]⟩,.slice none 0 0,.int .i64 0][i % 3]!).oneCell'=true
  match i % 3,this with
  | 0,_=>rfl
  | 1,_=>rfl
  | 2,_=>rfl
 have hst:=run_storeCells_cells (P:=Tryz.prog) g o vs 0 w (by rw [hl]; simpa using hc) (by rw [hl]; simpa using hf) h1
 simp only [Nat.add_zero] at hst
 obtain ⟨m,rfl⟩:∃ m,n=m+1:=⟨n - 1,by omega⟩
 refine ⟨vs,fun ty=>?_⟩
 simp [Builtin.clear_,run_underlying Tryz.underlying46,Tryz.zeroValue88,Value.cells,hvs,hst]
end Go.Proofs.YtmfkpllnmmfpiaaGreatDoor
