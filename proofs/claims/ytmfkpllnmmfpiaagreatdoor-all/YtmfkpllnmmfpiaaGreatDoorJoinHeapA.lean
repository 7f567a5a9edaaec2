/- Twins2, JoinHeap -/
import Derived.Test.YtmfkpllnmmfpiaaGreatDoorTwinsA
import Derived.Deep.Upon
set_option maxHeartbeats 16000000
set_option maxRecDepth 100000
namespace Go.Proofs.YtmfkpllnmmfpiaaGreatDoor
open Go.RowKit
theorem Pairing.drewN {w wr:World} {wb:Nat} {H:Hd} {Z:Nat->Prop} {v:Value} {ps:List (Nat × Nat)} {S:WS} (h:Pairing w wr wb H Z v ps S) (n:Nat):Pairing w (wr.drewN n) wb H Z v ps S:=by
 obtain ⟨⟨bk,hw,hb⟩,hr,hu⟩:=h
 exact ⟨⟨bk,hw.later ((Upd.refl [] _).drewN n) (fun _ _=>by simp),hb⟩,((Upd.refl [] wr).drewN n).ownsRow hr (fun _ _=>by simp),hu.drewN n⟩
theorem Pairing.grow {w w2 w3:World} {wb n g cap:Nat} {H:Hd} {Z:Nat->Prop} {v:Value} {ps:List (Nat × Nat)} {x:Nat × Nat} {S:WS} {X:Obj} (h:Pairing w w2 wb H Z v ps S) (hg:((w2.alloc X).drewN n).grownBy w3 v.ownBlock) (hat:v.ownBlock=some g\/g=((w2.alloc X).drewN n).heap.size)
  (hown:w3.ownsRow w.heap.size 231 2 (.slice (some ⟨g,0,none⟩) (ps.length+1) cap) (ps.length+1) (flat2 ps++[.int .i64 x.1,.int .i64 x.2])) :
  Pairing w w3 wb H Z (.slice (some ⟨g,0,none⟩) (ps.length+1) cap) (ps++[x]) S:=by
 obtain ⟨⟨bk,hw,hb⟩,hr,hu⟩:=h
 have U:Upd v.ownBlock.toList w2 w3:=(((Upd.refl _ w2).alloc X).drewN n).trans (Upd.of_grown hg)
 have e1:((w2.alloc X).drewN n).heap.size=w2.heap.size+1:=by
  show (w2.alloc X).heap.size=_
  simp
 have hlo:=hown.lt g rfl
 refine ⟨⟨bk,?_,hb⟩,?_,hu.trans' U (fun k hk hl=>?_)⟩
 ·refine ((hw.mono (Z':=fun k=>((Z k\/w.heap.size<=k)/\v.ownBlock ≠ some k)/\k < w2.heap.size) (fun k hk hl=>⟨hk,hl⟩)).later U (fun k hk hm=>hk.1.2 (by simpa using hm))).mono (fun k hk _=>⟨hk.1.1,fun e=>?_⟩)
  simp only [own_slice,Option.some.injEq] at e
  subst e
  rcases hat with hat | hat
  ·exact hk.1.2 hat
  ·omega
 ·rw [flat2_append]
  simpa [flat2] using hown
 ·have:=(hr.lt k (by simpa using hk)).1
  omega
theorem twins_any (w:World) (wb:Nat) (H:Hd) (Z:Nat->Prop) (S:WS) (h:WebAt w wb H Z S) (hlen:S.shapes.length=S.classes.length) (hsm:S.shapes.length<=50000) (htr:S.trail.length+S.shapes.length<=9000000) (hfl:S.files+S.shapes.length<=9000000)
  (hfit:∀ i,i < S.shapes.length->Fits S (shapeAt S i)) (hal:∀ s t,S.alike s=some t->t < S.shapes.length) :
  Calls Tryz.prog 156 #[.pointer (some ⟨wb,0,none⟩)] w fun e w'=>∃ v bk,e=.returned v/\WebAt w' wb { H with backs:=bk } (fun k=>(Z k\/w.heap.size<=k)/\v.ownBlock ≠ some k) (twinsM S).2/\w'.ownsRow w.heap.size 231 2 v (twinsM S).1.length (flat2 (twinsM S).1)/\Upd (H.blocks wb) w w'/\∀ k ∈ ({ H with backs:=bk }:Hd).blocks wb,k ∈ H.blocks wb\/w.heap.size<=k:=by
 have hltb:=h.mem_lt
 obtain ⟨i0,hi,hz0,hz1,hz2⟩:=info_parts info_pair
 obtain ⟨g,l,cap,hcl,hl,hlc,hcm,hg⟩:∃ (g:Option Addr) (l cap:Nat),H.shapes=.slice g l cap/\l=S.shapes.length/\l<=cap/\cap<=maxLen/\(0 < l->∃ b,g=some ⟨b,0,none⟩):=by
  rcases ownsRow_slice h.rs with ⟨h1,h2⟩ | ⟨g,cap,h1,h2,h3⟩
  ·exact ⟨none,0,0,h1,h2.symm,Nat.le_refl _,Nat.zero_le _,fun h=>by omega⟩
  ·exact ⟨_,_,cap,h1,rfl,h2,h3,fun _=>⟨g,rfl⟩⟩
 have c1:=h.c1
 rw [hcl] at c1
 have hstart:Pairing w w wb H Z (.slice none 0 0) [] S:=⟨⟨H.backs,h.mono (fun k hk _=>⟨.inl hk,by simp [Value.ownBlock]⟩),fun k hk=>.inl hk⟩,World.ownsRow_nil _ _ _ _,Upd.refl _ _⟩
 have Hl:Hid (l=S.shapes.length):=hl
 have Hlen:=hide hlen
 have Hcl:Hid (H.shapes=.slice g l cap):=hcl
 have HG:=hide hg
 have Hfit:=hide hfit
 have Hal:=hide hal
 have hl1:l<=50000:=by omega
 have htr':S.trail.length+l<=9000000:=by omega
 have hfl':S.files+l<=9000000:=by omega
 unfold maxLen at hcm
 clear hl hcl hg hlen hsm htr hfl hfit hal
 go_enter Tryz.func156,Tryz.ntmps156
 go_wp2
 go_loopw [3,12] (fun v i wr=>∃ (j:Nat),j<=l/\i=.int .i64 j/\Hid (Pairing w wr wb H Z v (twinsTo S j).1 (twinsTo S j).2)) (fun _ i _=>l - (intOf i).toNat)
 case atStart=>exact ⟨0,Nat.zero_le _,rfl,hstart⟩
 case round =>
  obtain ⟨j,hj,rfl,HR⟩:=hrel
  clear hstart c1
  have hR:=HR.out
  by_cases hjl:j < l
  ·have hjl':(j:Int) < (l:Int):=by omega
   obtain ⟨b,rfl⟩:=HG.out (by omega)
   have hjS:j < S.shapes.length:=by rw [<- Hl.out]; exact hjl
   have hsame:=twinsTo_same S j
   have hplen:=twinsTo_length S j
   have hsucc:Hid (twinsTo S (j+1)=(if classAt S (fileM (twinsTo S j).2 (shapeAt S j) j).1=classAt S j then (twinsTo S j).1 else (twinsTo S j).1++[((fileM (twinsTo S j).2 (shapeAt S j) j).1,j)],(fileM (twinsTo S j).2 (shapeAt S j) j).2)):=rfl
   obtain ⟨bk,hwj,hbj⟩:=hR.ex
   have hrow:=hR.row
   have hupd:=hR.upd
   have hget:S.shapes[j]?=some (shapeAt S j):=by simp [shapeAt,List.getD,List.getElem?_eq_getElem hjS]
   have hrs:=hwj.rs
   rw [show ({ H with backs:=bk }:Hd).shapes=.slice (some ⟨b,0,none⟩) l cap from Hcl.out,hsame.shapes] at hrs
   obtain ⟨k0,k1,k2,k3,k4⟩:=row5_cells hrs hget
   have hft:Fits (twinsTo S j).2 (shapeAt S j):=(Hfit.out j hjS).same hsame.classes
   have hqr:=fileM_rows (twinsTo S j).2 (shapeAt S j) j
   have hq1:(fileM (twinsTo S j).2 (shapeAt S j) j).1 < S.classes.length:=by
    rw [<- Hlen.out]
    unfold fileM
    split
    ·rename_i u hu
     rcases hsame.al _ _ hu with h1 | h1
     ·exact Hal.out _ _ h1
     ·simp only; omega
    ·exact hjS
   have hcall:Hid (Calls Tryz.prog 157 #[.pointer (some ⟨wb,0,none⟩),shV (shapeAt S j),.int .i64 j] (wr.alloc (.cells #[.string (shapeAt S j).1,.int .i64 (shapeAt S j).2.1,.int .i64 (shapeAt S j).2.2.1,.int .i64 (shapeAt S j).2.2.2.1,.int .i64 (shapeAt S j).2.2.2.2] 141)) _) :=
    file_any (wr.alloc (.cells #[.string (shapeAt S j).1,.int .i64 (shapeAt S j).2.1,.int .i64 (shapeAt S j).2.2.1,.int .i64 (shapeAt S j).2.2.2.1,.int .i64 (shapeAt S j).2.2.2.2] 141)) wb { H with backs:=bk } (fun k=>((Z k\/w.heap.size<=k)/\u3.ownBlock ≠ some k)/\k < wr.heap.size) (twinsTo S j).2 (shapeAt S j) j ((hwj.mono (Z':=fun k=>((Z k\/w.heap.size<=k)/\u3.ownBlock ≠ some k)/\k < wr.heap.size) (fun k hk hl=>⟨hk,hl⟩)).later ((Upd.refl [] wr).alloc _) (fun _ _=>by simp)) hft (by omega) (by have:=hsame.trail; omega) (by have:=hsame.files; unfold maxLen; omega) (fun k hk=>by have:=hk.2; simp; omega)
   have hclS:(fileM (twinsTo S j).2 (shapeAt S j) j).2.classes=S.classes:=hqr.2.1.trans hsame.classes
   have Hq:Hid (twinsTo S (j+1)=(if classAt S (fileM (twinsTo S j).2 (shapeAt S j) j).1=classAt S j then (twinsTo S j).1 else (twinsTo S j).1++[((fileM (twinsTo S j).2 (shapeAt S j) j).1,j)],(fileM (twinsTo S j).2 (shapeAt S j) j).2)):=hsucc
   clear hsucc hqr hft hrs hget hsame
   generalize fileM (twinsTo S j).2 (shapeAt S j) j=q at *
   generalize (twinsTo S j).1=ps at *
   obtain ⟨gc,capc,hcc,_,_⟩:∃ gc capc,H.classes=.slice (some ⟨gc,0,none⟩) S.classes.length capc/\S.classes.length<=capc/\capc<=maxLen:=by
    rcases ownsRow_slice h.rc with ⟨_,h0⟩ | hh
    ·omega
    ·exact hh
   have Hcc:=hide hcc
   have Hcs:=hide hclS
   have hjC:j < S.classes.length:=by rw [<- Hlen.out]; exact hjS
   have HF:Hid (∀ bk2 w2,WebAt w2 wb { H with backs:=bk2 } (fun k=>(((Z k\/w.heap.size<=k)/\u3.ownBlock ≠ some k)/\k < wr.heap.size)\/(wr.alloc (.cells #[.string (shapeAt S j).1,.int .i64 (shapeAt S j).2.1,.int .i64 (shapeAt S j).2.2.1,.int .i64 (shapeAt S j).2.2.2.1,.int .i64 (shapeAt S j).2.2.2.2] 141)).heap.size<=k) q.2->w2.cell? ⟨wb,4,none⟩=some (.slice (some ⟨gc,0,none⟩) S.classes.length capc)/\w2.cell? ⟨gc,q.1,none⟩=some (.int .i64 (classAt S q.1))/\w2.cell? ⟨gc,j,none⟩=some (.int .i64 (classAt S j))):=fun bk2 w2 hw2=>by
    have hr:=hw2.rc
    rw [show ({ H with backs:=bk2 }:Hd).classes=.slice (some ⟨gc,0,none⟩) S.classes.length capc from Hcc.out,Hcs.out] at hr
    have hc3:=hw2.c3
    rw [show ({ H with backs:=bk2 }:Hd).classes=.slice (some ⟨gc,0,none⟩) S.classes.length capc from Hcc.out] at hc3
    exact ⟨hc3,row1_cell hr hq1,row1_cell hr hjC⟩
   have hq1':(q.1:Int) < (S.classes.length:Int):=by omega
   have hjC':(j:Int) < (S.classes.length:Int):=by omega
   have Hw:=hide hwj
   have Hbj:=hide hbj
   unfold shV at hcall
   clear hcc hclS hwj hbj hR
   go_wp2_with (go_at_call 157; refine hcall.out.mono ?_; rintro e w2 ⟨bk2,rfl,hw2,hu2,hH2⟩; obtain ⟨y3,y4,y5⟩:=HF.out bk2 w2 hw2)
   have hszr:=hupd.size
   have e1:(wr.alloc (.cells #[.string (shapeAt S j).1,.int .i64 (shapeAt S j).2.1,.int .i64 (shapeAt S j).2.2.1,.int .i64 (shapeAt S j).2.2.2.1,.int .i64 (shapeAt S j).2.2.2.2] 141)).heap.size=wr.heap.size+1:=by simp
   have hs2:=hu2.size
   have hv3:∀ k,u3.ownBlock=some k->w.heap.size<=k/\k < wr.heap.size:=fun k hk=>hrow.lt k hk
   have HN:Hid (Pairing w w2 wb H Z u3 ps q.2):=by
    refine ⟨⟨bk2,hw2.mono (fun k hk _=>?_),fun k hk=>?_⟩,?_,(hupd.alloc _).trans' hu2 (fun k hk hl=>?_)⟩
    ·rcases hk with hk | hk
     ·exact hk.1
     ·exact ⟨.inr (by omega),fun e=>by have:=hv3 k e; omega⟩
    ·rcases hH2 k hk with h3 | h3
     ·exact Hbj.out k h3
     ·exact .inr (by omega)
    ·exact hu2.ownsRow (((Upd.refl [] wr).alloc _).ownsRow hrow (fun _ _=>by simp)) (fun k hk hm=>(Hw.out.inZ k hm).2 hk)
    ·rcases Hbj.out k hk with h3 | h3
     ·exact h3
     ·omega
   clear hw2 hu2 hH2 hrow hcall HF
   by_cases hcq:classAt S q.1=classAt S j
   ·have hcq':((classAt S q.1:Int) != (classAt S j:Int))=false:=by simp; omega
    have hs1:=Hq.out
    rw [if_pos hcq] at hs1
    have Hs1:=hide hs1
    clear hs1 hcq
    go_wp2
    go_quiet (fail)
    go_wp2
    refine ⟨⟨j+1,by omega,by go_num,?_⟩,by simp [intOf]; omega⟩
    show Pairing _ _ _ _ _ _ _ _
    rw [Hs1.out]
    exact HN.out.drewN _
   ·have hcq':((classAt S q.1:Int) != (classAt S j:Int))=true:=by simp; omega
    have hs1:=Hq.out
    rw [if_neg hcq] at hs1
    have Hs1:=hide hs1
    clear hs1 hcq
    have hrow2:∀ nq,((w2.alloc (.cells #[.int .i64 q.1,.int .i64 j] 231)).drewN nq).ownsRow w.heap.size 231 2 u3 ps.length (flat2 ps):=fun nq=>(((Upd.refl [] w2).alloc _).drewN nq).ownsRow HN.out.row (fun _ _=>by simp)
    have hnews:∀ nq,∀ i u,[Value.int .i64 q.1,.int .i64 j][i]?=some u->((w2.alloc (.cells #[.int .i64 q.1,.int .i64 j] 231)).drewN nq).cell? ((⟨w2.heap.size,0,none⟩:Addr).add i)=some u:=fun nq=>World.news_of_block (heap_alloc_new w2 _)
    have hone:∀ u ∈ [Value.int .i64 q.1,.int .i64 j],u.oneCell'=true:=by intro u hu'; simp at hu'; rcases hu' with rfl | rfl <;> rfl
    go_wp2
    go_quiet (fail)
    go_wp2_with (at_builtin; refine wpList_append_lies _ rfl _ _ 232 rfl w.heap.size 231 i0 (.agg #[.int .i64 0,.int .i64 0]) 2 16 Tryz.underlying232 hi hz0 hz1 hz2 rfl (by decide) u3 ps.length (flat2 ps) rfl (hrow2 _) ⟨w2.heap.size,0,none⟩ 1 1 [.int .i64 q.1,.int .i64 j] rfl rfl (hnews _) hone (by decide) (by unfold maxLen; omega) (by omega) (by simp; omega) _ rfl ?_; intro g cap w3 hown' hgrow hat hlt3)
    refine ⟨⟨j+1,by omega,by go_num,?_⟩,by simp [intOf]; omega⟩
    show Pairing _ _ _ _ _ _ _ _
    rw [Hs1.out]
    exact HN.out.grow hgrow hat hown'
  ·obtain rfl:j=l:=by omega
   have hge:¬ (j:Int) < (j:Int):=by omega
   have HM:Hid (twinsM S=twinsTo S j):=by show _=_; unfold twinsM; rw [<- Hl.out]
   obtain ⟨bk,hwj,hbj⟩:=hR.ex
   have hrow:=hR.row
   have hupd:=hR.upd
   have Hbj:=hide hbj
   have Hw:=hide hwj
   have Hrow:=hide hrow
   clear hbj hwj hR hrow
   go_wp2
   go_ret
   exact ⟨_,rfl,bk,by rw [HM.out]; exact Hw.out,by rw [HM.out]; exact Hrow.out,hupd,Hbj.out⟩
def PairsAt (w:World) (b:Nat) (v:Value) (ps:List (Nat × Nat)):Prop :=
 ∃ ao off cap,v=.slice ao ps.length cap/\cap<=maxLen/\Came w 2 ao b off ps.length cap (flat2 ps)
theorem flat2_length (l:List (Nat × Nat)):(flat2 l).length=l.length * 2:=by
 induction l with
 | nil=>rfl
 | cons p l ih=>simp [flat2,ih]; omega
theorem flat2_one:∀ (l:List (Nat × Nat)),∀ u ∈ flat2 l,u.oneCell'=true
 | [],u,h=>by simp [flat2] at h
 | p :: l,u,h=>by
  simp only [flat2,List.mem_cons] at h
  rcases h with rfl | rfl | h
  ·rfl
  ·rfl
  ·exact flat2_one l u h
theorem PairsAt.later {w w':World} {L:List Nat} {b:Nat} {v:Value} {ps:List (Nat × Nat)} (h:PairsAt w b v ps) (U:Upd L w w') (hb:b ∉ L):PairsAt w' b v ps:=by
 obtain ⟨ao,off,cap,hv,hm,hc⟩:=h
 refine ⟨ao,off,cap,hv,hm,hc.le,hc.addr,fun h0=>Nat.lt_of_lt_of_le (hc.lt h0) U.size,hc.oldsLen,fun j u hu=>?_,fun j hj=>?_⟩
 ·have h1:=hc.olds j u hu
  exact (U.cell (p:=⟨b,off+j,none⟩) (World.block_lt_of_cell? _ _ h1) hb).trans h1
 ·obtain ⟨h1,h2⟩:=hc.spare j hj
  obtain ⟨u,hu⟩:=Option.isSome_iff_exists.1 h1
  have hlt:=World.block_lt_of_cell? _ _ hu
  exact ⟨by rw [U.cell (p:=⟨b,off+ps.length * 2+j,none⟩) hlt hb]; exact h1,(U.frozen (p:=⟨b,off+ps.length * 2+j,none⟩) hlt hb).trans h2⟩
theorem src_row {w:World} {base:Nat} {v:Value} {qs:List (Nat × Nat)} (h:w.ownsRow base 231 2 v qs.length (flat2 qs)):Src Tryz.prog 2 232 v qs.length (flat2 qs) w:=by
 rcases ownsRow_slice h with ⟨rfl,h0⟩ | ⟨g,cap,rfl,_,_⟩
 ·have:qs=[]:=List.eq_nil_of_length_eq_zero (by omega)
  subst this
  exact Src.ofNil w Tryz.underlying232 0
 ·exact Src.ofSlice w Tryz.underlying232 _ _ _ _ (flat2_length qs) (fun j u hu=>h.cells rfl j u hu) (flat2_one qs)
theorem setCells_upd (g:Nat):∀ (vs:List Value) (o:Nat) (w:World),Upd [g] w (w.setCells g o vs)
 | [],_,w=>Upd.refl _ w
 | v :: vs,o,w=>((Upd.refl [g] w).setCell (p:=⟨g,o,none⟩) (by simp) v).trans (setCells_upd g vs (o+1) _)
theorem firstCells_zero (ao:Option Addr) (cap:Nat) (w:World):(Builtin.firstCells 2 0 (.slice ao 0 cap)).run Tryz.prog w=.ok #[] w:=by
 cases ao with
 | none=>exact run_firstCells_none w 2 0 0 cap
 | some a=>exact run_firstCells_some w 2 0 a 0 cap [] rfl (fun j u hu=>by simp at hu)
theorem cell_new_row {w:World} {arr:Array Value} {e j:Nat}:(w.alloc (.cells arr e)).cell? ⟨w.heap.size,j,none⟩=arr[j]?/\(w.alloc (.cells arr e)).frozen? ⟨w.heap.size,j,none⟩=false:=by
 have hg:(w.alloc (.cells arr e)).heap[w.heap.size]?=some (.cells arr e):=heap_alloc_new w _
 exact ⟨cell_of_row _ _ j arr e (0,0) hg,by unfold World.frozen?; rw [hg]; simp⟩
theorem append_pairs {w:World} {b base:Nat} {v x:Value} {ps qs:List (Nat × Nat)} (h:PairsAt w b v ps) (hx:w.ownsRow base 231 2 x qs.length (flat2 qs)) (hn:ps.length+qs.length<=1000000) (ty:TypeId) :
  ∃ v' w' b',(Builtin.append_ #[232,232] ty #[v,x]).run Tryz.prog w=.ok v' w'/\PairsAt w' b' v' (ps++qs)/\Upd [b] w w'/\(b'=b\/b'=w.heap.size):=by
 obtain ⟨ao,off,cap,rfl,hm,hc⟩:=h
 obtain ⟨i0,hi,hz0,hz1,hz2⟩:=info_parts info_pair
 have hs:=src_row hx
 have hs':Src Tryz.prog i0.size 232 x qs.length (flat2 qs) w:=by rw [hz1]; exact hs
 have hlen:(ps++qs).length=ps.length+qs.length:=by simp
 have hq:=flat2_length qs
 by_cases hq0:qs=[]
 ·subst hq0
  have hrun:=run_append_nothing (P:=Tryz.prog) w 232 232 ty 231 i0 Tryz.underlying232 hi ao ps.length cap hc.le x hs'
  exact ⟨_,w,b,hrun,⟨ao,off,cap,by simp,hm,by simpa using hc⟩,Upd.refl _ _,.inl rfl⟩
 ·have hqp:0 < qs.length:=List.length_pos_iff.2 hq0
  by_cases hroom:ps.length+qs.length<=cap
  ·have hao:=hc.addr (by omega)
   subst hao
   have hsp:∀ j,j < (flat2 qs).length->j < (cap - ps.length) * 2:=fun j hj=>by omega
   have hrun:=run_append_room_src (P:=Tryz.prog) w 232 232 ty 231 i0 Tryz.underlying232 hi b off ps.length cap x qs.length (flat2 qs) hs' hroom
    (fun j hj=>by rw [hz1]; exact (hc.spare j (hsp j hj)).1) (fun j hj=>by rw [hz1]; exact (hc.spare j (hsp j hj)).2)
   rw [hz1] at hrun
   refine ⟨_,_,b,hrun,⟨_,off,cap,by rw [hlen],hm,by omega,fun _=>rfl,fun h0=>Nat.lt_of_lt_of_le (hc.lt h0) (setCells_upd b _ _ w).size,by rw [flat2_length],fun j u hu=>?_,fun j hj=>?_⟩,setCells_upd b _ _ w,.inl rfl⟩
   ·rw [flat2_append] at hu
    have hp:=flat2_length ps
    by_cases hj:j < (flat2 ps).length
    ·rw [List.getElem?_append_left hj] at hu
     rw [World.cell?_setCells_out b _ _ _ _ (fun _ _=>.inl (by show off+j < off+ps.length * 2; omega))]
     exact hc.olds j u hu
    ·rw [List.getElem?_append_right (by omega)] at hu
     have hj2:=(List.getElem?_eq_some_iff.1 hu).1
     have:=World.cell?_setCells_in b (flat2 qs) (off+ps.length * 2) w (fun j hj=>(hc.spare j (hsp j hj)).1) (j - (flat2 ps).length) hj2
     rw [show off+ps.length * 2+(j - (flat2 ps).length)=off+j by omega] at this
     rw [this,<- hu,List.getElem?_eq_getElem hj2]
   ·rw [hlen] at hj ⊢
    have h1:=hc.spare (qs.length * 2+j) (by omega)
    rw [show off+ps.length * 2+(qs.length * 2+j)=off+(ps.length+qs.length) * 2+j by omega] at h1
    refine ⟨?_,by rw [World.frozen?_setCells]; exact h1.2⟩
    rw [World.cell?_setCells_out b _ _ _ _ (fun _ _=>.inr (by show off+ps.length * 2+(flat2 qs).length<=off+(ps.length+qs.length) * 2+j; omega))]
    exact h1.1
  ·have hold:(Builtin.firstCells i0.size ps.length (.slice ao ps.length cap)).run Tryz.prog w.drew=.ok (flat2 ps).toArray w.drew:=by
    rw [hz1]
    by_cases hcap:0 < cap
    ·rw [hc.addr hcap]
     exact run_firstCells_some w.drew 2 ps.length ⟨b,off,none⟩ ps.length cap (flat2 ps) hc.oldsLen (fun j u hu=>by rw [Addr.add_lit]; exact hc.olds j u hu)
    ·have hle:=hc.le
     have:ps=[]:=List.eq_nil_of_length_eq_zero (by omega)
     subst this
     exact firstCells_zero ao cap w.drew
   have hgrow:=run_append_grow_src (P:=Tryz.prog) w 232 232 ty 231 i0 _ Tryz.underlying232 hi hz0 ao ps.length cap (flat2 ps) hold x qs.length (flat2 qs) hs' (by omega) (by omega) (growslice_fits (bytes:=i0.bytes) (by omega) (by rw [hz2]; omega))
   have hge:=grownCap_ge w (ps.length+qs.length) cap 231
   have hcm:grownCap w (ps.length+qs.length) cap 231<=maxLen:=grownCap_le_maxLen w _ cap 231 (by unfold maxLen; omega)
   have U:Upd [b] w (w.drew.alloc (.cells ((flat2 ps++flat2 qs).toArray++Builtin.zeroCells (Value.agg #[.int .i64 0,.int .i64 0]).cells (grownCap w (ps.length+qs.length) cap 231 - (ps.length+qs.length))) 231)):=((Upd.refl [b] w).drew).alloc _
   refine ⟨_,_,w.heap.size,hgrow,?_,U,.inr rfl⟩
   refine ⟨_,0,_,by rw [hlen],hcm,by rw [hlen]; exact hge,fun _=>rfl,fun _=>by simp,by rw [flat2_length],fun j u hu=>?_,fun j hj=>?_⟩
   ·have hj:=(List.getElem?_eq_some_iff.1 hu).1
    rw [Nat.zero_add]
    have h1:=(cell_new_row (w:=w.drew) (j:=j) (e:=231) (arr:=(flat2 ps++flat2 qs).toArray++Builtin.zeroCells (Value.agg #[.int .i64 0,.int .i64 0]).cells (grownCap w (ps.length+qs.length) cap 231 - (ps.length+qs.length)))).1
    rw [flat2_append] at hu hj
    refine Eq.trans h1 ?_
    rw [Array.getElem?_append_left (by simpa using hj)]
    simpa using hu
   ·have h1:=cell_new_row (w:=w.drew) (j:=0+(ps++qs).length * 2+j) (e:=231) (arr:=(flat2 ps++flat2 qs).toArray++Builtin.zeroCells (Value.agg #[.int .i64 0,.int .i64 0]).cells (grownCap w (ps.length+qs.length) cap 231 - (ps.length+qs.length)))
    refine ⟨?_,h1.2⟩
    have e1:=h1.1
    have hp:=flat2_length ps
    refine (congrArg Option.isSome e1).trans ?_
    rw [Option.isSome_iff_ne_none]
    intro e2
    rw [Array.getElem?_eq_none_iff] at e2
    have hz:(Value.agg #[.int .i64 0,.int .i64 0]).cells.size=2:=rfl
    simp only [Array.size_append,List.size_toArray,size_zeroCells,List.length_append,hp,hq,hz] at e2
    rw [hlen] at hj
    omega
theorem wpList_append_pairs (w:World) {ops:Array Oper} {rest:List Oper} {o:Oper} {a:Act} {Q:Exit->Act->World->Prop} (hgd:o.guard=none) (s x:Operand) (ho:o.op=.call { callee:=.builtin .append,args:=#[s,x],argTypes:=#[232,232] })
  {b base:Nat} {v xv:Value} {ps qs:List (Nat × Nat)} (hv:a.eval s=v) (hx:a.eval x=xv) (h:PairsAt w b v ps) (hrow:w.ownsRow base 231 2 xv qs.length (flat2 qs)) (hn:ps.length+qs.length<=1000000)
  (hK:∀ v' w' b',PairsAt w' b' v' (ps++qs)->Upd [b] w w'->(b'=b\/b'=w.heap.size)->wpList Tryz.prog ops Q rest (a.put o.dst v') w'):wpList Tryz.prog ops Q (o :: rest) a w:=by
 refine wpList_plain hgd fun K hK'=>?_
 obtain ⟨v',w',b',hrun,h1,h2,h3⟩:=append_pairs h hrow hn o.type
 unfold Oper.wp
 simp [execOp,ho,resolve,invoke,builtin,hv,hx,hrun,Result.andThen]
 exact hK' _ _ (hK v' w' b' h1 h2 h3)
end Go.Proofs.YtmfkpllnmmfpiaaGreatDoor
