/- RefRowsLaw, RefRowsRead -/
import Derived.Test.YtmfkpllnmmfpiaaGreatDoorRowsPlainA
import Derived.Test.YtmfkpllnmmfpiaaGreatDoorRowCompA
set_option maxHeartbeats 16000000
set_option maxRecDepth 100000
namespace Go.Proofs.YtmfkpllnmmfpiaaGreatDoor
open Go.RowKit
def putRow (out:List RowP) (r:RowP):List RowP :=
 match out.dropWhile (fun x=>aheadR x r) with
 | []=>out.takeWhile (fun x=>aheadR x r)++[r]
 | y :: q=>if alikeR y r then out else out.takeWhile (fun x=>aheadR x r)++r :: y :: q
noncomputable def rowsD (ls:List (List ByteArray)) (ts:List Trm) (j:Nat):List RowP:=(ts.take j).foldl (fun out t=>putRow out (rowT ls t)) []
theorem rowsD_succ {ls:List (List ByteArray)} {ts:List Trm} {j:Nat} {t:Trm} (h:ts[j]?=some t):rowsD ls ts (j+1)=putRow (rowsD ls ts j) (rowT ls t):=by
 obtain ⟨hlt,e⟩:=List.getElem?_eq_some_iff.1 h
 unfold rowsD
 rw [List.take_succ_eq_append_getElem hlt,List.foldl_append,e]
 rfl
theorem putRow_at {out:List RowP} {r:RowP} {j:Nat} (h1:∀ q x,q < j->out[q]?=some x->aheadR x r=true) (h2:j=out.length\/∃ x,out[j]?=some x/\aheadR x r=false) (h3:∀ x,out[j]?=some x->alikeR x r=false):putRow out r=out.take j++r :: out.drop j:=by
 obtain ⟨e1,e2⟩:=takeWhile_len (p:=fun x=>aheadR x r) h1 h2
 unfold putRow
 rw [e1,e2]
 cases hd:out.drop j with
 | nil=>rfl
 | cons y q =>
  have hy:out[j]?=some y:=by
   have:=congrArg List.head? hd
   rw [List.head?_drop] at this
   exact this
  simp only [h3 y hy]
  rfl
theorem putRow_twice {out:List RowP} {r:RowP} {j:Nat} {x:RowP} (h1:∀ q x,q < j->out[q]?=some x->aheadR x r=true) (hx:out[j]?=some x) (ha:aheadR x r=false) (h3:alikeR x r=true):putRow out r=out:=by
 obtain ⟨e1,e2⟩:=takeWhile_len (p:=fun x=>aheadR x r) h1 (.inr ⟨x,hx,ha⟩)
 unfold putRow
 rw [e1,e2]
 obtain ⟨hl,e⟩:=List.getElem?_eq_some_iff.1 hx
 rw [List.drop_eq_getElem_cons hl]
 simp only [e,h3]
 rfl
theorem alike_not {x y:RowP} (h:aheadR x y=true):alikeR x y=false:=by
 unfold aheadR at h
 unfold alikeR
 have:=of_decide_eq_true h
 exact decide_eq_false (by omega)
theorem putRow_length (out:List RowP) (r:RowP):(putRow out r).length<=out.length+1:=by
 have h:(out.takeWhile (fun x=>aheadR x r)).length+(out.dropWhile (fun x=>aheadR x r)).length=out.length:=by rw [<- List.length_append,List.takeWhile_append_dropWhile]
 unfold putRow
 split
 ·rename_i e
  rw [e] at h
  simp at h ⊢
  omega
 ·rename_i y q e
  rw [e] at h
  split
  ·omega
  ·simp at h ⊢
   omega
theorem rowsD_length (ls:List (List ByteArray)) (ts:List Trm):∀ j,j<=ts.length->(rowsD ls ts j).length<=j
 | 0,_=>by simp [rowsD]
 | j+1,h=>by
  have ih:=rowsD_length ls ts j (by omega)
  obtain ⟨t,ht⟩:∃ t,ts[j]?=some t:=⟨_,List.getElem?_eq_getElem (by omega)⟩
  rw [rowsD_succ ht]
  have:=putRow_length (rowsD ls ts j) (rowT ls t)
  omega
structure RowB (w4 wr:World) (RB:Nat) (nm:ByteArray) (val:Nat) (vA:Value) (bs:List Nat):Prop where
 lt:RB < wr.heap.size
 free:∀ o,wr.frozen? ⟨RB,o,none⟩=false
 c0:wr.cell? ⟨RB,0,none⟩=some (.string nm)
 c1:wr.cell? ⟨RB,1,none⟩=some vA
 c2:wr.cell? ⟨RB,2,none⟩=some (.int .i64 val)
 row:wr.ownsRow (RB+1) 3 1 vA bs.length (intsOf bs)
 ge:w4.heap.size<=RB
 upd:Upd [] w4 wr
theorem RowB.grown {w4 wr w1 w3:World} {RB val:Nat} {nm:ByteArray} {vA:Value} {bs:List Nat} (h:RowB w4 wr RB nm val vA bs) (hu:Upd [] wr w1) (hg:w1.grownBy w3 vA.ownBlock):w3.cell? ⟨RB,1,none⟩=some vA/\∀ o,w3.frozen? ⟨RB,o,none⟩=false:=by
 have hnt:RB ∉ vA.ownBlock.toList:=fun hm=>by have:=own_geT h.row (by simpa using hm); omega
 have U:Upd vA.ownBlock.toList wr w3:=(hu.mono (fun x hx _=>by cases hx)).trans (Upd.of_grown hg)
 exact ⟨(U.cell (p:=⟨RB,1,none⟩) h.lt hnt).trans h.c1,fun o=>(U.frozen (p:=⟨RB,o,none⟩) h.lt hnt).trans (h.free o)⟩
theorem RowB.next {w4 wr w1 w3:World} {RB val g cap a:Nat} {nm:ByteArray} {vA:Value} {bs:List Nat} (h:RowB w4 wr RB nm val vA bs) (hu:Upd [] wr w1) (hg:w1.grownBy w3 vA.ownBlock) (hat:vA.ownBlock=some g\/g=w1.heap.size)
  (hown:w3.ownsRow (RB+1) 3 1 (.slice (some ⟨g,0,none⟩) (bs.length+1) cap) (bs.length+1) (intsOf bs++[.int .i64 a])):RowB w4 (w3.setCell ⟨RB,1,none⟩ (.slice (some ⟨g,0,none⟩) (bs.length+1) cap)) RB nm val (.slice (some ⟨g,0,none⟩) (bs.length+1) cap) (bs++[a]):=by
 have h0:=h.lt
 have hs:=hu.size
 have hge:=h.ge
 have hs4:=h.upd.size
 have hvge:∀ k,vA.ownBlock=some k->RB < k/\k < wr.heap.size:=fun k hk=>⟨own_geT h.row hk,ownsRow_lt h.row hk⟩
 have hnt:RB ∉ vA.ownBlock.toList:=fun hm=>by have:=hvge RB (by simpa using hm); omega
 have U:Upd vA.ownBlock.toList wr w3:=(hu.mono (fun x hx _=>by cases hx)).trans (Upd.of_grown hg)
 have g0:=(U.cell (p:=⟨RB,0,none⟩) h.lt hnt).trans h.c0
 have g1:=(U.cell (p:=⟨RB,1,none⟩) h.lt hnt).trans h.c1
 have g2:=(U.cell (p:=⟨RB,2,none⟩) h.lt hnt).trans h.c2
 have gf:∀ o,w3.frozen? ⟨RB,o,none⟩=false:=fun o=>(U.frozen (p:=⟨RB,o,none⟩) h.lt hnt).trans (h.free o)
 have hlt3:RB < w3.heap.size:=Nat.lt_of_lt_of_le h.lt U.size
 have hgt:RB < g:=by rcases hat with hat | hat; exact (hvge g hat).1; omega
 have hu3:Upd [RB] w3 (w3.setCell ⟨RB,1,none⟩ (.slice (some ⟨g,0,none⟩) (bs.length+1) cap)):=(Upd.refl [RB] w3).setCell (by simp) _
 have UU:Upd (RB :: vA.ownBlock.toList) wr (w3.setCell ⟨RB,1,none⟩ (.slice (some ⟨g,0,none⟩) (bs.length+1) cap)):=(U.mono (fun x hx _=>by simp at hx ⊢; exact .inr hx)).setCell (by simp) _
 refine ⟨by simpa using hlt3,fun o=>by simpa using gf o,by go_simp,by go_simp,by go_simp,?_,hge,h.upd.trans' UU (fun k hk hl=>?_)⟩
 ·have:=hu3.ownsRow hown (fun k hk hm=>by simp [Value.ownBlock] at hk hm; omega)
  simpa [intsOf] using this
 ·simp at hk
  rcases hk with hk | hk
  ·omega
  ·have:=hvge k hk; omega
structure RRead (w:World) (B:Nat) (v:Value) (xs:List RX):Prop where
 row:w.ownsRow B 88 3 v xs.length (flatR xs)
 args:∀ x ∈ xs,IntsAt w x.2 x.1.args
theorem RRead.later {w w':World} {B:Nat} {v:Value} {xs:List RX} (h:RRead w B v xs) (hu:Upd [] w w'):RRead w' B v xs :=
 ⟨hu.ownsRow h.row (fun _ _=>by simp),fun x hx=>(h.args x hx).later hu (fun _ _=>by simp)⟩
theorem RRead.form {w:World} {B:Nat} {v:Value} {xs:List RX} (h:RRead w B v xs):∃ a cap,v=.slice a xs.length cap/\xs.length<=cap/\cap<=maxLen/\(a=none->cap=0)/\(0 < xs.length->∃ g,a=some ⟨g,0,none⟩/\g < w.heap.size/\∀ q u,(flatR xs)[q]?=some u->w.cell? ⟨g,q,none⟩=some u):=by
 rcases ownsRow_slice h.row with ⟨h1,h2⟩ | ⟨g,cap,h1,h2,h3⟩
 ·rw [h2]
  exact ⟨none,0,h1,Nat.le_refl _,by simp [maxLen],fun _=>rfl,fun h=>absurd h (Nat.lt_irrefl _)⟩
 ·have hr:=h.row
  subst h1
  refine ⟨_,cap,rfl,h2,h3,fun e=>(by cases e),fun _=>⟨g,rfl,ownsRow_lt hr rfl,fun q u hu=>?_⟩⟩
  have hi:=(List.getElem?_eq_some_iff.1 hu).1
  rw [flatR_length] at hi
  have:=hr.cellAt q hi
  rw [this,hu]
theorem flat_cells {w:World} {g:Nat} {xs:List RX} (h:∀ q u,(flatR xs)[q]?=some u->w.cell? ⟨g,q,none⟩=some u) {i:Nat} {x:RX} (hx:xs[i]?=some x):w.cell? ⟨g,i * 3,none⟩=some (.string x.1.name)/\w.cell? ⟨g,i * 3+1,none⟩=some x.2/\w.cell? ⟨g,i * 3+2,none⟩=some (.int .i64 x.1.value) :=
 ⟨h _ _ ((flatR_get xs i 0 x hx (by omega)).trans rfl),h _ _ ((flatR_get xs i 1 x hx (by omega)).trans rfl),h _ _ ((flatR_get xs i 2 x hx (by omega)).trans rfl)⟩
theorem flatR_take (xs:List RX):∀ j,flatR (xs.take j)=(flatR xs).take (j * 3):=by
 intro j
 by_cases hj:j<=xs.length
 ·have h:=flatR_append (xs.take j) (xs.drop j)
  rw [List.take_append_drop] at h
  rw [h,List.take_left' (by rw [flatR_length,List.length_take]; omega)]
 ·rw [List.take_of_length_le (by omega),List.take_of_length_le (by rw [flatR_length]; omega)]
theorem flatR_drop (xs:List RX):∀ j,flatR (xs.drop j)=(flatR xs).drop (j * 3):=by
 intro j
 by_cases hj:j<=xs.length
 ·have h:=flatR_append (xs.take j) (xs.drop j)
  rw [List.take_append_drop] at h
  rw [h,List.drop_left' (by rw [flatR_length,List.length_take]; omega)]
 ·rw [List.drop_eq_nil_of_le (by omega),List.drop_eq_nil_of_le (by rw [flatR_length]; omega)]
  rfl
theorem sizeL_len:∀ ps:List Trm,ps.length<=Trm.sizeL ps
 | []=>by simp
 | .node nm qs :: ps=>by
  have:=sizeL_len ps
  simp only [List.length_cons,Trm.sizeL,Trm.size]
  omega
theorem part_size {t u:Trm} (h:Part t u):t.size<=u.size:=by
 induction h with
 | self _=>exact Nat.le_refl _
 | within hm _ ih =>
  have:=sizeL_mem hm
  simp only [Trm.size]
  omega
theorem parts_few {L:List ST} (hok:∀ s ∈ L,STOK s) (hsm:SmallL L) {nm:ByteArray} {ps:List Trm} (h:Trm.node nm ps ∈ termsR L):ps.length<=1000:=by
 obtain ⟨s,hs,hp⟩:=((termsR_ok hok).2 _).1 h
 have h1:=hsm s hs
 unfold ST.size at h1
 have h2:=sizeL_len ps
 rcases hp with hp | hp
 ·have:=part_size hp
  simp only [Trm.size] at this
  omega
 ·have:=part_size hp
  simp only [Trm.size] at this
  omega
theorem classesR_by {L:List ST} (hok:∀ s ∈ L,STOK s):ClassedBy (fun y=>∃ i,i < (termsR L).length/\textAt (termsR L) i=y) (fun x y=>∃ i j,i < (termsR L).length/\j < (termsR L).length/\textAt (termsR L) i=x/\textAt (termsR L) j=y/\clsAt (drawnR L) i=clsAt (drawnR L) j) (classesR L):=by
 obtain ⟨hT,hk⟩:=termsR_ok hok
 have htx:∀ (i:Nat) (t:Trm),(termsR L)[i]?=some t->textAt (termsR L) i=t.text:=fun i t e=>by unfold textAt; rw [e]
 have hget:∀ i,i < (termsR L).length->∃ t,(termsR L)[i]?=some t:=fun i hi=>⟨_,List.getElem?_eq_getElem hi⟩
 exact classes_by (T:=textAt (termsR L)) (C:=clsAt (drawnR L)) (n:=(termsR L).length) (fun i j hi hj e=>by
  obtain ⟨t,ht⟩:=hget i hi
  obtain ⟨u,hu⟩:=hget j hj
  rw [htx i t ht,htx j u hu] at e
  have:=text_inj (hT.ok t (List.mem_of_getElem? ht)) (hT.ok u (List.mem_of_getElem? hu)) e
  subst this
  exact nodup_at hT.nodup ht hu) (fun f=>(idxT f (termsR L)).getD 0) (fun j hj=>by
  obtain ⟨t,ht⟩:=hget j hj
  show (idxT (textAt (termsR L) j) (termsR L)).getD 0=j
  rw [htx j t ht,(hT.idx (hT.ok t (List.mem_of_getElem? ht))).2 ht]
  rfl)
theorem classesR_has {L:List ST} (hok:∀ s ∈ L,STOK s) {t:Trm} (h:t ∈ termsR L):∃ l ∈ classesR L,t.text ∈ l:=by
 obtain ⟨i,hi⟩:=List.getElem?_of_mem h
 exact (classesR_by hok).all t.text ⟨i,(List.getElem?_eq_some_iff.1 hi).1,by unfold textAt; rw [hi]⟩
theorem classesR_few {L:List ST} (hn:(termsR L).length<=100000):(classesR L).length<=100000/\∀ l ∈ classesR L,l.length<=100000:=by
 unfold classesR
 refine ⟨?_,fun l hl=>?_⟩
 ·rw [List.length_map]
  have:=firstsTo_len (textAt (termsR L)) (clsAt (drawnR L)) (termsR L).length (termsR L).length
  omega
 ·obtain ⟨f,_,rfl⟩:=List.mem_map.1 hl
  have:=classTo_len (textAt (termsR L)) (clsAt (drawnR L)) (clsAt (drawnR L) ((idxT f (termsR L)).getD 0)) (termsR L).length
  omega
theorem ofText_any {L:List ST} (hok:∀ s ∈ L,STOK s) (hn:(termsR L).length<=100000) (w:World) (B:Nat) (v:Value) (rs:List Value) (h:LRead w B v rs (classesR L)) {t:Trm} (ht:t ∈ termsR L) :
  Calls Tryz.prog 105 #[v,.string t.text] w fun e w'=>e=.returned (.int .i64 (ofP (classesR L) t.text))/\w'=w:=by
 obtain ⟨l,h1,h2,h3⟩:=ofP_is (classesR_has hok ht)
 obtain ⟨f1,f2⟩:=classesR_few (L:=L) hn
 exact refOf_any w B v rs (classesR L) t.text _ l h h1 h2 h3 f1 f2
theorem RWB.reads {w0 w:World} {wb:Nat} {l:List Trm} {cl:List Nat} (h:RWB w0 w wb l cl) (hcl:cl.length=l.length):∃ av capv,w.cell? ⟨wb,0,none⟩=some (.slice av l.length capv)/\l.length<=capv/\capv<=maxLen/\wb < w.heap.size /\
  (0 < l.length->∃ gv,av=some ⟨gv,0,none⟩/\gv < w.heap.size/\∀ (i:Nat) (nm:ByteArray) (ps:List Trm),l[i]?=some (.node nm ps)->∃ tb ap capp,tb < w.heap.size/\w.cell? ⟨gv,i,none⟩=some (.pointer (some ⟨tb,0,none⟩))/\w.cell? ⟨tb,0,none⟩=some (.string nm)/\w.cell? ⟨tb,1,none⟩=some (.slice ap ps.length capp)/\w.cell? ⟨tb,2,none⟩=some (.string (Trm.node nm ps).text)/\ps.length<=capp/\capp<=maxLen /\
   (0 < ps.length->∃ gp,ap=some ⟨gp,0,none⟩/\gp < w.heap.size/\∀ (q:Nat) (p:Trm),ps[q]?=some p->∃ pb,pb < w.heap.size/\w.cell? ⟨gp,q,none⟩=some (.pointer (some ⟨pb,0,none⟩))/\w.cell? ⟨pb,2,none⟩=some (.string p.text))):=by
 by_cases hp:0 < l.length
 ·obtain ⟨gv,capv,gu,capu,cw,hw,a1,a2,b1,b2⟩:=h.at hp hcl
  refine ⟨_,capv,hw.c0,a1,a2,hw.lt,fun _=>⟨gv,rfl,ownsRow_lt hw.rowL rfl,fun i nm ps ht=>?_⟩⟩
  have hi:=(List.getElem?_eq_some_iff.1 ht).1
  obtain ⟨tb,htb⟩:∃ tb,cw[i]?=some tb:=⟨_,List.getElem?_eq_getElem (by rw [hw.len]; exact hi)⟩
  have hk:=hw.kids i tb _ htb ht
  have hc:w.cell? ⟨gv,i,none⟩=some (.pointer (some ⟨tb,0,none⟩)):=by
   rw [hw.rowL.cellAt i (by omega)]
   simp [ptrs,htb]
  cases hk with
  | @mk _ _ _ v cs k0 k1 k2 k3 k4 k5 k6 k7 k8 =>
   rcases ownsRow_slice k5 with ⟨x,y⟩ | ⟨gp,capp,x,y,z⟩
   ·refine ⟨tb,none,0,k0,hc,k2,?_,k4,by omega,by simp [maxLen],fun h=>by omega⟩
    rw [k3,x,y]
   ·subst x
    refine ⟨tb,_,capp,k0,hc,k2,k3,k4,y,z,fun _=>⟨gp,rfl,ownsRow_lt k5 rfl,fun q p hq=>?_⟩⟩
    have hql:=(List.getElem?_eq_some_iff.1 hq).1
    obtain ⟨pb,hpb⟩:∃ pb,cs[q]?=some pb:=⟨_,List.getElem?_eq_getElem (by rw [k7]; exact hql)⟩
    have hkk:=k8 q pb p hpb hq
    refine ⟨pb,hkk.lt,?_,hkk.text⟩
    rw [k5.cellAt q (by omega)]
    simp [ptrs,hpb]
 ·have h0:l.length=0:=by omega
  obtain ⟨_,v,u,cs,hw⟩:=h
  obtain ⟨av,capv,hv⟩:=slice_len hw.rowL
  have e1:=hw.c0
  rw [hv] at e1
  refine ⟨av,capv,e1,by omega,?_,hw.lt,fun hh=>absurd hh hp⟩
  rcases ownsRow_slice hw.rowL with ⟨x,_⟩ | ⟨_,_,x,_,y⟩
  ·rw [hv] at x; simp only [Value.slice.injEq] at x; rw [x.2.2]; simp [maxLen]
  ·rw [hv] at x; simp only [Value.slice.injEq] at x; rw [x.2.2]; exact y
end Go.Proofs.YtmfkpllnmmfpiaaGreatDoor
