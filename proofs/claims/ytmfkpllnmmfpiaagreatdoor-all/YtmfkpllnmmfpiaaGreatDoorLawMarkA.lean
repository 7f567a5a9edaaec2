/- RowsLaw, LawWorld, LawPlay, RefMark, LawMark -/
import Derived.Test.YtmfkpllnmmfpiaaGreatDoorRefRowsReadA
import Derived.Test.YtmfkpllnmmfpiaaGreatDoorAllOwn3A
import Derived.Test.YtmfkpllnmmfpiaaGreatDoorPlainTextA
import Derived.Test.YtmfkpllnmmfpiaaGreatDoorRowsPlainA
import Derived.Test.YtmfkpllnmmfpiaaGreatDoorRefRowsA
import Derived.Test.YtmfkpllnmmfpiaaGreatDoorRowCmpA
import Derived.Test.YtmfkpllnmmfpiaaGreatDoorLawSaidA
import Derived.Test.YtmfkpllnmmfpiaaGreatDoorBackA
import Derived.BigRegion
import Derived.Test.YtmfkpllnmmfpiaaGreatDoorRefHoldA
import Derived.Deep.RegionHeld3
set_option maxHeartbeats 16000000
set_option maxRecDepth 100000
namespace Go.Proofs.YtmfkpllnmmfpiaaGreatDoor
open Go.RowKit
theorem putRow_mem {out:List RowP} {r x:RowP} (h:x ∈ putRow out r):x=r\/x ∈ out:=by
 have e:=List.takeWhile_append_dropWhile (p:=fun x=>aheadR x r) (l:=out)
 unfold putRow at h
 split at h
 ·rename_i e2
  rw [e2,List.append_nil] at e
  rw [e] at h
  simp at h
  rcases h with h | h
  ·exact .inr h
  ·exact .inl h
 ·rename_i y q e2
  split at h
  ·exact .inr h
  ·rw [e2] at e
   rw [<- e]
   simp at h ⊢
   rcases h with h | h | h | h
   ·exact .inr (.inl h)
   ·exact .inl h
   ·exact .inr (.inr (.inl h))
   ·exact .inr (.inr (.inr h))
theorem putRow_sub {out:List RowP} {r x:RowP} (h:x ∈ out):x ∈ putRow out r:=by
 have e:=List.takeWhile_append_dropWhile (p:=fun x=>aheadR x r) (l:=out)
 unfold putRow
 split
 ·rename_i e2
  rw [e2,List.append_nil] at e
  rw [e]
  exact List.mem_append_left _ h
 ·rename_i y q e2
  split
  ·exact h
  ·rw [e2] at e
   rw [<- e] at h
   simp at h ⊢
   rcases h with h | h | h
   ·exact .inl h
   ·exact .inr (.inr (.inl h))
   ·exact .inr (.inr (.inr h))
theorem putRow_has (out:List RowP) (r:RowP):∃ x ∈ putRow out r,keyR x=keyR r:=by
 have e:=List.takeWhile_append_dropWhile (p:=fun x=>aheadR x r) (l:=out)
 unfold putRow
 split
 ·exact ⟨r,by simp,rfl⟩
 ·rename_i y q e2
  split
  ·rename_i e3
   rw [e2] at e
   refine ⟨y,by rw [<- e]; simp,cmpRow_zero.1 ?_⟩
   simpa [alikeR] using e3
  ·exact ⟨r,by simp,rfl⟩
theorem putRow_strict {out:List RowP} {r:RowP} (h:out.Pairwise (fun x y=>cmpRow x y < 0)):(putRow out r).Pairwise (fun x y=>cmpRow x y < 0):=by
 have e:=List.takeWhile_append_dropWhile (p:=fun x=>aheadR x r) (l:=out)
 have ht:∀ x ∈ out.takeWhile (fun x=>aheadR x r),cmpRow x r < 0:=fun x hx=>by
  have:=(takeWhile_all hx).1
  simpa [aheadR] using this
 unfold putRow
 split
 ·rename_i e2
  rw [e2,List.append_nil] at e
  rw [List.pairwise_append]
  refine ⟨by rw [e]; exact h,List.pairwise_singleton _ _,fun x hx y hy=>?_⟩
  simp only [List.mem_singleton] at hy
  subst hy
  exact ht x hx
 ·rename_i y q e2
  split
  ·exact h
  ·rename_i e3
   have hny:¬ cmpRow y r < 0:=by
    have:=List.head?_dropWhile_not (p:=fun x=>aheadR x r) (l:=out)
    rw [e2] at this
    simpa [aheadR] using this
   have hry:cmpRow r y < 0:=by
    rcases cmpRow_swap hny with h1 | h1
    ·exact h1
    ·exact absurd (cmpRow_zero.2 h1.symm) (by simpa [alikeR] using e3)
   rw [e2] at e
   rw [<- e,List.pairwise_append] at h
   obtain ⟨p1,p2,p3⟩:=h
   rw [List.pairwise_append]
   refine ⟨p1,List.pairwise_cons.2 ⟨fun z hz=>?_,p2⟩,fun x hx z hz=>?_⟩
   ·rcases List.mem_cons.1 hz with rfl | hz
    ·exact hry
    ·exact cmpRow_tr hry ((List.pairwise_cons.1 p2).1 z hz)
   ·rcases List.mem_cons.1 hz with rfl | hz
    ·exact ht x hx
    ·exact p3 x hx z hz
theorem rowsD_is (ls:List (List ByteArray)) (ts:List Trm):∀ j,j<=ts.length->(rowsD ls ts j).Pairwise (fun x y=>cmpRow x y < 0)/\(∀ x ∈ rowsD ls ts j,∃ t ∈ ts,x=rowT ls t)/\∀ i t,i < j->ts[i]?=some t->∃ x ∈ rowsD ls ts j,keyR x=keyR (rowT ls t)
 | 0,_=>⟨by simp [rowsD],fun x hx=>by simp [rowsD] at hx,fun i t h=>by omega⟩
 | j+1,hj=>by
  obtain ⟨h1,h2,h3⟩:=rowsD_is ls ts j (by omega)
  obtain ⟨u,hu⟩:∃ u,ts[j]?=some u:=⟨_,List.getElem?_eq_getElem (by omega)⟩
  rw [rowsD_succ hu]
  refine ⟨putRow_strict h1,fun x hx=>?_,fun i t hi ht=>?_⟩
  ·rcases putRow_mem hx with rfl | hx
   ·exact ⟨u,List.mem_of_getElem? hu,rfl⟩
   ·exact h2 x hx
  ·by_cases e:i < j
   ·obtain ⟨x,hx,he⟩:=h3 i t e ht
    exact ⟨x,putRow_sub hx,he⟩
   ·obtain rfl:i=j:=by omega
    rw [ht] at hu
    cases hu
    exact putRow_has _ _
theorem Both.world {S:WS} {L:List ST} (h:Both S L) {rs:List RowP} (hw:WorldIs S rs):rs=rowsD (classesR L) (termsR L) (termsR L).length:=by
 obtain ⟨hT,hk⟩:=termsR_ok h.ok
 rw [<- h.classes]
 obtain ⟨d1,d2,d3⟩:=rowsD_is (classesOf S) (termsR L) (termsR L).length (Nat.le_refl _)
 have hrow:∀ r ∈ rowsTo S (placesOf S) S.shapes.length,∃ t,known L t/\r=rowT (classesOf S) t:=fun r hr=>by
  unfold rowsTo at hr
  obtain ⟨i,hi,rfl⟩:=List.mem_map.1 hr
  obtain ⟨t,kt,dt⟩:=h.holds.term i (List.mem_range.1 hi)
  exact ⟨t,kt,h.row dt⟩
 refine strict_unique (R:=fun x y=>cmpRow x y < 0) cmpRow_irr (fun a b c h1 h2=>cmpRow_tr h1 h2) hw.strict d1 fun x=>⟨fun hx=>?_,fun hx=>?_⟩
 ·obtain ⟨t,kt,rfl⟩:=hrow x (hw.sub x hx)
  obtain ⟨i,hi⟩:=List.getElem?_of_mem ((hk t).2 kt)
  obtain ⟨y,hy,he⟩:=d3 i t (List.getElem?_eq_some_iff.1 hi).1 hi
  obtain ⟨u,hu,rfl⟩:=d2 y hy
  rw [<- h.row_fn ((hk u).1 hu) kt he]
  exact hy
 ·obtain ⟨t,ht,rfl⟩:=d2 x hx
  have kt:=(hk t).1 ht
  obtain ⟨i,di⟩:=h.holds.num t kt
  obtain ⟨y,hy,he⟩:=hw.has (rowOf S (placesOf S) i) (by unfold rowsTo; exact List.mem_map.2 ⟨i,List.mem_range.2 di.lt,rfl⟩)
  rw [h.row di] at he
  obtain ⟨u,ku,rfl⟩:=hrow y (hw.sub y hy)
  rw [<- h.row_fn ku kt he]
  exact hy
def WorldTold (w w':World) (v:Value):Prop:=v=.slice none 0 0\/∃ xs,WorldAt w w' v xs/\xs.length<=1000/\∀ x ∈ xs,x.1.args.length<=1000
theorem Both.narrow {S:WS} {L:List ST} (h:Both S L) {rs:List RowP} (hw:WorldIs S rs):∀ r ∈ rs,r.args.length<=1000:=fun r hr=>by
 have:=hw.sub r hr
 unfold rowsTo at this
 obtain ⟨i,hi,rfl⟩:=List.mem_map.1 this
 obtain ⟨t,_,d⟩:=h.holds.term i (List.mem_range.1 hi)
 cases d with
 | @mk nm ps ks _ h1 h2 h3 h4 =>
  have hs:shapeAt S i=shapeOf nm ks:=by unfold shapeAt; rw [List.getD_eq_getElem?_getD,h1]; rfl
  show ((partsL (shapeAt S i)).map _).length<=1000
  rw [List.length_map,hs,partsL_shapeOf h3]
  omega
theorem worldL_clash (w:World) (xb:Nat) (Z:Nat->Prop) (S:WS) (L:List ST) (M:List Nat) (h:BothAt w xb Z S L M) (hc:clashM S=true) :
  Calls Tryz.prog 38 #[.pointer (some ⟨xb,0,none⟩)] w fun e w'=>∃ v,e=.returned (.tuple #[v,.bool true])/\Upd [] w w'/\WorldTold w w' v:=by
 obtain ⟨bb,rb,Zb,Zr,c0,c1,hb,hr,z1,z2⟩:=h.ex
 have HS:=hide (bookWorld_clash w bb Zb S hb hc)
 have HR:=hide (fun (w1:World) (U:Upd [] w w1)=>refRows_clash w1 rb Zr L M (hr.later U (fun _ _=>by simp)) h.both.ok h.both.small (by have:=h.both.length; have:=h.both.saids; omega) (by rw [<- h.both.clash]; exact hc))
 have hxlt:=h.lt
 clear h hb hr z1 z2 hc
 go_enter Tryz.func38,Tryz.ntmps38
 go_wp2_with (first
  | (go_at_call 15; refine HS.out.mono ?_; rintro e w1 ⟨rfl,hu1⟩; have k1:=(hu1.cell (p:=⟨xb,1,none⟩) hxlt (by simp)).trans c1; have HR1:=hide (HR.out w1 hu1); have HU1:=hide hu1; clear hu1)
  | (go_at_call 73; refine HR1.out.mono ?_; rintro e w2 ⟨rfl,hu2⟩; have HU2:=hide (HU1.out.trans hu2); clear hu2)
  | (go_at_call 30; refine (numL_any _ _).mono ?_; rintro e w3 ⟨rfl,hw3⟩; rw [hw3]; clear hw3 w3))
 go_loopw [8] (fun i wr=>i=.int .i64 0/\wr=w2) (fun _ _=>0)
 case atStart=>exact ⟨rfl,rfl⟩
 case round =>
  obtain ⟨rfl,rfl⟩:=hrel
  go_wp2
  go_ret2
  exact ⟨_,rfl,HU2.out,.inl rfl⟩
theorem worldL_open (w:World) (xb:Nat) (Z:Nat->Prop) (S:WS) (L:List ST) (M:List Nat) (h:BothAt w xb Z S L M) (hc:clashM S=false) :
  Calls Tryz.prog 38 #[.pointer (some ⟨xb,0,none⟩)] w fun e w'=>∃ v,e=.returned (.tuple #[v,.bool true])/\Upd [] w w'/\WorldTold w w' v:=by
 obtain ⟨bb,rb,Zb,Zr,c0,c1,hb,hr,z1,z2⟩:=h.ex
 have HS:=hide (bookWorld_any w bb Zb S hb h.both.text hc)
 have HR:=hide (fun (w1:World) (U:Upd [] w w1)=>refRows_any w1 rb Zr L M (hr.later U (fun _ _=>by simp)) h.both.ok h.both.small (by have:=h.both.length; have:=h.both.saids; omega) (by rw [<- h.both.clash]; exact hc))
 have HB:=hide (fun (rs:List RowP) (hw:WorldIs S rs)=>h.both.world hw)
 have HBn:=hide (fun (rs:List RowP) (hw:WorldIs S rs)=>h.both.narrow hw)
 have hdl:(rowsD (classesR L) (termsR L) (termsR L).length).length<=1000:=by
  have h1:=rowsD_length (classesR L) (termsR L) (termsR L).length (Nat.le_refl _)
  have h2:=h.both.holds.count h.both.ok
  have h3:=h.both.terms
  omega
 have hxlt:=h.lt
 obtain ⟨rs,hrs⟩:∃ rs,rowsD (classesR L) (termsR L) (termsR L).length=rs:=⟨_,rfl⟩
 rw [hrs] at HR HB hdl
 clear h hb hr z1 z2 hc hrs
 go_enter Tryz.func38,Tryz.ntmps38
 go_upto_region 3 with (first
  | (go_at_call 15; refine HS.out.mono ?_; rintro e w1 ⟨v1,xs1,rfl,hu1,ha1,hi1⟩; have k1:=(hu1.cell (p:=⟨xb,1,none⟩) hxlt (by simp)).trans c1; have HR1:=hide (HR.out w1 hu1); have HU1:=hide hu1; have HA1:=hide ha1; have HX1:=hide (HB.out _ hi1); have HNr:=hide (HBn.out _ hi1); clear hu1 ha1 hi1)
  | (go_at_call 73; refine HR1.out.mono ?_; rintro e w2 ⟨v2,xs2,rfl,hu2,ha2,hx2⟩; have HU2:=hide hu2; have HA2:=hide ha2; have HX2:=hide hx2; clear hu2 ha2 hx2))
 obtain ⟨n,hn⟩:∃ n,rs.length=n:=⟨_,rfl⟩
 have hn1:xs1.length=n:=by rw [<- hn,<- HX1.out,List.length_map]
 have hn2:xs2.length=n:=by rw [<- hn,<- HX2.out,List.length_map]
 have HTold:Hid (∀ m,WorldTold w (w2.drewN m) v1):=fun m=>.inr ⟨xs1,HA1.out.later (HU2.out.drewN m),by omega,fun x hx=>HNr.out x.1 (List.mem_map_of_mem hx)⟩
 obtain ⟨g1,cap1,e1,e2,e3,e4,e5⟩:=HA1.out.sl
 obtain ⟨a2,cap2,f1,f2,f3,f4,f5⟩:=HA2.out.form
 rw [hn1] at e1 e2
 rw [hn2] at f1 f2 f5
 rw [hn] at hdl
 have Hn:=hide hn
 have Hn1:=hide hn1
 have Hn2:=hide hn2
 have E5:=hide (e5.later HU2.out)
 have F5:=hide f5
 subst e1 f1
 unfold maxLen at e3 f3
 clear hn hn1 hn2 e5 f5 f4 HS HR HB HR1 k1 c0 c1
 go_wp2_with (go_at_call 30; refine (numL_any _ _).mono ?_; rintro e w3 ⟨rfl,hw3⟩; rw [hw3]; clear hw3 w3)
 go_loopw [8] (fun i wr=>∃ j m:Nat,j<=n/\i=.int .i64 j/\wr=w2.drewN m) (fun i _=>n - (intOf i).toNat)
 case atStart=>exact ⟨0,0,Nat.zero_le _,rfl,rfl⟩
 case round =>
  obtain ⟨j,m,hj,rfl,rfl⟩:=hrel
  by_cases hjn:j < n
  ·have hjI:(j:Int) < (n:Int):=by omega
   obtain ⟨x1,hx1⟩:∃ x,xs1[j]?=some x:=⟨_,List.getElem?_eq_getElem (by rw [Hn1.out]; exact hjn)⟩
   obtain ⟨x2,hx2⟩:∃ x,xs2[j]?=some x:=⟨_,List.getElem?_eq_getElem (by rw [Hn2.out]; exact hjn)⟩
   have hxx:x1.1=x2.1:=by
    have h1:(xs1.map (·.1))[j]?=some x1.1:=by rw [List.getElem?_map,hx1]; rfl
    have h2:(xs2.map (·.1))[j]?=some x2.1:=by rw [List.getElem?_map,hx2]; rfl
    rw [HX1.out] at h1
    rw [HX2.out,h1] at h2
    exact Option.some.inj h2
   obtain ⟨g2,rfl,_,q2⟩:=F5.out (by omega)
   obtain ⟨y0,y1,y2⟩:=E5.out.cell j x1 hx1
   obtain ⟨z0,z1,z2⟩:=flat_cells q2 hx2
   have i1:=(HA1.out.args x1 (List.mem_of_getElem? hx1)).later HU2.out (fun _ _=>by simp)
   have i2:=HA2.out.args x2 (List.mem_of_getElem? hx2)
   obtain ⟨ax,cx,hvx,_⟩:=id i1
   obtain ⟨ay,cy,hvy,_⟩:=id i2
   rw [<- hxx] at z0 z2 i2 hvy
   have HT:Hid (∀ p q:Nat,Calls Tryz.prog 71 #[x1.2,x2.2] (w2.drewN (p+q)) fun e w'=>e=.returned (.bool true)/\∃ n,w'=w2.drewN (p+n)):=fun p q=>by
    have:=sameInts_form _ x1.2 x2.2 x1.1.args x1.1.args (i1.later ((Upd.refl [] w2).drewN (p+q)) (fun _ _=>by simp)) (i2.later ((Upd.refl [] w2).drewN (p+q)) (fun _ _=>by simp))
    rw [decide_eq_true rfl] at this
    exact this.mono fun e w' ⟨he,n,hw⟩=>⟨he,q+n,by rw [hw]; simp [Nat.add_assoc]⟩
   obtain ⟨lx,hlx⟩:∃ lx,x1.1.args.length=lx:=⟨_,rfl⟩
   rw [hlx] at hvx hvy
   rw [hvx] at HT y1
   rw [hvy] at HT z1
   obtain ⟨nm,hnm⟩:∃ nm,x1.1.name=nm:=⟨_,rfl⟩
   obtain ⟨vl,hvl⟩:∃ vl,x1.1.value=vl:=⟨_,rfl⟩
   rw [hnm] at y0 z0
   rw [hvl] at y2 z2
   clear q2 hx1 hx2 hxx i1 i2 hvx hvy hlx hnm hvl
   go_wp2_with fail
   go_quiet ((go_at_call 71; exact HT.out _ _))
   go_wp2_with fail
   go_quiet (fail)
   go_wp2
   refine ⟨⟨j+1,_,by omega,by simp,rfl⟩,?_⟩
   simp [intOf]
   omega
  ·have hjI:¬ (j:Int) < (n:Int):=by omega
   go_wp2
   go_ret2
   exact ⟨_,rfl,(HU1.out.trans HU2.out).drewN m,HTold.out m⟩
theorem worldL_any (w:World) (xb:Nat) (Z:Nat->Prop) (S:WS) (L:List ST) (M:List Nat) (h:BothAt w xb Z S L M) :
  Calls Tryz.prog 38 #[.pointer (some ⟨xb,0,none⟩)] w fun e w'=>∃ v,e=.returned (.tuple #[v,.bool true])/\Upd [] w w'/\WorldTold w w' v:=by
 cases hc:clashM S with
 | true=>exact worldL_clash w xb Z S L M h hc
 | false=>exact worldL_open w xb Z S L M h hc

theorem RBAt.mark {w w1 w3:World} {rb g cap x:Nat} {Z:Nat->Prop} {L:List ST} {M:List Nat} {u:Value} (h:RBAt w rb Z L M) (cu:w.cell? ⟨rb,1,none⟩=some u) (hu:Upd [] w w1) (hg:w1.grownBy w3 u.ownBlock) (hat:u.ownBlock=some g\/g=w1.heap.size)
  (hown:w3.ownsRow 0 3 1 (.slice (some ⟨g,0,none⟩) (M.length+1) cap) (M.length+1) (intsOf M++[.int .i64 x])) :
  RBAt (w3.setCell ⟨rb,1,none⟩ (.slice (some ⟨g,0,none⟩) (M.length+1) cap)) rb (fun k=>(Z k\/w.heap.size<=k)/\k < (w3.setCell ⟨rb,1,none⟩ (.slice (some ⟨g,0,none⟩) (M.length+1) cap)).heap.size) L (M++[x])/\∃ K,(∀ k ∈ K,Z k)/\Upd K w (w3.setCell ⟨rb,1,none⟩ (.slice (some ⟨g,0,none⟩) (M.length+1) cap)):=by
 obtain ⟨v,cs,u0,h1,h3,h2,h4,h5⟩:=h.rows
 rw [cu] at h3
 obtain rfl:=Option.some.inj h3
 have hlt:=h.lt
 have hs1:=hu.size
 have hnt:rb ∉ u.ownBlock.toList:=fun hm=>(h5 rb (by simpa using hm)).2 rfl
 have U:Upd u.ownBlock.toList w w3:=(hu.mono (fun x hx _=>by cases hx)).trans (Upd.of_grown hg)
 have hs3:=U.size
 have g0:=(U.cell (p:=⟨rb,0,none⟩) hlt hnt).trans h1
 have g1:=(U.cell (p:=⟨rb,1,none⟩) hlt hnt).trans cu
 have gf:∀ o,w3.frozen? ⟨rb,o,none⟩=false:=fun o=>(U.frozen (p:=⟨rb,o,none⟩) hlt hnt).trans (h.free o)
 have UU:Upd (rb :: u.ownBlock.toList) w (w3.setCell ⟨rb,1,none⟩ (.slice (some ⟨g,0,none⟩) (M.length+1) cap)):=(U.mono (fun x hx _=>by simp at hx ⊢; exact .inr hx)).setCell (by simp) _
 have U3:Upd [rb] w3 (w3.setCell ⟨rb,1,none⟩ (.slice (some ⟨g,0,none⟩) (M.length+1) cap)):=(Upd.refl [rb] w3).setCell (by simp) _
 have hgr:g ≠ rb:=by
  rcases hat with hat | hat
  ·exact (h5 g hat).2
  ·omega
 have hglt:g < w3.heap.size:=ownsRow_lt hown rfl
 have hgZ:Z g\/w.heap.size<=g:=by
  rcases hat with hat | hat
  ·exact .inl (h5 g hat).1
  ·right; omega
 have hrl:rb < w3.heap.size:=Nat.lt_of_lt_of_le hlt hs3
 refine ⟨⟨by simpa using hrl,fun o=>by simpa using gf o,⟨.inl h.own,by simpa using hrl⟩,fun k hk=>hk.2,⟨v,cs,.slice (some ⟨g,0,none⟩) (M.length+1) cap,by go_simp,by go_simp,?_,?_,fun k hk=>?_⟩⟩,rb :: u.ownBlock.toList,fun k hk=>?_,UU⟩
 ·refine (h2.later UU (fun k hk hm=>?_)).mono fun k hk hl=>⟨⟨⟨.inl hk.1.1,hl⟩,hk.1.2⟩,fun e=>?_⟩
  ·rcases List.mem_cons.1 hm with e | e
   ·exact hk.1.2 e
   ·exact hk.2 (by simpa using e)
  ·simp only [own_slice,Option.some.injEq] at e
   subst e
   rcases hat with hat | hat
   ·exact hk.2 hat
   ·have:=h.low _ hk.1.1; omega
 ·have:=U3.ownsRow hown (fun k hk hm=>by simp [Value.ownBlock] at hk hm; omega)
  simpa [intsOf] using this
 ·simp only [own_slice,Option.some.injEq] at hk
  subst hk
  exact ⟨⟨hgZ,by simpa using hglt⟩,hgr⟩
 ·rcases List.mem_cons.1 hk with e | e
  ·rw [e]; exact h.own
  ·exact (h5 k (by simpa using e)).1
theorem refMark_any (w:World) (rb:Nat) (Z:Nat->Prop) (L:List ST) (M:List Nat) (h:RBAt w rb Z L M) (hm:M.length < 10) :
  Calls Tryz.prog 52 #[.pointer (some ⟨rb,0,none⟩)] w fun e w'=>e=.returned (.int .i64 0)/\RBAt w' rb (fun k=>(Z k\/w.heap.size<=k)/\k < w'.heap.size) L (M++[L.length])/\∃ K,(∀ k ∈ K,Z k)/\Upd K w w':=by
 obtain ⟨i0,hi,hz0,hz1,hz2⟩:=info_parts info_int
 obtain ⟨v,cs,u,c0,c1,h2,h4,h5⟩:=h.rows
 obtain ⟨a,cap,hv,_⟩:=h2.row.form
 rw [h2.len] at hv
 subst hv
 obtain ⟨n,hn⟩:∃ n,L.length=n:=⟨_,rfl⟩
 obtain ⟨m,hmm⟩:∃ m,M.length=m:=⟨_,rfl⟩
 have hlt:=h.lt
 have hfr:=h.free
 have hnt:rb ∉ u.ownBlock.toList:=fun hm=>(h5 rb (by simpa using hm)).2 rfl
 have hrow1:=(((Upd.refl [] w).alloc (.cells #[.int .i64 n] 3)).drew).ownsRow h4 (fun _ _=>by simp)
 have Hc:Hid (∀ w3,(w.alloc (.cells #[.int .i64 n] 3)).drew.grownBy w3 u.ownBlock->w3.cell? ⟨rb,1,none⟩=some u/\∀ o,w3.frozen? ⟨rb,o,none⟩=false):=fun w3 hg=>by
  have U:=(((Upd.refl u.ownBlock.toList w).alloc (.cells #[.int .i64 n] 3)).drew).trans (Upd.of_grown hg)
  exact ⟨(U.cell (p:=⟨rb,1,none⟩) hlt hnt).trans c1,fun o=>(U.frozen (p:=⟨rb,o,none⟩) hlt hnt).trans (hfr o)⟩
 have Hfin:Hid (∀ g cap w3,(w.alloc (.cells #[.int .i64 n] 3)).drew.grownBy w3 u.ownBlock->(u.ownBlock=some g\/g=(w.alloc (.cells #[.int .i64 n] 3)).drew.heap.size)->w3.ownsRow 0 3 1 (.slice (some ⟨g,0,none⟩) (m+1) cap) (m+1) (intsOf M++[.int .i64 n])->RBAt (w3.setCell ⟨rb,1,none⟩ (.slice (some ⟨g,0,none⟩) (m+1) cap)) rb (fun k=>(Z k\/w.heap.size<=k)/\k < (w3.setCell ⟨rb,1,none⟩ (.slice (some ⟨g,0,none⟩) (m+1) cap)).heap.size) L (M++[n])/\∃ K,(∀ k ∈ K,Z k)/\Upd K w (w3.setCell ⟨rb,1,none⟩ (.slice (some ⟨g,0,none⟩) (m+1) cap))):=fun g cap w3 hg hat hown=>by
  rw [<- hmm] at hown ⊢
  exact h.mark c1 (((Upd.refl [] w).alloc _).drew) hg hat hown
 rw [hmm] at hrow1 hm h4
 rw [hn] at c0 ⊢
 have Hrow1:=hide hrow1
 have hnews:Hid (∀ j t,[Value.int .i64 n][j]?=some t->(w.alloc (.cells #[.int .i64 n] 3)).drew.cell? ((⟨w.heap.size,0,none⟩:Addr).add j)=some t):=World.news_of_block (heap_alloc_new w _)
 have hone:Hid (∀ t ∈ [Value.int .i64 n],t.oneCell'=true):=(fun t hu'=>by simp at hu'; subst hu'; rfl)
 have am:=(((Upd.refl [] w).alloc (.cells #[.int .i64 n] 3)).cell (p:=⟨rb,1,none⟩) hlt (by simp)).trans c1
 have am0:=(((Upd.refl [] w).alloc (.cells #[.int .i64 n] 3)).cell (p:=⟨rb,0,none⟩) hlt (by simp)).trans c0
 have hn1:rb ≠ w.heap.size:=by omega
 obtain ⟨gu,cu,hud⟩:=slice_len h4
 subst hud
 have hlm:m+1<=maxLen:=by unfold maxLen; omega
 have hlb:(m+1) * 8<=140737488355328:=by omega
 have hmI:¬ (10:Int)<=(m:Int):=by omega
 clear h h2 h4 h5 hrow1 hnt hn hmm
 go_enter Tryz.func52,Tryz.ntmps52
 go_wp2_with fail
 go_region_law (refine step_append_lies _ (by rfl) _ _ 44 (by rfl) 0 3 i0 (.int .i64 0) 1 8 Tryz.underlying44 hi hz0 hz1 hz2 (by rfl) (by decide) (.slice gu m cu) m (intsOf M) (by rfl) Hrow1.out ⟨w.heap.size,0,none⟩ 1 1 [Value.int .i64 n] (by rfl) (by rfl) hnews.out hone.out (by decide) hlm hlb (Nat.zero_le _) _ (by rfl) ?_; intro g cap w3 hown' hgrow hat hlt3; obtain ⟨k0,kf⟩:=Hc.out w3 hgrow)
 all_goals (
  go_wp2
  go_ret
  exact ⟨rfl,Hfin.out g cap w3 hgrow hat hown'⟩)
theorem refMark_many (w:World) (rb:Nat) (Z:Nat->Prop) (L:List ST) (M:List Nat) (h:RBAt w rb Z L M) (hm:10<=M.length) :
  Calls Tryz.prog 52 #[.pointer (some ⟨rb,0,none⟩)] w fun e w'=>e=.returned (.int .i64 4)/\w'=w:=by
 obtain ⟨v,cs,u,c0,c1,h2,h4,h5⟩:=h.rows
 obtain ⟨gu,cu,hud⟩:=slice_len h4
 subst hud
 have hmI:(10:Int)<=(M.length:Int):=by omega
 clear h h2 h4 h5
 go_enter Tryz.func52,Tryz.ntmps52
 go_wp2
 go_ret
 exact ⟨rfl,rfl⟩
theorem refBack_none (w:World) (rb:Nat) (Z:Nat->Prop) (L:List ST) (h:RBAt w rb Z L []) :
  Calls Tryz.prog 53 #[.pointer (some ⟨rb,0,none⟩)] w fun e w'=>e=.returned (.int .i64 5)/\w'=w:=by
 obtain ⟨v,cs,u,c0,c1,h2,h4,h5⟩:=h.rows
 obtain ⟨gu,cu,hud⟩:=slice_len h4
 subst hud
 clear h h2 h4 h5
 go_enter Tryz.func53,Tryz.ntmps53
 go_wp2
 go_ret
 exact ⟨rfl,rfl⟩
theorem wrap_pred2 {j jm:Nat} (h:j=jm+1) (hj:j<=1000):IntKind.i64.wrap ((j:Int) - 1)=(jm:Int):=by
 simp [IntKind.wrap,IntKind.bits,IntKind.signed]
 omega
theorem RBAt.back {w:World} {rb m n cap cu:Nat} {Z:Nat->Prop} {L:List ST} {ms:List Nat} {a gu:Option Addr} {cs:List Nat} (h:RBAt w rb Z L (ms++[m])) (c0:w.cell? ⟨rb,0,none⟩=some (.slice a n cap)) (c1:w.cell? ⟨rb,1,none⟩=some (.slice gu (ms.length+1) cu)) (h2:RSRow w (fun k=>(Z k/\k ≠ rb)/\(Value.slice gu (ms.length+1) cu).ownBlock ≠ some k) (.slice a n cap) L cs) (hmn:m<=L.length) :
  RBAt ((w.setCell ⟨rb,0,none⟩ (.slice a m m)).setCell ⟨rb,1,none⟩ (.slice gu ms.length cu)) rb Z (L.take m) ms/\Upd [rb] w ((w.setCell ⟨rb,0,none⟩ (.slice a m m)).setCell ⟨rb,1,none⟩ (.slice gu ms.length cu)):=by
 obtain ⟨v0,cs0,u0,h1,h3,_,h4,h5⟩:=h.rows
 rw [c1] at h3
 obtain rfl:=Option.some.inj h3
 have hlt:=h.lt
 have hfr:=h.free
 have U:Upd [rb] w ((w.setCell ⟨rb,0,none⟩ (.slice a m m)).setCell ⟨rb,1,none⟩ (.slice gu ms.length cu)):=((Upd.refl [rb] w).setCell (by simp) _).setCell (by simp) _
 have hob:(Value.slice gu ms.length cu).ownBlock=(Value.slice gu (ms.length+1) cu).ownBlock:=by cases gu <;> rfl
 have hml:(ms++[m]).length=ms.length+1:=by simp
 rw [hml] at h4
 obtain ⟨g,rfl⟩:∃ g,gu=some ⟨g,0,none⟩:=by
  rcases ownsRow_slice h4 with ⟨x,y⟩ | ⟨g,c,x,_⟩
  ·omega
  ·cases x; exact ⟨g,rfl⟩
 have h6:=ownsRow_cut (m:=ms.length) h4 (by omega)
 have e6:(intsOf (ms++[m])).take (ms.length * 1)=intsOf ms:=by simp [intsOf]
 rw [e6] at h6
 refine ⟨⟨by simpa using hlt,fun o=>by simpa using hfr o,h.own,fun k hk=>by simpa using h.low k hk,⟨.slice a m m,cs.take m,.slice (some ⟨g,0,none⟩) ms.length cu,by go_simp,by go_simp,?_,U.ownsRow h6 (fun k hk hm=>(h5 k (by rw [<- hob]; exact hk)).2 (by simpa using hm)),fun k hk=>h5 k (by rw [<- hob]; exact hk)⟩⟩,U⟩
 rw [hob]
 have h7:=h2.later U (fun k hk hm=>hk.1.2 (by simpa using hm))
 refine ⟨?_,by rw [List.length_take,List.length_take,h2.len],fun i c x hc hx=>?_⟩
 ·rcases h7.row with ⟨e1,e2⟩ | ⟨g2,cp,e1,e2,e3,e4,e5,e6⟩
  ·have hl:=h2.len
   rw [e2] at hl
   simp only [Value.slice.injEq] at e1
   obtain rfl:m=0:=by simp at hl; omega
   exact .inl ⟨by rw [e1.1],by rw [e2]; rfl⟩
  ·simp only [Value.slice.injEq] at e1
   have hlm:(cs.take m).length=m:=by rw [List.length_take,h2.len]; omega
   refine .inr ⟨g2,m,by rw [e1.1,hlm],by rw [hlm]; exact Nat.le_refl _,by rw [h2.len] at e2; omega,e4,e5,fun i c hc=>?_⟩
   refine e6 i c ?_
   have hi:=(List.getElem?_eq_some_iff.1 hc).1
   rw [hlm] at hi
   rw [List.getElem?_take_of_lt hi] at hc
   exact hc
 ·have hi:=(List.getElem?_eq_some_iff.1 hx).1
  rw [List.length_take] at hi
  rw [List.getElem?_take_of_lt (by omega)] at hc hx
  exact h7.kids i c x hc hx
theorem refBack_some (w:World) (rb:Nat) (Z:Nat->Prop) (L:List ST) (ms:List Nat) (m:Nat) (h:RBAt w rb Z L (ms++[m])) (hm:ms.length<=100) (hmn:m<=L.length) :
  Calls Tryz.prog 53 #[.pointer (some ⟨rb,0,none⟩)] w fun e w'=>e=.returned (.int .i64 0)/\RBAt w' rb Z (L.take m) ms/\Upd [rb] w w':=by
 obtain ⟨v,cs,u,c0,c1,h2,h4,h5⟩:=h.rows
 obtain ⟨a,cap,hv,hc1,hc2,hform⟩:=h2.row.form
 rw [h2.len] at hv hc1
 have hml:(ms++[m]).length=ms.length+1:=by simp
 rw [hml] at h4
 rcases ownsRow_slice h4 with ⟨x,y⟩ | ⟨gm,cu,x,hk1,hk2⟩
 ·omega
 subst hv x
 have hcell:w.cell? ⟨gm,ms.length,none⟩=some (.int .i64 m):=by
  rw [h4.cellAt ms.length (by omega)]
  simp [intsOf]
 have hgl:gm < w.heap.size:=ownsRow_lt h4 rfl
 have hgn:gm ≠ rb:=(h5 gm rfl).2
 have HF:=hide (h.back c0 c1 h2 hmn)
 obtain ⟨n,hn⟩:∃ n,L.length=n:=⟨_,rfl⟩
 obtain ⟨k,hk⟩:∃ k,ms.length=k:=⟨_,rfl⟩
 rw [hn] at hmn c0 hc1
 rw [hk] at hm hcell c1 hk1
 obtain ⟨nm,hnm⟩:∃ nm,nm=k+1:=⟨_,rfl⟩
 have hw1:IntKind.i64.wrap ((nm:Int) - 1)=(k:Int):=wrap_pred2 hnm (by omega)
 rw [<- hnm] at c1 hk1
 have hkI:(k:Int) < (nm:Int):=by omega
 have hkJ:(k:Int)<=(nm:Int):=by omega
 have hkc:(k:Int)<=(cu:Int):=by omega
 have hmI:(m:Int)<=(n:Int):=by omega
 have hmc:(m:Int)<=(cap:Int):=by omega
 have hlt:=h.lt
 have hfr:=h.free
 have hne:¬ (nm:Int)=0:=by omega
 have hneb:((nm:Int) == 0)=false:=by simpa using hne
 have Hk:=hide hk
 unfold maxLen at hc2 hk2
 clear h h2 h4 h5 hform hn hk hml hnm
 go_enter Tryz.func53,Tryz.ntmps53
 go_wp2_with fail
 go_region
 rw [Hk.out] at HF
 go_wp2
 go_ret
 exact ⟨rfl,HF.out.1.later ((Upd.refl [] _).drew) (fun _ _=>by simp),HF.out.2.drew⟩
theorem Both.marks {S:WS} {L:List ST} (h:Both S L) (m:List Nat):Both { S with marks:=m } L:=by
 have hd:∀ {t:Trm} {i:Nat},DenE S t i->DenE { S with marks:=m } t i:=fun d=>DenE.mono (S:=S) (T:={ S with marks:=m }) (fun _ _ e=>e) d
 refine ⟨⟨h.holds.fine.marks m,fun t kt=>?_,fun i hi=>?_,h.holds.said.mono fun x s ⟨a,b,c⟩=>⟨a,hd b,hd c⟩⟩,h.ok,h.small,h.text.marks m,h.terms,h.saids⟩
 ·obtain ⟨i,d⟩:=h.holds.num t kt
  exact ⟨i,hd d⟩
 ·obtain ⟨t,kt,d⟩:=h.holds.term i hi
  exact ⟨t,kt,hd d⟩
theorem Both.goes {S:WS} {L:List ST} (h:Both S L) (s:ByteArray):∀ S0,Goes S0 S->Goes S0 (sayOf S s).2:=by
 unfold sayOf
 cases hr:(readOf s).1 with
 | none=>exact fun S0 h0=>h0
 | some x =>
  obtain ⟨hn,hz,_⟩:=readOf_small hr
  have ht:=h.terms
  have E:=sayM_end h.holds.fine.web hn (by omega)
  simp only
  split
  ·exact fun S0 h0=>h0
  ·split
   ·exact fun S0 h0=>h0
   ·exact E.goes
theorem sayR_prefix (L:List ST) (s:ByteArray):∃ R,(sayR L s).2=L++R:=by
 unfold sayR
 cases (refRead s).1 with
 | none=>exact ⟨[],by simp⟩
 | some x =>
  simp only
  split
  ·exact ⟨[],by simp⟩
  ·exact ⟨[x],rfl⟩
def Stk:WS->List ST->List Nat->List (WS × List ST)->Prop
 | S,_,M,[]=>S.marks=[]/\M=[]
 | S,L,M,(S0,L0) :: K=>∃ M0,Goes (markM S0) S/\(∃ R,L=L0++R)/\M=M0++[L0.length]/\Both S0 L0/\Stk S0 L0 M0 K
theorem Stk.len:∀ {K:List (WS × List ST)} {S:WS} {L:List ST} {M:List Nat},Stk S L M K->S.marks.length=M.length
 | [],S,L,M,h=>by rw [h.1,h.2]
 | (S0,L0) :: K,S,L,M,⟨M0,h1,h2,h3,h4,h5⟩=>by
  rw [h1.marks,h3]
  have:=Stk.len h5
  simp [markM,this]
theorem Stk.say {K:List (WS × List ST)} {S:WS} {L:List ST} {M:List Nat} (h:Stk S L M K) (hB:Both S L) (s:ByteArray):Stk (sayOf S s).2 (sayR L s).2 M K:=by
 cases K with
 | nil =>
  have:=(hB.goes s S (Goes.refl S)).marks
  exact ⟨by rw [this]; exact h.1,h.2⟩
 | cons p K =>
  obtain ⟨S0,L0⟩:=p
  obtain ⟨M0,h1,⟨R,h2⟩,h3,h4,h5⟩:=h
  obtain ⟨R',hR'⟩:=sayR_prefix L s
  exact ⟨M0,hB.goes s _ h1,⟨R++R',by rw [hR',h2,List.append_assoc]⟩,h3,h4,h5⟩
theorem Stk.mark {K:List (WS × List ST)} {S:WS} {L:List ST} {M:List Nat} (h:Stk S L M K) (hB:Both S L):Stk (markM S) L (M++[L.length]) ((S,L) :: K) :=
 ⟨M,Goes.refl _,⟨[],by simp⟩,rfl,hB,h⟩
end Go.Proofs.YtmfkpllnmmfpiaaGreatDoor
