/- RefRow, RefSame, RefAdd -/
import Derived.Test.YtmfkpllnmmfpiaaGreatDoorRefGrowA
import Derived.Test.YtmfkpllnmmfpiaaGreatDoorPlainTextA
import Derived.Deep.DeepMust
set_option maxHeartbeats 16000000
set_option maxRecDepth 100000
namespace Go.Proofs.YtmfkpllnmmfpiaaGreatDoor
open Go.RowKit
def PRow (w:World) (Z:Nat->Prop) (v:Value) (cs:List Nat):Prop :=
 (v=.slice none 0 0/\cs=[])\/∃ g cap,v=.slice (some ⟨g,0,none⟩) cs.length cap/\cs.length<=cap/\cap<=maxLen/\g < w.heap.size/\Z g/\∀ (i c:Nat),cs[i]?=some c->w.cell? ⟨g,i,none⟩=some (.pointer (some ⟨c,0,none⟩))
theorem PRow.later {w w':World} {L:List Nat} {Z:Nat->Prop} {v:Value} {cs:List Nat} (h:PRow w Z v cs) (hu:Upd L w w') (hL:∀ k,Z k->k ∉ L):PRow w' Z v cs:=by
 rcases h with h | ⟨g,cap,h1,h2,h3,h4,h5,h6⟩
 ·exact .inl h
 ·exact .inr ⟨g,cap,h1,h2,h3,Nat.lt_of_lt_of_le h4 hu.size,h5,fun i c hc=>(hu.cell (p:=⟨g,i,none⟩) h4 (hL g h5)).trans (h6 i c hc)⟩
theorem PRow.mono {w:World} {Z Z':Nat->Prop} {v:Value} {cs:List Nat} (h:PRow w Z v cs) (hm:∀ k,Z k->k < w.heap.size->Z' k):PRow w Z' v cs:=by
 rcases h with h | ⟨g,cap,h1,h2,h3,h4,h5,h6⟩
 ·exact .inl h
 ·exact .inr ⟨g,cap,h1,h2,h3,h4,hm g h5 h4,h6⟩
theorem PRow.of_own {w:World} {Z:Nat->Prop} {v:Value} {cs:List Nat} {B e:Nat} (h:w.ownsRow B e 1 v cs.length (ptrs cs)) (hZ:∀ k,v.ownBlock=some k->Z k):PRow w Z v cs:=by
 rcases ownsRow_slice h with ⟨h1,h2⟩ | ⟨g,cap,h1,h2,h3⟩
 ·exact .inl ⟨h1,List.length_eq_zero_iff.1 h2⟩
 ·subst h1
  refine .inr ⟨g,cap,rfl,h2,h3,ownsRow_lt h rfl,hZ g rfl,fun i c hc=>?_⟩
  have hi:=(List.getElem?_eq_some_iff.1 hc).1
  rw [h.cellAt i (by omega)]
  simp [ptrs,hc]
structure RSRow (w:World) (Z:Nat->Prop) (v:Value) (L:List ST) (cs:List Nat):Prop where
 row:PRow w Z v cs
 len:cs.length=L.length
 kids:∀ (i c:Nat) (x:ST),cs[i]?=some c->L[i]?=some x->IsRS w Z x c
theorem RSRow.later {w w':World} {K:List Nat} {Z:Nat->Prop} {v:Value} {L:List ST} {cs:List Nat} (h:RSRow w Z v L cs) (hu:Upd K w w') (hL:∀ k,Z k->k ∉ K):RSRow w' Z v L cs :=
 ⟨h.row.later hu hL,h.len,fun i c x hc hx=>(h.kids i c x hc hx).later hu hL⟩
theorem RSRow.mono {w:World} {Z Z':Nat->Prop} {v:Value} {L:List ST} {cs:List Nat} (h:RSRow w Z v L cs) (hm:∀ k,Z k->k < w.heap.size->Z' k):RSRow w Z' v L cs :=
 ⟨h.row.mono hm,h.len,fun i c x hc hx=>(h.kids i c x hc hx).mono hm⟩
mutual
theorem addR_len:∀ (t:Trm) (W:List Trm),(addR t W).length<=W.length+t.size
 | .node nm ps,W=>by
  have h:=addRL_len ps W
  unfold addR Trm.size
  split
  ·omega
  ·simp only [List.length_append,List.length_singleton]
   omega
theorem addRL_len:∀ (ps:List Trm) (W:List Trm),(addRL ps W).length<=W.length+Trm.sizeL ps
 | [],W=>by simp [addRL,Trm.sizeL]
 | p :: ps,W=>by
  have h1:=addR_len p W
  have h2:=addRL_len ps (addR p W)
  unfold addRL Trm.sizeL
  omega
end
theorem addRL_snoc:∀ (ps:List Trm) (p:Trm) (W:List Trm),addRL (ps++[p]) W=addR p (addRL ps W)
 | [],p,W=>by simp [addRL]
 | q :: ps,p,W=>by
  show addRL (ps++[p]) (addR q W)=addR p (addRL ps (addR q W))
  exact addRL_snoc ps p _
theorem sizeL_mem:∀ {ps:List Trm} {p:Trm},p ∈ ps->p.size<=Trm.sizeL ps
 | q :: ps,p,h=>by
  unfold Trm.sizeL
  rcases List.mem_cons.1 h with rfl | h
  ·omega
  ·have:=sizeL_mem h
   omega
theorem sizeL_take (ps:List Trm) (n:Nat):Trm.sizeL (ps.take n)<=Trm.sizeL ps:=by
 induction ps generalizing n with
 | nil=>simp
 | cons p ps ih =>
  cases n with
  | zero=>simp [Trm.sizeL]
  | succ n =>
   have:=ih n
   simp only [List.take_succ_cons,Trm.sizeL]
   omega
theorem termsR_len:∀ (L:List ST),(∀ s ∈ L,s.size<=200)->(termsR L).length<=200 * L.length:=by
 have key:∀ (L:List ST) (W:List Trm),(∀ s ∈ L,s.size<=200)->(L.foldl (fun W s=>addR s.r (addR s.l W)) W).length<=W.length+200 * L.length:=by
  intro L
  induction L with
  | nil=>intro W _; simp
  | cons s L ih =>
   intro W h
   have h1:=ih (addR s.r (addR s.l W)) (fun t ht=>h t (by simp [ht]))
   have h2:=addR_len s.r (addR s.l W)
   have h3:=addR_len s.l W
   have h4:=h s (by simp)
   unfold ST.size at h4
   simp only [List.foldl_cons,List.length_cons]
   omega
 intro L h
 have:=key L [] h
 simpa [termsR] using this
theorem take_succ_get {α:Type} {l:List α} {j:Nat} {x:α} (h:l[j]?=some x):l.take (j+1)=l.take j++[x]:=by
 have hj:=(List.getElem?_eq_some_iff.1 h).1
 rw [List.getElem?_eq_getElem hj] at h
 rw [List.take_succ_eq_append_getElem hj,Option.some.inj h]
theorem partsSame_of {ts:List Trm} {c:List Nat} {ps qs:List Trm} (hl:ps.length=qs.length) {b:Bool} (h:b=true ↔ ∀ (i:Nat) (p q:Trm),ps[i]?=some p->qs[i]?=some q->clsOf ts c p=clsOf ts c q):partsSame ts c ps qs=b:=by
 rw [Bool.eq_iff_iff,partsSame_iff hl,h]
theorem idxI_some {x:ByteArray} {l:List Trm} {i:Nat} (h:idxT x l=some i):idxI x l=i:=by unfold idxI; rw [h]
theorem RWAt.class_at {w:World} {wb g n cap:Nat} {Z:Nat->Prop} {l:List Trm} {cl:List Nat} {v:Value} {cs:List Nat} (h:RWAt w wb Z l cl v (.slice (some ⟨g,0,none⟩) n cap) cs) {i:Nat} (hi:i < cl.length) (hn:n=cl.length):w.cell? ⟨g,i,none⟩=some (.int .i64 (clsAt cl i)):=by
 subst hn
 rw [h.rowC.cellAt i (by omega)]
 unfold clsAt
 rw [List.getD_eq_getElem?_getD]
 simp [intsOf,List.getElem?_eq_getElem hi]
theorem toList_ne {a b:ByteArray} (h:a ≠ b):(a.toList == b.toList)=false:=by
 cases hb:(a.toList == b.toList)
 ·rfl
 ·exact absurd (toList_inj (eq_of_beq hb)) h
theorem refSame_any (w:World) (wb ab bb:Nat) (Z:Nat->Prop) (l:List Trm) (cl:List Nat) (v u:Value) (cs:List Nat) (h:RWAt w wb Z l cl v u cs) (hcl:cl.length=l.length) (hl:l.length<=100000) (a b:Trm) (ha:IsRT w Z a ab) (hb:IsRT w Z b bb)
  (hpa:∀ nm ps p,a=.node nm ps->p ∈ ps->∃ i,idxT p.text l=some i) (hpb:∀ nm ps p,b=.node nm ps->p ∈ ps->∃ i,idxT p.text l=some i) :
  Calls Tryz.prog 113 #[.pointer (some ⟨wb,0,none⟩),.pointer (some ⟨ab,0,none⟩),.pointer (some ⟨bb,0,none⟩)] w fun e w'=>e=.returned (.bool (sameR l cl a b))/\∃ n,w'=w.drewN n:=by
 cases ha with
 | @mk na pa _ va ca _ _ a0 a1 a2 ra _ la ka =>
 cases hb with
 | @mk nb pb _ vb cb _ _ b0 b1 b2 rb _ lb kb =>
 have hlenA:∀ ty (W:World),(Builtin.len_ #[128] ty #[va]).run Tryz.prog W=.ok (.int .i64 pa.length) W:=len_row ra
 have hlenB:∀ ty (W:World),(Builtin.len_ #[128] ty #[vb]).run Tryz.prog W=.ok (.int .i64 pb.length) W:=len_row rb
 by_cases hn:na=nb
 ·subst hn
  by_cases hpl:pa.length=pb.length
  ·have HS:Hid (sameR l cl (.node na pa) (.node na pb)=partsSame l cl pa pb):=by show _=_; rw [sameR_node,if_pos ⟨rfl,hpl⟩]
   obtain ⟨n,hn⟩:∃ n,pa.length=n:=⟨_,rfl⟩
   rw [<- hpl] at hlenB
   rw [hn] at hlenA hlenB
   have Hn:=hide hn
   have Hpl:=hide hpl
   have Hra:=hide ra
   have Hrb:=hide rb
   have Hla:=hide la
   have Hlb:=hide lb
   have Hka:=hide ka
   have Hkb:=hide kb
   have Hh:=hide h
   have Hcl:=hide hcl
   have Hpa:=hide hpa
   have Hpb:=hide hpb
   have HI:=hide (fun (x:ByteArray) (i m:Nat) (hx:idxT x l=some i)=>show Calls Tryz.prog 103 #[.pointer (some ⟨wb,0,none⟩),.string x] (w.drewN m) fun e w'=>e=.returned (.int .i64 (i:Int))/\w'=w.drewN m from by
    have:=refIndex_any (w.drewN m) wb Z l v cs x ((h.later ((Upd.refl [] w).drewN m) (fun _ _=>by simp) (by simp) (fun _ _=>by simp) (fun _ _=>by simp)).terms) hl
    rw [idxI_some hx] at this
    exact this)
   have c1:=h.c1
   have hnm:n<=9223372036854775807:=by
    rcases ownsRow_slice ra with ⟨_,e⟩ | ⟨_,_,_,e1,e2⟩
    ·omega
    ·unfold maxLen at e2; omega
   clear h ra rb la lb ka kb hcl hpl hn hpa hpb a2 b2
   go_enter Tryz.func113,Tryz.ntmps113
   go_wp2_with fail
   go_quiet (fail)
   go_wp2
   obtain ⟨m0,hm0⟩:∃ m0,m0=nq:=⟨_,rfl⟩
   go_loopw [7] (fun i wr=>∃ j m:Nat,j<=n/\i=.int .i64 j/\wr=w.drewN m/\Hid (∀ (q:Nat) (x y:Trm),q < j->pa[q]?=some x->pb[q]?=some y->clsOf l cl x=clsOf l cl y)) (fun i _=>n - (intOf i).toNat)
   case atStart=>exact ⟨0,_,Nat.zero_le _,rfl,rfl,fun q x y hq=>by omega⟩
   case round =>
    obtain ⟨j,m,hj,rfl,rfl,HJ⟩:=hrel
    clear hm0
    by_cases hjn:j < n
    ·have hjI:(j:Int) < (n:Int):=by omega
     obtain ⟨p,hp⟩:∃ p,pa[j]?=some p:=⟨_,List.getElem?_eq_getElem (by rw [Hn.out]; exact hjn)⟩
     obtain ⟨q,hq⟩:∃ q,pb[j]?=some q:=⟨_,List.getElem?_eq_getElem (by rw [<- Hpl.out,Hn.out]; exact hjn)⟩
     obtain ⟨c,hc⟩:∃ c,ca[j]?=some c:=⟨_,List.getElem?_eq_getElem (by rw [Hla.out,Hn.out]; exact hjn)⟩
     obtain ⟨d,hd⟩:∃ d,cb[j]?=some d:=⟨_,List.getElem?_eq_getElem (by rw [Hlb.out,<- Hpl.out,Hn.out]; exact hjn)⟩
     obtain ⟨ia,hia⟩:=Hpa.out na pa p rfl (List.mem_of_getElem? hp)
     obtain ⟨ib,hib⟩:=Hpb.out na pb q rfl (List.mem_of_getElem? hq)
     have hial:ia < cl.length:=by
      rw [Hcl.out]
      obtain ⟨_,e,_⟩:=idxT_some hia
      exact (List.getElem?_eq_some_iff.1 e).1
     have hibl:ib < cl.length:=by
      rw [Hcl.out]
      obtain ⟨_,e,_⟩:=idxT_some hib
      exact (List.getElem?_eq_some_iff.1 e).1
     rcases ownsRow_slice Hra.out with ⟨_,e0⟩ | ⟨ga,capa,hva,hca1,hca2⟩
     ·have:=Hn.out; omega
     rcases ownsRow_slice Hrb.out with ⟨_,e0⟩ | ⟨gb,capb,hvb,hcb1,hcb2⟩
     ·have:=Hn.out; have:=Hpl.out; omega
     rcases ownsRow_slice Hh.out.rowC with ⟨_,e0⟩ | ⟨gu,capu,hu,hcu1,hcu2⟩
     ·omega
     have hh:=Hh.out
     rw [hu] at hh c1
     have z1:=hh.class_at hial rfl
     have z2:=hh.class_at hibl rfl
     have hra:=Hra.out
     have hrb:=Hrb.out
     rw [hva] at hra a1
     rw [hvb] at hrb b1
     have y1:w.cell? ⟨ga,j,none⟩=some (.pointer (some ⟨c,0,none⟩)):=by
      rw [hra.cellAt j (by rw [Hn.out]; omega)]
      simp [ptrs,hc]
     have y2:w.cell? ⟨gb,j,none⟩=some (.pointer (some ⟨d,0,none⟩)):=by
      rw [hrb.cellAt j (by rw [<- Hpl.out,Hn.out]; omega)]
      simp [ptrs,hd]
     have x1:=(Hka.out j c p hc hp).text
     have x2:=(Hkb.out j d q hd hq).text
     rw [Hn.out] at a1 hca1
     rw [<- Hpl.out,Hn.out] at b1 hcb1
     obtain ⟨nc,hnc⟩:∃ nc,cl.length=nc:=⟨_,rfl⟩
     rw [hnc] at c1 hcu1 hial hibl
     unfold maxLen at hca2 hcb2 hcu2
     have hiaI:(ia:Int) < (nc:Int):=by omega
     have hibI:(ib:Int) < (nc:Int):=by omega
     have Hia:=hide hia
     have Hib:=hide hib
     have HX:Hid (clsOf l cl p=clsAt cl ia):=by show _=_; unfold clsOf; rw [hia]; rfl
     have HY:Hid (clsOf l cl q=clsAt cl ib):=by show _=_; unfold clsOf; rw [hib]; rfl
     have Hp:=hide hp
     have Hq:=hide hq
     obtain ⟨xa,hxa⟩:∃ xa,clsAt cl ia=xa:=⟨_,rfl⟩
     obtain ⟨xb,hxb⟩:∃ xb,clsAt cl ib=xb:=⟨_,rfl⟩
     rw [hxa] at z1
     rw [hxb] at z2
     rw [hxa] at HX
     rw [hxb] at HY
     clear hra hrb hva hvb hu hh hia hib hp hq hc hd hxa hxb hnc hlenA hlenB
     by_cases he:xa=xb
     ·have he2:(xa:Int)=(xb:Int):=by omega
      have he3:((xa:Int) == (xb:Int))=true:=by simp [he]
      go_wp2_with fail
      go_quiet ((go_at_call 103; first | exact quiet_of_same2 (HI.out _ ia _ Hia.out) | exact quiet_of_same2 (HI.out _ ib _ Hib.out)))
      go_wp2
      refine ⟨⟨j+1,_,by omega,by simp,rfl,fun q' x y hq' hx hy=>?_⟩,by simp [intOf]; omega⟩
      by_cases e:q' < j
      ·exact HJ.out q' x y e hx hy
      ·obtain rfl:q'=j:=by omega
       rw [Hp.out] at hx
       rw [Hq.out] at hy
       obtain rfl:=Option.some.inj hx
       obtain rfl:=Option.some.inj hy
       rw [HX.out,HY.out,he]
     ·have he2:¬ (xa:Int)=(xb:Int):=by omega
      have he3:((xa:Int) == (xb:Int))=false:=by simp; omega
      go_wp2_with fail
      go_quiet ((go_at_call 103; first | exact quiet_of_same2 (HI.out _ ia _ Hia.out) | exact quiet_of_same2 (HI.out _ ib _ Hib.out)))
      go_wp2
      go_ret
      have HE:partsSame l cl pa pb=false:=partsSame_of Hpl.out (by
       simp only [Bool.false_eq_true,false_iff]
       intro hall
       have:=hall j p q Hp.out Hq.out
       rw [HX.out,HY.out] at this
       exact he this)
      exact ⟨by rw [HS.out,HE]; rfl,m+nq,by simp⟩
    ·have hjI:¬ (j:Int) < (n:Int):=by omega
     have HE:Hid (partsSame l cl pa pb=true):=partsSame_of Hpl.out (by
      simp only [true_iff]
      intro q x y hx hy
      exact HJ.out q x y (by have:=(List.getElem?_eq_some_iff.1 hx).1; rw [Hn.out] at this; omega) hx hy)
     go_wp2
     go_ret
     exact ⟨by rw [HS.out,HE.out]; rfl,m,rfl⟩
  ·have HS:Hid (sameR l cl (.node na pa) (.node na pb)=false):=by show _=_; rw [sameR_node,if_neg (fun e=>hpl e.2)]
   have hpl2:¬ (pa.length:Int)=(pb.length:Int):=by omega
   have hpl3:((pa.length:Int) == (pb.length:Int))=false:=by simp; omega
   clear h ra rb la lb ka kb hcl hpl hpa hpb a2 b2
   go_enter Tryz.func113,Tryz.ntmps113
   go_wp2_with fail
   go_quiet (fail)
   go_wp2
   go_ret
   exact ⟨by rw [HS.out]; rfl,_,rfl⟩
 ·have HS:Hid (sameR l cl (.node na pa) (.node nb pb)=false):=by show _=_; rw [sameR_node,if_neg (fun e=>hn e.1)]
  have hn2:=toList_ne hn
  clear h ra rb la lb ka kb hcl hpa hpb a2 b2
  go_enter Tryz.func113,Tryz.ntmps113
  go_wp2_with fail
  go_quiet (fail)
  go_wp2
  go_ret
  exact ⟨by rw [HS.out]; rfl,_,rfl⟩
theorem len_rowI {w:World} {base e size n:Nat} {v:Value} {xs:List Value} (h:w.ownsRow base e size v n xs) (ty:TypeId) (W:World):(Builtin.len_ #[44] ty #[v]).run Tryz.prog W=.ok (.int .i64 n) W:=by
 obtain ⟨g,cap,hv⟩:=slice_len h
 rw [hv]
 simp [Builtin.len_,run_underlying Tryz.underlying44]
 rfl
def RAddOK (t:Trm):Prop:=∀ (w0 w:World) (wb tb:Nat) (l:List Trm),RWB w0 w wb l (List.range l.length)->IsRT w0 (fun k=>k < w0.heap.size) t tb->l.length+t.size<=100000 ->
 Calls Tryz.prog 111 #[.pointer (some ⟨wb,0,none⟩),.pointer (some ⟨tb,0,none⟩)] w fun e w'=>e=.returned (.tuple #[])/\RWB w0 w' wb (addR t l) (List.range (addR t l).length)
theorem refAdd_step (nm:ByteArray) (ps:List Trm) (IH:∀ p ∈ ps,RAddOK p):RAddOK (.node nm ps):=by
 intro w0 w wb tb l h ht hsz
 obtain ⟨i0,hi,hz0,hz1,hz2⟩:=info_parts info_refPtr
 obtain ⟨j0,hj0,hy0,hy1,hy2⟩:=info_parts info_int
 have hsz2:l.length+(1+Trm.sizeL ps)<=100000:=by simpa [Trm.size] using hsz
 have Ht:=hide ht
 cases ht with
 | @mk _ _ _ vp cp hb0 _ a0 a1 a2 rp _ lp kp =>
 have hlen:∀ ty (W:World),(Builtin.len_ #[128] ty #[vp]).run Tryz.prog W=.ok (.int .i64 ps.length) W:=len_row rp
 obtain ⟨n,hn⟩:∃ n,ps.length=n:=⟨_,rfl⟩
 rw [hn] at hlen
 have hnm:n<=9223372036854775807:=by
  rcases ownsRow_slice rp with ⟨_,e⟩ | ⟨_,_,_,e1,e2⟩
  ·omega
  ·unfold maxLen at e2; omega
 have HA1:=hide a1
 have HA2:=hide a2
 have Hn:=hide hn
 have Hrp:=hide rp
 have Hlp:=hide lp
 have Hkp:=hide kp
 have Hh:=hide h
 clear h rp lp kp hn a0 a1 a2 hsz
 go_enter Tryz.func111,Tryz.ntmps111
 go_wp2
 go_loopw [4] (fun i wr=>∃ j:Nat,j<=n/\i=.int .i64 j/\Hid (RWB w0 wr wb (addRL (ps.take j) l) (List.range (addRL (ps.take j) l).length))) (fun i _=>n - (intOf i).toNat)
 case atStart=>exact ⟨0,Nat.zero_le _,rfl,by show RWB _ _ _ _ _; simpa [addRL] using Hh.out⟩
 case round =>
  obtain ⟨j,hj,rfl,HR⟩:=hrel
  have a1:=(HR.out.1.cell (p:=⟨tb,1,none⟩) hb0 (by simp)).trans HA1.out
  have hlb:=addRL_len (ps.take j) l
  have hst:=sizeL_take ps j
  by_cases hjn:j < n
  ·have hjI:(j:Int) < (n:Int):=by omega
   obtain ⟨p,hp⟩:∃ p,ps[j]?=some p:=⟨_,List.getElem?_eq_getElem (by rw [Hn.out]; exact hjn)⟩
   obtain ⟨c,hc⟩:∃ c,cp[j]?=some c:=⟨_,List.getElem?_eq_getElem (by rw [Hlp.out,Hn.out]; exact hjn)⟩
   have hm:=List.mem_of_getElem? hp
   have hsm:=sizeL_mem (ps:=ps) hm
   have HC:=hide (IH p hm w0 wr wb c (addRL (ps.take j) l) HR.out (Hkp.out j c p hc hp) (by
    have:=hp
    have e2:Trm.sizeL (ps.take (j+1))<=Trm.sizeL ps:=sizeL_take ps (j+1)
    rw [take_succ_get hp] at e2
    have e3:Trm.sizeL (ps.take j++[p])=Trm.sizeL (ps.take j)+p.size:=by
     generalize ps.take j=qs
     induction qs with
     | nil=>simp [Trm.sizeL]
     | cons q qs ih=>simp only [List.cons_append,Trm.sizeL]; omega
    omega))
   have HE:Hid (addRL (ps.take (j+1)) l=addR p (addRL (ps.take j) l)):=by show _=_; rw [take_succ_get hp,addRL_snoc]
   rcases ownsRow_slice Hrp.out with ⟨_,e0⟩ | ⟨g,cap,hv,hc1,hc2⟩
   ·have:=Hn.out; omega
   have hrow:=Hrp.out
   rw [hv] at hrow a1
   have q1:wr.cell? ⟨g,j,none⟩=some (.pointer (some ⟨c,0,none⟩)):=by
    rw [HR.out.1.cell (p:=⟨g,j,none⟩) (ownsRow_lt hrow rfl) (by simp),hrow.cellAt j (by rw [Hn.out]; omega)]
    simp [ptrs,hc]
   rw [Hn.out] at a1 hc1
   unfold maxLen at hc2
   clear hrow hv hp hc hm hsm hlb hst hlen HA1 HA2
   go_wp2_with (go_at_call 111; refine HC.out.mono ?_; rintro e w2 ⟨rfl,h2⟩; have H2:=hide h2; clear h2)
   refine ⟨⟨j+1,by omega,by simp,by rw [HE.out]; exact H2.out⟩,?_⟩
   simp [intOf]
   omega
  ·have hjI:¬ (j:Int) < (n:Int):=by omega
   have hje:ps.take j=ps:=List.take_of_length_le (by rw [Hn.out]; omega)
   rw [hje] at HR hlb
   have HAd:Hid (addR (.node nm ps) l=if (idxT (Trm.node nm ps).text (addRL ps l)).isSome then addRL ps l else addRL ps l++[.node nm ps]):=by show _=_; conv=>lhs; unfold addR
   have a2:=(HR.out.1.cell (p:=⟨tb,2,none⟩) hb0 (by simp)).trans HA2.out
   obtain ⟨l',hl'⟩:∃ l',addRL ps l=l':=⟨_,rfl⟩
   rw [hl'] at HR HAd hlb
   obtain ⟨hu0,v,u,cs,hw⟩:=HR.out
   have hll:l'.length<=100000:=by omega
   have HI:=hide (refIndex_any wr wb _ l' v cs (Trm.node nm ps).text hw.terms hll)
   have htw:IsRT wr (fun k=>k < w0.heap.size) (.node nm ps) tb:=Ht.out.later hu0 (fun _ _=>by simp)
   obtain ⟨X,hX⟩:∃ X,(Trm.node nm ps).text=X:=⟨_,rfl⟩
   rw [hX] at HI a2 HAd
   have Hw:=hide hw
   have Htw:=hide htw
   have Hu0:=hide hu0
   clear hw htw hu0 hlb hst hje hl' hX HA1 HA2 Ht Hh Hkp Hrp Hlp
   cases hq:idxT X l' with
   | some q =>
    have HE:Hid (addR (.node nm ps) l=l'):=by show _=_; rw [HAd.out,hq]; rfl
    have hqi:idxI X l'=q:=idxI_some hq
    rw [hqi] at HI
    have hq0:¬ (q:Int) < 0:=by omega
    clear hqi hq HAd
    go_wp2_with (go_at_call 103; refine HI.out.mono ?_; rintro e w2 ⟨rfl,hw2⟩; rw [hw2]; clear hw2 w2)
    go_end0
    exact ⟨rfl,by rw [HE.out]; exact HR.out⟩
   | none =>
    have HE:Hid (addR (.node nm ps) l=l'++[.node nm ps]):=by show _=_; rw [HAd.out,hq]; rfl
    have hqi:idxI X l'=-1:=by unfold idxI; rw [hq]
    rw [hqi] at HI
    clear hqi hq HAd
    obtain ⟨k,hk⟩:∃ k,l'.length=k:=⟨_,rfl⟩
    have hZ:∀ q,q < w0.heap.size->q < wr.heap.size:=fun q hq=>Nat.lt_of_lt_of_le hq Hu0.out.size
    have c0:=Hw.out.c0
    have cf:=Hw.out.free
    have hrw:=((Upd.refl [] wr).alloc (.cells #[.pointer (some ⟨tb,0,none⟩)] 170)).ownsRow Hw.out.rowL (fun _ _=>by simp)
    rw [hk] at hrw
    have Hrow:=hide hrw
    have hnews:Hid (∀ j u,[Value.pointer (some ⟨tb,0,none⟩)][j]?=some u->(wr.alloc (.cells #[.pointer (some ⟨tb,0,none⟩)] 170)).cell? ((⟨wr.heap.size,0,none⟩:Addr).add j)=some u):=World.news_of_block (heap_alloc_new _ _)
    have hone:Hid (∀ u ∈ [Value.pointer (some ⟨tb,0,none⟩)],u.oneCell'=true):=(fun u hu'=>by simp at hu'; subst hu'; rfl)
    have hlm:k+1<=maxLen:=by unfold maxLen; omega
    have hlb:(k+1) * 8<=140737488355328:=by omega
    have Hk:=hide hk
    have hlt:=Hw.out.lt
    clear hrw hk
    go_upto_region 6 with (first
     | (go_at_call 103; refine HI.out.mono ?_; rintro e w2 ⟨rfl,hw2⟩; rw [hw2]; clear hw2 w2)
     | (at_builtin; go_must (refine wpList_append_lies _ rfl _ _ 128 rfl 0 170 i0 (.pointer none) 1 8 Tryz.underlying128 hi hz0 hz1 hz2 rfl (by decide) _ _ _ rfl Hrow.out ⟨wr.heap.size,0,none⟩ 1 1 [.pointer (some ⟨tb,0,none⟩)] rfl rfl hnews.out hone.out (by decide) hlm hlb (Nat.zero_le _) _ rfl ?_); intro g1 cap1 w3 hown3 hgrow3 hat3 hlt3; rw [<- Hk.out] at hown3; have hpp:=Hw.out.pushL hZ Htw.out ((Upd.refl [] wr).alloc (.cells #[.pointer (some ⟨tb,0,none⟩)] 170)) hgrow3 hat3 hown3; rw [Hk.out] at hpp; have HP:=hide hpp; clear hpp; obtain ⟨r1,rf⟩:=Hw.out.cell0 ((Upd.refl [] wr).alloc (.cells #[.pointer (some ⟨tb,0,none⟩)] 170)) hgrow3))
    obtain ⟨W,hW⟩:∃ W,W=w3.setCell ⟨wb,0,none⟩ (.slice (some ⟨g1,0,none⟩) (k+1) cap1):=⟨_,rfl⟩
    obtain ⟨hP,hPU⟩:=HP.out
    rw [<- hW] at hP hPU
    rw [<- hW]
    clear hW HP r1 rf hown3 hgrow3 hat3 hlt3 Hrow hnews hone c0 cf
    obtain ⟨cl,hcl⟩:∃ cl,List.range k=cl:=⟨_,rfl⟩
    have hclk:cl.length=k:=by rw [<- hcl,List.length_range]
    have Hcl:=hide hcl
    rw [hcl] at hP
    have HP:=hide hP
    have c1:=hP.c1
    have cf:=hP.free
    have hlenU:∀ ty (W:World),(Builtin.len_ #[44] ty #[u]).run Tryz.prog W=.ok (.int .i64 k) W:=by
     have:=len_rowI hP.rowC
     rw [hclk] at this
     exact this
    have hrow1:=(((Upd.refl [] W).alloc (.cells #[.int .i64 k] 3)).drew).ownsRow hP.rowC (fun _ _=>by simp)
    rw [hclk] at hrow1
    have Hrow1:=hide hrow1
    have hnews:Hid (∀ j u,[Value.int .i64 k][j]?=some u->(W.alloc (.cells #[.int .i64 k] 3)).drew.cell? ((⟨W.heap.size,0,none⟩:Addr).add j)=some u):=World.news_of_block (heap_alloc_new W _)
    have hone:Hid (∀ u ∈ [Value.int .i64 k],u.oneCell'=true):=(fun u hu'=>by simp at hu'; subst hu'; rfl)
    have Hclk:=hide hclk
    have HPU:=hide hPU
    have hltW:=hP.lt
    have hZ2:∀ q,q < w0.heap.size->q < W.heap.size:=fun q hq=>Nat.lt_of_lt_of_le (hZ q hq) hPU.size
    have Hc:Hid (∀ w4,(W.alloc (.cells #[.int .i64 k] 3)).drew.grownBy w4 u.ownBlock->w4.cell? ⟨wb,1,none⟩=some u/\∀ o,w4.frozen? ⟨wb,o,none⟩=false):=fun w4 hg=>HP.out.cell1 (((Upd.refl [] W).alloc _).drew) hg
    have Hfin:Hid (∀ g cap w4,(W.alloc (.cells #[.int .i64 k] 3)).drew.grownBy w4 u.ownBlock->(u.ownBlock=some g\/g=(W.alloc (.cells #[.int .i64 k] 3)).drew.heap.size)->w4.ownsRow 0 3 1 (.slice (some ⟨g,0,none⟩) (k+1) cap) (k+1) (intsOf cl++[.int .i64 k])->RWB w0 (w4.setCell ⟨wb,1,none⟩ (.slice (some ⟨g,0,none⟩) (k+1) cap)) wb (l'++[.node nm ps]) (List.range (l'++[Trm.node nm ps]).length)):=fun g cap w4 hg hat hown=>by
     rw [<- Hclk.out] at hown
     have h1:=HP.out.pushC (x:=cl.length) hZ2 (((Upd.refl [] W).alloc _).drew) hg hat hown
     have e1:cl++[k]=List.range (l'++[Trm.node nm ps]).length:=by
      rw [List.length_append,List.length_singleton,List.range_succ,<- Hcl.out,Hk.out]
     rw [Hclk.out,e1] at h1
     have hw:=Hw.out
     have nz1:=hw.notZ
     refine RWB.step (RWB.step HR.out HPU.out (fun q hq=>?_) ⟨_,_,_,HP.out⟩) h1.2 (fun q hq=>?_) ⟨_,_,_,h1.1⟩
     ·simp at hq
      rcases hq with rfl | hq
      ·omega
      ·have:=(hw.notZv q hq).1; omega
     ·simp at hq
      rcases hq with rfl | hq
      ·omega
      ·have:=(hw.notZu q hq).1; omega
    have am:=(((Upd.refl [] W).alloc (.cells #[.int .i64 k] 3)).cell (p:=⟨wb,1,none⟩) hltW (by simp)).trans c1
    have hn1:wb ≠ W.heap.size:=by omega
    clear hrow1 hcl hclk hP hPU hZ hZ2 Hw Htw Hu0 HI
    go_region_law (refine step_append_lies _ (by rfl) _ _ 44 (by rfl) 0 3 j0 (.int .i64 0) 1 8 Tryz.underlying44 hj0 hy0 hy1 hy2 (by rfl) (by decide) u k (intsOf cl) (by rfl) Hrow1.out ⟨W.heap.size,0,none⟩ 1 1 [Value.int .i64 k] (by rfl) (by rfl) hnews.out hone.out (by decide) hlm hlb (Nat.zero_le _) _ (by rfl) ?_; intro g cap w4 hown' hgrow hat hlt3; obtain ⟨k0,kf⟩:=Hc.out w4 hgrow)
    all_goals (
     go_wp2
     go_end0
     exact ⟨rfl,by rw [HE.out]; exact Hfin.out g cap w4 hgrow hat hown'⟩)
theorem refAdd_any:∀ (n:Nat) (t:Trm),t.size<=n->RAddOK t
 | 0,.node nm ps,h=>by simp [Trm.size] at h
 | n+1,.node nm ps,h=>refAdd_step nm ps fun p hp=>refAdd_any n p (by
  have:=sizeL_mem hp
  simp only [Trm.size] at h
  omega)
end Go.Proofs.YtmfkpllnmmfpiaaGreatDoor
