/- RefClash -/
import Derived.Test.YtmfkpllnmmfpiaaGreatDoorRefDrawnA
set_option maxHeartbeats 16000000
set_option maxRecDepth 100000
namespace Go.Proofs.YtmfkpllnmmfpiaaGreatDoor
open Go.RowKit
theorem refClash_any (w0:World) (L:List ST) (v:Value) (cs:List Nat) (h:RSRow w0 (fun k=>k < w0.heap.size) v L cs) (hok:∀ s ∈ L,STOK s) (hsz:∀ s ∈ L,s.size<=200) (hL:L.length<=100) :
  Calls Tryz.prog 92 #[v] w0 fun e w'=>e=.returned (.bool (clashR L))/\Upd [] w0 w':=by
 have HD:=hide (refDrawn_any w0 L v cs h hok hsz hL)
 have hlen:=termsR_len L hsz
 obtain ⟨a,cap,hv,hc1,hc2,hform⟩:=h.row.form
 subst hv
 obtain ⟨n,hn⟩:∃ n,L.length=n:=⟨_,rfl⟩
 have hcs:cs.length=n:=by rw [h.len,hn]
 rw [hcs] at hc1 hform HD ⊢
 rw [hn] at hlen hL
 unfold maxLen at hc2
 have Hform:=hide hform
 have Hkids:=hide h.kids
 have Hn:=hide hn
 have Hcs:=hide hcs
 have Hsd:=hide (fun (x:ST) (hx:x ∈ L)=>sides_known hok hx)
 have HDl:Hid ((drawnR L).length=(termsR L).length):=by
  obtain ⟨hT,hk⟩:=termsR_ok hok
  show _=_
  have:=(loopR_end (L:=L) hT (fun t ht=>(hk t).1 ht) ((termsR L).length+1) (eqsTo L L.length) (eqsTo_ok hok) (by have:=kinds_le (termsR L).length (eqsTo L L.length); omega)).1.len
  unfold eqsTo at this
  rw [List.take_of_length_le (Nat.le_refl _)] at this
  exact this
 obtain ⟨ts,hts⟩:∃ ts,termsR L=ts:=⟨_,rfl⟩
 obtain ⟨D,hD⟩:∃ D,drawnR L=D:=⟨_,rfl⟩
 have HC:Hid (∀ b:Bool,(b=true ↔ ∃ x ∈ L,x.eq=false/\clsOf ts D x.l=clsOf ts D x.r)->clashR L=b):=fun b hb=>by
  rw [Bool.eq_iff_iff,hb]
  unfold clashR
  rw [List.any_eq_true,hts,hD]
  constructor
  ·rintro ⟨x,hx,h1⟩
   simp only [Bool.and_eq_true,Bool.not_eq_true',beq_iff_eq] at h1
   exact ⟨x,hx,h1.1,h1.2⟩
  ·rintro ⟨x,hx,h1,h2⟩
   refine ⟨x,hx,?_⟩
   simp only [Bool.and_eq_true,Bool.not_eq_true',beq_iff_eq]
   exact ⟨h1,h2⟩
 rw [hts] at hlen HD Hsd HDl
 rw [hD] at HD HDl
 clear h hform hn hcs hok hsz hts hD
 go_enter Tryz.func92,Tryz.ntmps92
 go_wp2_with (go_at_call 76; refine HD.out.mono ?_; rintro e w2 ⟨wb,rfl,h2⟩; have H2:=hide h2; clear h2)
 go_loopw [4] (fun i wr=>∃ j m:Nat,j<=n/\i=.int .i64 j/\wr=w2.drewN m/\Hid (∀ (q:Nat) (x:ST),q < j->L[q]?=some x->¬ (x.eq=false/\clsOf ts D x.l=clsOf ts D x.r))) (fun i _=>n - (intOf i).toNat)
 case atStart=>exact ⟨0,0,Nat.zero_le _,rfl,rfl,fun q x hq=>by omega⟩
 case round =>
  obtain ⟨j,m,hj,rfl,rfl,HJ⟩:=hrel
  by_cases hjn:j < n
  ·have hjI:(j:Int) < (n:Int):=by omega
   obtain ⟨x,hx⟩:∃ x,L[j]?=some x:=⟨_,List.getElem?_eq_getElem (by rw [Hn.out]; exact hjn)⟩
   obtain ⟨c,hc⟩:∃ c,cs[j]?=some c:=⟨_,List.getElem?_eq_getElem (by rw [Hcs.out]; exact hjn)⟩
   obtain ⟨g,rfl,hg1,_,hg3⟩:=Hform.out (by omega)
   have hs:=Hkids.out j c x hc hx
   obtain ⟨lb,rb,s1,s2,s3,s4⟩:=hs.sides
   have hm:=List.mem_of_getElem? hx
   have q0:=(H2.out.1.cell (p:=⟨g,j,none⟩) hg1 (by simp)).trans (hg3 j c hc)
   have q1:=(H2.out.1.cell (p:=⟨c,0,none⟩) hs.lt (by simp)).trans hs.eq
   have HNx:Hid (¬ (x.eq=false/\clsOf ts D x.l=clsOf ts D x.r)->∀ (q:Nat) (y:ST),q < j+1->L[q]?=some y->¬ (y.eq=false/\clsOf ts D y.l=clsOf ts D y.r)):=fun hno q y hq hy=>by
    by_cases e:q < j
    ·exact HJ.out q y e hy
    ·obtain rfl:q=j:=by omega
     rw [hx] at hy
     obtain rfl:=Option.some.inj hy
     exact hno
   cases hxe:x.eq with
   | true =>
    rw [hxe] at q1
    have HN2:=hide (HNx.out (fun e=>by rw [hxe] at e; cases e.1))
    clear hs s1 s2 s3 s4 hm hx hc hg1 hg3 HNx hxe
    go_wp2_with fail
    go_quiet (fail)
    go_wp2
    refine ⟨⟨j+1,_,by omega,by simp,rfl,HN2.out⟩,?_⟩
    simp [intOf]
    omega
   | false =>
    rw [hxe] at q1
    obtain ⟨ia,ib,hia,hib,la,lb'⟩:=Hsd.out x hm
    obtain ⟨gv,capv,gu,capu,cw,hw,a1,a2,b1,b2⟩:=H2.out.at (by omega) HDl.out
    have c1:=hw.c1
    have z1:=hw.class_at (i:=ia) (by rw [HDl.out]; exact la) HDl.out.symm
    have z2:=hw.class_at (i:=ib) (by rw [HDl.out]; exact lb') HDl.out.symm
    have t1:=(H2.out.1.cell (p:=⟨c,1,none⟩) hs.lt (by simp)).trans s1
    have t2:=(H2.out.1.cell (p:=⟨c,2,none⟩) hs.lt (by simp)).trans s2
    have t3:=(H2.out.1.cell (p:=⟨lb,2,none⟩) s3.lt (by simp)).trans s3.text
    have t4:=(H2.out.1.cell (p:=⟨rb,2,none⟩) s4.lt (by simp)).trans s4.text
    obtain ⟨nt,hnt⟩:∃ nt,ts.length=nt:=⟨_,rfl⟩
    rw [hnt] at la lb' c1 b1 hlen
    have HI:=hide (fun (y:ByteArray) (i q:Nat) (hy:idxT y ts=some i)=>show Calls Tryz.prog 103 #[.pointer (some ⟨wb,0,none⟩),.string y] (w2.drewN q) fun e w'=>e=.returned (.int .i64 (i:Int))/\w'=w2.drewN q from by
     have:=(H2.out.drewN q).index (by omega) y
     rw [idxI_some hy] at this
     exact this)
    have hiaI:(ia:Int) < (nt:Int):=by omega
    have hibI:(ib:Int) < (nt:Int):=by omega
    have HX:Hid (clsOf ts D x.l=clsAt D ia):=by show _=_; unfold clsOf; rw [hia]; rfl
    have HY:Hid (clsOf ts D x.r=clsAt D ib):=by show _=_; unfold clsOf; rw [hib]; rfl
    obtain ⟨xa,hxa⟩:∃ xa,clsAt D ia=xa:=⟨_,rfl⟩
    obtain ⟨xb,hxb⟩:∃ xb,clsAt D ib=xb:=⟨_,rfl⟩
    rw [hxa] at z1 HX
    rw [hxb] at z2 HY
    have Hia:=hide hia
    have Hib:=hide hib
    have Hm:=hide hm
    have Hxe:=hide hxe
    unfold maxLen at a2 b2
    clear hs s1 s2 s3 s4 hx hc hg1 hg3 hw hia hib hxa hxb hnt hm hxe
    by_cases he:xa=xb
    ·have he2:(xa:Int)=(xb:Int):=by omega
     have he3:((xa:Int) == (xb:Int))=true:=by simp [he]
     have HF:Hid (clashR L=true):=HC.out true (by
      simp only [true_iff]
      exact ⟨x,Hm.out,Hxe.out,by rw [HX.out,HY.out,he]⟩)
     go_wp2_with fail
     go_quiet ((go_at_call 103; first | exact quiet_of_same2 (HI.out _ ia _ Hia.out) | exact quiet_of_same2 (HI.out _ ib _ Hib.out)))
     go_wp2
     go_ret
     exact ⟨by rw [HF.out]; rfl,(H2.out.1.drewN _).drewN _⟩
    ·have he2:¬ (xa:Int)=(xb:Int):=by omega
     have he3:((xa:Int) == (xb:Int))=false:=by simp; omega
     have HN2:=hide (HNx.out (fun e=>he (by have:=e.2; rw [HX.out,HY.out] at this; exact this)))
     go_wp2_with fail
     go_quiet ((go_at_call 103; first | exact quiet_of_same2 (HI.out _ ia _ Hia.out) | exact quiet_of_same2 (HI.out _ ib _ Hib.out)))
     go_wp2
     refine ⟨⟨j+1,_,by omega,by simp,rfl,HN2.out⟩,?_⟩
     simp [intOf]
     omega
  ·have hjI:¬ (j:Int) < (n:Int):=by omega
   have HF:Hid (clashR L=false):=HC.out false (by
    simp only [Bool.false_eq_true,false_iff]
    rintro ⟨x,hx,h1⟩
    obtain ⟨q,hq⟩:=List.getElem?_of_mem hx
    exact HJ.out q x (by have:=(List.getElem?_eq_some_iff.1 hq).1; rw [Hn.out] at this; omega) hq h1)
   go_wp2
   go_ret
   exact ⟨by rw [HF.out]; rfl,H2.out.1.drewN _⟩
end Go.Proofs.YtmfkpllnmmfpiaaGreatDoor
