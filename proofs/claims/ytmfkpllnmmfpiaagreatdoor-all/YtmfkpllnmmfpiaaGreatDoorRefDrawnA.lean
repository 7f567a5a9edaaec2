/- RefDrawn -/
import Derived.Test.YtmfkpllnmmfpiaaGreatDoorRefAddA
import Derived.Deep.RegionHeld3
import Derived.Deep.LoopGhost
set_option maxHeartbeats 16000000
set_option maxRecDepth 100000
namespace Go.Proofs.YtmfkpllnmmfpiaaGreatDoor
open Go.RowKit
theorem PRow.form {w:World} {Z:Nat->Prop} {v:Value} {cs:List Nat} (h:PRow w Z v cs):∃ a cap,v=.slice a cs.length cap/\cs.length<=cap/\cap<=maxLen/\(0 < cs.length->∃ g,a=some ⟨g,0,none⟩/\g < w.heap.size/\Z g/\∀ (i c:Nat),cs[i]?=some c->w.cell? ⟨g,i,none⟩=some (.pointer (some ⟨c,0,none⟩))):=by
 rcases h with ⟨h1,h2⟩ | ⟨g,cap,h1,h2,h3,h4,h5,h6⟩
 ·subst h2
  exact ⟨none,0,h1,by simp,by simp [maxLen],fun h=>by simp at h⟩
 ·exact ⟨_,cap,h1,h2,h3,fun _=>⟨g,rfl,h4,h5,h6⟩⟩
def eqsTo (L:List ST) (j:Nat):List Nat:=(L.take j).foldl (eqsR (termsR L)) (List.range (termsR L).length)
theorem eqsTo_zero (L:List ST):eqsTo L 0=List.range (termsR L).length:=rfl
theorem eqsTo_succ {L:List ST} {j:Nat} {x:ST} (h:L[j]?=some x):eqsTo L (j+1)=eqsR (termsR L) (eqsTo L j) x:=by
 unfold eqsTo
 rw [take_succ_get h,List.foldl_append]
 rfl
theorem eqsTo_len (L:List ST):∀ j,(eqsTo L j).length=(termsR L).length
 | 0=>by simp [eqsTo_zero]
 | j+1=>by
  by_cases hj:j < L.length
  ·rw [eqsTo_succ (List.getElem?_eq_getElem hj)]
   unfold eqsR
   split
   ·rw [joinC_length]; exact eqsTo_len L j
   ·exact eqsTo_len L j
  ·have e:eqsTo L (j+1)=eqsTo L j:=by
    unfold eqsTo
    rw [List.take_of_length_le (by omega),List.take_of_length_le (by omega)]
   rw [e]
   exact eqsTo_len L j
theorem eqsTo_ok {L:List ST} (hL:∀ s ∈ L,STOK s):ClsOK L (termsR L) (eqsTo L L.length):=by
 obtain ⟨hT,hk⟩:=termsR_ok hL
 unfold eqsTo
 rw [List.take_of_length_le (Nat.le_refl _)]
 exact (eqsR_end hT hk L (List.range (termsR L).length) (fun s hs=>hs) hL (rangeC_ok L (termsR L))).1
theorem sides_known {L:List ST} (hL:∀ s ∈ L,STOK s) {x:ST} (hx:x ∈ L):∃ i j,idxT x.l.text (termsR L)=some i/\idxT x.r.text (termsR L)=some j/\i < (termsR L).length/\j < (termsR L).length:=by
 obtain ⟨hT,hk⟩:=termsR_ok hL
 obtain ⟨a,ha⟩:=List.getElem?_of_mem ((hk x.l).2 ⟨x,hx,.inl (.self _)⟩)
 obtain ⟨b,hb⟩:=List.getElem?_of_mem ((hk x.r).2 ⟨x,hx,.inr (.self _)⟩)
 exact ⟨a,b,(hT.idx (hL x hx).1).2 ha,(hT.idx (hL x hx).2).2 hb,(List.getElem?_eq_some_iff.1 ha).1,(List.getElem?_eq_some_iff.1 hb).1⟩
theorem RWB.at {w0 w:World} {wb:Nat} {l:List Trm} {cl:List Nat} (h:RWB w0 w wb l cl) (hp:0 < l.length) (hcl:cl.length=l.length):∃ gv capv gu capu cs,RWAt w wb (fun k=>k < w0.heap.size) l cl (.slice (some ⟨gv,0,none⟩) l.length capv) (.slice (some ⟨gu,0,none⟩) l.length capu) cs/\l.length<=capv/\capv<=maxLen/\l.length<=capu/\capu<=maxLen:=by
 obtain ⟨_,v,u,cs,hw⟩:=h
 rcases ownsRow_slice hw.rowL with ⟨_,e0⟩ | ⟨gv,capv,rfl,a1,a2⟩
 ·omega
 rcases ownsRow_slice hw.rowC with ⟨_,e0⟩ | ⟨gu,capu,rfl,b1,b2⟩
 ·omega
 rw [hcl] at hw b1
 exact ⟨gv,capv,gu,capu,cs,hw,a1,a2,b1,b2⟩
theorem RWB.drew {w0 w:World} {wb:Nat} {l:List Trm} {cl:List Nat} (h:RWB w0 w wb l cl):RWB w0 w.drew wb l cl:=by
 obtain ⟨hu,v,u,cs,h⟩:=h
 exact ⟨hu.drew,v,u,cs,h.later (Upd.refl [] w).drew (fun _ _=>by simp) (by simp) (fun _ _=>by simp) (fun _ _=>by simp)⟩
theorem RWB.index {w0 w:World} {wb:Nat} {l:List Trm} {cl:List Nat} (h:RWB w0 w wb l cl) (hl:l.length<=100000) (x:ByteArray):Calls Tryz.prog 103 #[.pointer (some ⟨wb,0,none⟩),.string x] w fun e w'=>e=.returned (.int .i64 (idxI x l))/\w'=w:=by
 obtain ⟨_,v,u,cs,hw⟩:=h
 exact refIndex_any w wb _ l v cs x hw.terms hl
theorem RWB.join {w0 w:World} {wb:Nat} {l:List Trm} {cl:List Nat} (h:RWB w0 w wb l cl) {a b:Nat} (ha:a < cl.length) (hb:b < cl.length) (hl:cl.length<=100000):Calls Tryz.prog 112 #[.pointer (some ⟨wb,0,none⟩),.int .i64 a,.int .i64 b] w fun e w'=>e=.returned (.bool (clsAt cl a != clsAt cl b))/\RWB w0 w' wb l (joinC cl a b):=by
 obtain ⟨hU,v,u,cs,hw⟩:=h
 refine (refJoin_any w wb a b _ l cl v u cs hw ha hb hl).mono ?_
 rintro e w' ⟨h1,h2,h3⟩
 exact ⟨h1,RWB.step (l:=l) (cl:=cl) ⟨hU,v,u,cs,hw⟩ h3 (fun k hk=>by have:=(hw.notZu k (by simpa using hk)).1; omega) ⟨v,u,cs,h2⟩⟩
theorem RWB.same {w0 w:World} {wb:Nat} {l:List Trm} {cl:List Nat} (h:RWB w0 w wb l cl) (hT:TermsOK l) (hcl:cl.length=l.length) (hl:l.length<=100000) {t u:Trm} (ht:t ∈ l) (hu:u ∈ l) {tb ub:Nat} (h1:IsRT w (fun k=>k < w0.heap.size) t tb) (h2:IsRT w (fun k=>k < w0.heap.size) u ub) (q:Nat) :
  Calls Tryz.prog 113 #[.pointer (some ⟨wb,0,none⟩),.pointer (some ⟨tb,0,none⟩),.pointer (some ⟨ub,0,none⟩)] (w.drewN q) fun e w'=>e=.returned (.bool (sameR l cl t u))/\∃ n,w'=w.drewN (q+n):=by
 obtain ⟨hU,v,u',cs,hw⟩:=h
 have hlt:∀ x,Upd [] x (x.drewN q):=fun x=>(Upd.refl [] x).drewN q
 refine (refSame_any (w.drewN q) wb tb ub _ l cl v u' cs (hw.later (hlt w) (fun _ _=>by simp) (by simp) (fun _ _=>by simp) (fun _ _=>by simp)) hcl hl t u (h1.later (hlt w) (fun _ _=>by simp)) (h2.later (hlt w) (fun _ _=>by simp)) (fun nm ps p e hp=>?_) (fun nm ps p e hp=>?_)).mono ?_
 ·subst e
  have hm:=hT.parts nm ps ht p hp
  obtain ⟨i,hi⟩:=List.getElem?_of_mem hm
  exact ⟨i,(hT.idx (hT.ok p hm)).2 hi⟩
 ·subst e
  have hm:=hT.parts nm ps hu p hp
  obtain ⟨i,hi⟩:=List.getElem?_of_mem hm
  exact ⟨i,(hT.idx (hT.ok p hm)).2 hi⟩
 ·rintro e w' ⟨e1,n,rfl⟩
  exact ⟨e1,n,by simp⟩
theorem refDrawn_any (w0:World) (L:List ST) (v:Value) (cs:List Nat) (h:RSRow w0 (fun k=>k < w0.heap.size) v L cs) (hok:∀ s ∈ L,STOK s) (hsz:∀ s ∈ L,s.size<=200) (hL:L.length<=100) :
  Calls Tryz.prog 76 #[v] w0 fun e w'=>∃ wb,e=.returned (.pointer (some ⟨wb,0,none⟩))/\RWB w0 w' wb (termsR L) (drawnR L):=by
 obtain ⟨hT,hk⟩:=termsR_ok hok
 have hlen:=termsR_len L hsz
 obtain ⟨a,cap,hv,hc1,hc2,hform⟩:=h.row.form
 subst hv
 obtain ⟨n,hn⟩:∃ n,L.length=n:=⟨_,rfl⟩
 have hcs:cs.length=n:=by rw [h.len,hn]
 rw [hcs] at hc1 hform ⊢
 rw [hn] at hlen hL
 unfold maxLen at hc2
 have Hform:=hide hform
 have Hkids:=hide h.kids
 have Hn:=hide hn
 have Hcs:=hide hcs
 have Hok:=hide hok
 have HT:=hide hT
 have Hk:Hid (∀ t ∈ termsR L,known L t):=fun t ht=>(hk t).1 ht
 have H1:=hide (RWB.new w0)
 have HszL:Hid (∀ j,(termsR (L.take j)).length<=200 * n):=fun j=>by
  refine Nat.le_trans (termsR_len (L.take j) (fun s hs=>hsz s (List.mem_of_mem_take hs))) ?_
  have:(L.take j).length<=n:=by rw [List.length_take,<- Hn.out]; omega
  omega
 have Hsz:=hide hsz
 clear h hT hk hform hn hcs hok hsz
 go_enter Tryz.func76,Tryz.ntmps76
 go_wp2
 go_loopw [4] (fun i wr=>∃ j:Nat,j<=n/\i=.int .i64 j/\Hid (RWB w0 wr w0.heap.size (termsR (L.take j)) (List.range (termsR (L.take j)).length))) (fun i _=>n - (intOf i).toNat)
 case atStart=>exact ⟨0,Nat.zero_le _,rfl,H1.out⟩
 case round =>
  obtain ⟨j,hj,rfl,HR⟩:=hrel
  clear H1
  by_cases hjn:j < n
  ·have hjI:(j:Int) < (n:Int):=by omega
   obtain ⟨x,hx⟩:∃ x,L[j]?=some x:=⟨_,List.getElem?_eq_getElem (by rw [Hn.out]; exact hjn)⟩
   obtain ⟨c,hc⟩:∃ c,cs[j]?=some c:=⟨_,List.getElem?_eq_getElem (by rw [Hcs.out]; exact hjn)⟩
   obtain ⟨g,rfl,hg1,_,hg3⟩:=Hform.out (by omega)
   have hs:=Hkids.out j c x hc hx
   obtain ⟨lb,rb,s1,s2,s3,s4⟩:=hs.sides
   have hxs:x.l.size+x.r.size<=200:=Hsz.out x (List.mem_of_getElem? hx)
   have ht:=HszL.out j
   have ha1:=addR_len x.l (termsR (L.take j))
   have q0:=(HR.out.1.cell (p:=⟨g,j,none⟩) hg1 (by simp)).trans (hg3 j c hc)
   have q1:=(HR.out.1.cell (p:=⟨c,1,none⟩) hs.lt (by simp)).trans s1
   have HC1:=hide (refAdd_any _ x.l (Nat.le_refl _) w0 wr w0.heap.size lb (termsR (L.take j)) HR.out s3 (by omega))
   have HC2:=hide (fun (w2:World) (h2:RWB w0 w2 w0.heap.size (addR x.l (termsR (L.take j))) (List.range (addR x.l (termsR (L.take j))).length))=>refAdd_any _ x.r (Nat.le_refl _) w0 w2 w0.heap.size rb _ h2 s4 (by omega))
   have HE:Hid (termsR (L.take (j+1))=addR x.r (addR x.l (termsR (L.take j)))):=by show _=_; rw [take_succ_get hx,termsR_snoc]
   have Hq0:=hide (hg3 j c hc)
   have Hs2:=hide s2
   have Hslt:=hide hs.lt
   have Hg1:=hide hg1
   clear hs s1 s2 s3 s4 hxs ht ha1 hx hc hg3 hg1
   go_upto_region 6 with (go_at_call 111; refine HC1.out.mono ?_; rintro e w2 ⟨rfl,h2⟩; have H2:=hide h2; clear h2)
   have q2:=(H2.out.1.cell (p:=⟨g,j,none⟩) Hg1.out (by simp)).trans Hq0.out
   have q3:=(H2.out.1.cell (p:=⟨c,2,none⟩) Hslt.out (by simp)).trans Hs2.out
   clear q0 q1
   go_wp2_with (go_at_call 111; refine (HC2.out w2 H2.out).mono ?_; rintro e w3 ⟨rfl,h3⟩; have H3:=hide h3; clear h3)
   refine ⟨⟨j+1,by omega,by simp,by rw [HE.out]; exact H3.out⟩,?_⟩
   simp [intOf]
   omega
  ·have hjI:¬ (j:Int) < (n:Int):=by omega
   have hje:L.take j=L:=List.take_of_length_le (by rw [Hn.out]; omega)
   rw [hje] at HR
   obtain ⟨ts,hts⟩:∃ ts,termsR L=ts:=⟨_,rfl⟩
   have Hts:=hide hts
   rw [hts] at HR hlen HT Hk
   have H2:Hid (RWB w0 wr w0.heap.size ts (eqsTo L 0)):=by show RWB _ _ _ _ _; rw [eqsTo_zero,hts]; exact HR.out
   have Hel:Hid (∀ j,(eqsTo L j).length=ts.length):=fun j=>by rw [eqsTo_len,hts]
   have HD:Hid (loopR ts (ts.length+1) (eqsTo L n)=drawnR L):=by
    show _=_
    unfold drawnR eqsTo
    rw [hts,List.take_of_length_le (by rw [Hn.out]; omega)]
   have HO:Hid (ClsOK L ts (eqsTo L n)):=by
    have:=eqsTo_ok Hok.out
    rw [hts,Hn.out] at this
    exact this
   clear HR hje hts hj HszL
   go_wp2
   go_loopw [5] (fun i wr=>∃ j:Nat,j<=n/\i=.int .i64 j/\Hid (RWB w0 wr w0.heap.size ts (eqsTo L j))) (fun i _=>n - (intOf i).toNat)
   case atStart=>exact ⟨0,Nat.zero_le _,rfl,H2.out⟩
   case round =>
    clear H2 hjn hjI
    obtain ⟨j,hj,rfl,HR⟩:=hrel
    by_cases hjn:j < n
    ·have hjI:(j:Int) < (n:Int):=by omega
     obtain ⟨x,hx⟩:∃ x,L[j]?=some x:=⟨_,List.getElem?_eq_getElem (by rw [Hn.out]; exact hjn)⟩
     obtain ⟨c,hc⟩:∃ c,cs[j]?=some c:=⟨_,List.getElem?_eq_getElem (by rw [Hcs.out]; exact hjn)⟩
     obtain ⟨g,rfl,hg1,_,hg3⟩:=Hform.out (by omega)
     have hs:=Hkids.out j c x hc hx
     obtain ⟨lb,rb,s1,s2,s3,s4⟩:=hs.sides
     have q0:=(HR.out.1.cell (p:=⟨g,j,none⟩) hg1 (by simp)).trans (hg3 j c hc)
     have q1:=(HR.out.1.cell (p:=⟨c,0,none⟩) hs.lt (by simp)).trans hs.eq
     have hes:=eqsTo_succ hx
     unfold eqsR at hes
     cases hxe:x.eq with
     | false =>
      rw [hxe] at q1 hes
      simp only [Bool.false_eq_true,if_false] at hes
      have HE:=hide hes
      clear hs s1 s2 s3 s4 hx hc hg1 hg3 hes hxe
      go_wp2
      refine ⟨⟨j+1,by omega,by simp,by rw [HE.out]; exact HR.out⟩,?_⟩
      simp [intOf]
      omega
     | true =>
      rw [hxe] at q1 hes
      obtain ⟨ia,ib,hia,hib,la,lb'⟩:=sides_known Hok.out (List.mem_of_getElem? hx)
      rw [Hts.out] at hia hib la lb' hes
      simp only [if_true,hia,hib,Option.getD_some] at hes
      have q2:=(HR.out.1.cell (p:=⟨c,1,none⟩) hs.lt (by simp)).trans s1
      have q3:=(HR.out.1.cell (p:=⟨c,2,none⟩) hs.lt (by simp)).trans s2
      have q4:=(HR.out.1.cell (p:=⟨lb,2,none⟩) s3.lt (by simp)).trans s3.text
      have q5:=(HR.out.1.cell (p:=⟨rb,2,none⟩) s4.lt (by simp)).trans s4.text
      obtain ⟨XL,hXL⟩:∃ XL,x.l.text=XL:=⟨_,rfl⟩
      obtain ⟨XR,hXR⟩:∃ XR,x.r.text=XR:=⟨_,rfl⟩
      rw [hXL] at hia q4
      rw [hXR] at hib q5
      have HIa:=hide (HR.out.drew.index (by omega) XL)
      have HIb:=hide (HR.out.drew.index (by omega) XR)
      rw [idxI_some hia] at HIa
      rw [idxI_some hib] at HIb
      have HJ:=hide (HR.out.drew.join (a:=ia) (b:=ib) (by rw [Hel.out]; exact la) (by rw [Hel.out]; exact lb') (by rw [Hel.out]; omega))
      have HE:=hide hes
      have HK:Hid (∀ w':World,Upd [] w0 w'->w'.cell? ⟨g,j,none⟩=some (.pointer (some ⟨c,0,none⟩))/\w'.cell? ⟨c,1,none⟩=some (.pointer (some ⟨lb,0,none⟩))/\w'.cell? ⟨c,2,none⟩=some (.pointer (some ⟨rb,0,none⟩))/\w'.cell? ⟨lb,2,none⟩=some (.string XL)/\w'.cell? ⟨rb,2,none⟩=some (.string XR)):=fun w' hU =>
       ⟨(hU.cell (p:=⟨g,j,none⟩) hg1 (by simp)).trans (hg3 j c hc),(hU.cell (p:=⟨c,1,none⟩) hs.lt (by simp)).trans s1,(hU.cell (p:=⟨c,2,none⟩) hs.lt (by simp)).trans s2,by rw [<- hXL]; exact (hU.cell (p:=⟨lb,2,none⟩) s3.lt (by simp)).trans s3.text,by rw [<- hXR]; exact (hU.cell (p:=⟨rb,2,none⟩) s4.lt (by simp)).trans s4.text⟩
      clear hs s1 s2 s3 s4 hx hc hg1 hg3 hes hxe hXL hXR hia hib
      go_wp2_with fail
      go_region_held3 (fun w'=>w'.cell? ⟨g,j,none⟩=some (.pointer (some ⟨c,0,none⟩))/\w'.cell? ⟨c,1,none⟩=some (.pointer (some ⟨lb,0,none⟩))/\w'.cell? ⟨c,2,none⟩=some (.pointer (some ⟨rb,0,none⟩))/\w'.cell? ⟨lb,2,none⟩=some (.string XL)/\w'.cell? ⟨rb,2,none⟩=some (.string XR)) ((first | go_keep | (refine ⟨?_,?_,?_,?_,?_⟩ <;> go_simp)))
       (first
        | (go_at_call_of 103 (Value.string XL); refine HIa.out.mono ?_; rintro e w3 ⟨rfl,hw3⟩; rw [hw3]; clear hw3 w3)
        | (go_at_call_of 103 (Value.string XR); refine HIb.out.mono ?_; rintro e w3 ⟨rfl,hw3⟩; rw [hw3]; clear hw3 w3)
        | (go_at_call 112; refine HJ.out.mono ?_; rintro e w4 ⟨rfl,h4⟩; obtain ⟨k0,k1,k2,k3,k4⟩:=HK.out w4 h4.1; have H4:=hide h4; clear h4))
      all_goals (
       go_wp2
       refine ⟨⟨j+1,by omega,by simp,by rw [HE.out]; exact H4.out⟩,?_⟩
       simp [intOf]
       omega)
    ·have hjI:¬ (j:Int) < (n:Int):=by omega
     have hje:j=n:=by omega
     have H3:Hid (RWB w0 wr w0.heap.size ts (eqsTo L n)):=by have:=HR.out; rw [hje] at this; exact this
     obtain ⟨N,hN⟩:∃ N,ts.length=N:=⟨_,rfl⟩
     rw [hN] at HD hlen Hel
     have HN:=hide hN
     have hkl:=kinds_le N (eqsTo L n)
     obtain ⟨D,hD⟩:∃ D,drawnR L=D:=⟨_,rfl⟩
     have HDD:=hide hD
     rw [hD] at HD
     obtain ⟨C0,hC0⟩:∃ C0,eqsTo L n=C0:=⟨_,rfl⟩
     rw [hC0] at HD HO H3 hkl
     have HP:Hid (∀ (i:Nat) (c:List Nat × Bool),Passed L ts c (passR ts i c)):=fun i c=>passR_passed HT.out Hk.out i c
     have HQ:Hid (∀ (i k:Nat) (c:List Nat × Bool),Passed L ts c (rowR ts i k c)):=fun i k c=>rowR_passed HT.out Hk.out i k c
     clear HR hje hN hD hC0 hj hjn Hel Hform Hkids Hcs
     go_wp2
     go_loopg [6] (N+1) (fun k t wr=>Hid (∃ c,RWB w0 wr w0.heap.size ts c/\ClsOK L ts c/\((t=.bool true/\loopR ts k c=D/\kinds N c < k)\/(t=.bool false/\c=D))))
     case atStart=>exact ⟨C0,H3.out,HO.out,.inl ⟨rfl,HD.out,by omega⟩⟩
     case round =>
      clear H3 HD HO hkl
      obtain ⟨w1,hw1⟩:∃ w1,w1=wr:=⟨_,rfl⟩
      rw [<- hw1] at hrel ⊢
      clear hw1
      obtain ⟨c,h3,hO,ht⟩:=hrel.out
      clear hrel
      rcases ht with ⟨rfl,hlp,hkn⟩ | ⟨rfl,rfl⟩
      ·obtain ⟨f,rfl⟩:∃ f,gk=f+1:=⟨gk - 1,by omega⟩
       have H3:=hide h3
       have HO:=hide hO
       have Hlp:=hide hlp
       have Hkn:=hide hkn
       clear h3 hO hlp hkn
       go_wp2
       go_loopw [6,7] (fun t i wr=>∃ (q:Nat) (b:Bool),q<=N/\i=.int .i64 q/\t=.bool b/\Hid ((passR ts q (c,false)).2=b/\RWB w0 wr w0.heap.size ts (passR ts q (c,false)).1)) (fun _ i _=>N - (intOf i).toNat)
       case atStart=>exact ⟨0,false,Nat.zero_le _,rfl,rfl,rfl,H3.out⟩
       case round =>
        clear H3
        obtain ⟨w2,hw2⟩:∃ w2,w2=wr:=⟨_,rfl⟩
        rw [<- hw2] at hrel ⊢
        clear hw2
        obtain ⟨q,b,hq,rfl,rfl,HM⟩:=hrel
        obtain ⟨C,hC⟩:∃ C,passR ts q (c,false)=C:=⟨_,rfl⟩
        rw [hC] at HM
        have HCo:Hid (ClsOK L ts C.1):=by have:=(HP.out q (c,false)).ok HO.out; rw [hC] at this; exact this
        have HC:=hide hC
        clear hC
        by_cases hqN:q < N
        ·have hqI:(q:Int) < (N:Int):=by omega
         obtain ⟨hb2,h2⟩:=HM.out
         have hCl:C.1.length=ts.length:=HCo.out.len
         obtain ⟨gv,capv,gu,capu,cw,hw,a1,a2,b1,b2⟩:=h2.at (by have:=HN.out; omega) hCl
         have c0:=hw.c0
         rw [HN.out] at c0 a1 b1
         have H2:=hide h2
         have Hb2:=hide hb2
         clear hw h2 hb2 HM hCl
         unfold maxLen at a2 b2
         go_wp2
         go_loopw [6,8] (fun t i wr=>∃ (k:Nat) (b:Bool),k<=q/\i=.int .i64 k/\t=.bool b/\Hid ((rowR ts q k C).2=b/\RWB w0 wr w0.heap.size ts (rowR ts q k C).1)) (fun _ i _=>q - (intOf i).toNat)
         case atStart=>exact ⟨0,b,Nat.zero_le _,rfl,rfl,Hb2.out,H2.out⟩
         case round =>
          clear H2 Hb2 c0 a1 a2 b1 b2
          obtain ⟨w3,hw3⟩:∃ w3,w3=wr:=⟨_,rfl⟩
          rw [<- hw3] at hrel ⊢
          clear hw3
          obtain ⟨k,b3,hk,rfl,rfl,HM3⟩:=hrel
          obtain ⟨R,hR⟩:∃ R,rowR ts q k C=R:=⟨_,rfl⟩
          rw [hR] at HM3
          have hRo:ClsOK L ts R.1:=by have:=(HQ.out q k C).ok HCo.out; rw [hR] at this; exact this
          by_cases hkq:k < q
          ·have hkI:(k:Int) < (q:Int):=by omega
           have hkN:(k:Int) < (N:Int):=by omega
           have HX:Hid (rowR ts q (k+1) C=pairR ts q k R):=by show _=_; rw [<- hR]; rfl
           obtain ⟨hb3,h3⟩:=HM3.out
           obtain ⟨gv,capv,gu,capu,cw,hw,a1,a2,b1,b2⟩:=h3.at (by have:=HN.out; omega) hRo.len
           have c0:=hw.c0
           have c1:=hw.c1
           have z1:=hw.class_at (i:=q) (by rw [hRo.len,HN.out]; exact hqN) hRo.len.symm
           have z2:=hw.class_at (i:=k) (by rw [hRo.len,HN.out]; omega) hRo.len.symm
           obtain ⟨t,htq⟩:∃ t,ts[q]?=some t:=⟨_,List.getElem?_eq_getElem (by rw [HN.out]; exact hqN)⟩
           obtain ⟨u,huk⟩:∃ u,ts[k]?=some u:=⟨_,List.getElem?_eq_getElem (by rw [HN.out]; omega)⟩
           obtain ⟨tb,htb⟩:∃ tb,cw[q]?=some tb:=⟨_,List.getElem?_eq_getElem (by rw [hw.len,HN.out]; exact hqN)⟩
           obtain ⟨ub,hub⟩:∃ ub,cw[k]?=some ub:=⟨_,List.getElem?_eq_getElem (by rw [hw.len,HN.out]; omega)⟩
           have y1:w3.cell? ⟨gv,q,none⟩=some (.pointer (some ⟨tb,0,none⟩)):=by
            rw [hw.rowL.cellAt q (by rw [HN.out]; omega)]
            simp [ptrs,htb]
           have y2:w3.cell? ⟨gv,k,none⟩=some (.pointer (some ⟨ub,0,none⟩)):=by
            rw [hw.rowL.cellAt k (by rw [HN.out]; omega)]
            simp [ptrs,hub]
           have HS:Hid (∀ p m:Nat,Calls Tryz.prog 113 #[.pointer (some ⟨w0.heap.size,0,none⟩),.pointer (some ⟨tb,0,none⟩),.pointer (some ⟨ub,0,none⟩)] (w3.drewN (p+m)) fun e w'=>e=.returned (.bool (sameR ts R.1 t u))/\∃ n,w'=w3.drewN (p+n)):=fun p m=>(h3.same HT.out hRo.len (by have:=HN.out; omega) (List.mem_of_getElem? htq) (List.mem_of_getElem? huk) (hw.kids q tb t htb htq) (hw.kids k ub u hub huk) (p+m)).mono fun e w' ⟨h,n,hn⟩=>⟨h,m+n,by rw [hn,Nat.add_assoc]⟩
           have HJ:=hide (fun p=>(h3.drewN p).join (a:=q) (b:=k) (by rw [hRo.len,HN.out]; exact hqN) (by rw [hRo.len,HN.out]; omega) (by rw [hRo.len,HN.out]; omega))
           rw [HN.out] at c0 c1 a1 b1
           obtain ⟨xa,hxa⟩:∃ xa,clsAt R.1 q=xa:=⟨_,rfl⟩
           obtain ⟨xb,hxb⟩:∃ xb,clsAt R.1 k=xb:=⟨_,rfl⟩
           rw [hxa] at z1 HJ
           rw [hxb] at z2 HJ
           have H3:=hide h3
           have Hb3:=hide hb3
           unfold maxLen at a2 b2
           have HY:Hid (pairR ts q k R=if xa=xb then R else if sameR ts R.1 t u then (joinC R.1 q k,true) else R):=by show _=_; unfold pairR; rw [hxa,hxb,htq,huk]
           clear hw h3 hb3 HM3 htb hub htq huk hxa hxb hR
           by_cases he:xa=xb
           ·have he2:(xa:Int)=(xb:Int):=by omega
            have he3:((xa:Int) == (xb:Int))=true:=by simp [he]
            have HE:Hid (rowR ts q (k+1) C=R):=by show _=_; rw [HX.out,HY.out,if_pos he]
            clear HX HY
            go_wp2_with fail
            go_quiet (fail)
            go_wp2
            refine ⟨⟨k+1,b3,by omega,by simp,rfl,by rw [HE.out]; exact Hb3.out,by rw [HE.out]; exact H3.out.drewN _⟩,?_⟩
            simp [intOf]
            omega
           ·have he2:¬ (xa:Int)=(xb:Int):=by omega
            have he3:((xa:Int) == (xb:Int))=false:=by simp; omega
            cases hsm:sameR ts R.1 t u with
            | false =>
             have HE:Hid (rowR ts q (k+1) C=R):=by show _=_; rw [HX.out,HY.out,if_neg he,hsm]; rfl
             rw [hsm] at HS
             clear HX HY hsm
             go_wp2_with fail
             go_quiet (fail)
             go_wp2_with fail
             go_quiet ((go_at_call 113; exact HS.out _ _))
             go_wp2
             refine ⟨⟨k+1,b3,by omega,by simp,rfl,by rw [HE.out]; exact Hb3.out,by rw [HE.out]; first | exact H3.out.drewN _ | exact (H3.out.drewN _).drewN _⟩,?_⟩
             simp [intOf]
             omega
            | true =>
             have HE:Hid (rowR ts q (k+1) C=(joinC R.1 q k,true)):=by show _=_; rw [HX.out,HY.out,if_neg he,hsm]; rfl
             rw [hsm] at HS
             clear HX HY hsm
             go_wp2_with fail
             go_quiet (fail)
             go_wp2_with fail
             go_quiet ((go_at_call 113; exact HS.out _ _))
             go_wp2_with (go_at_call 112; refine (HJ.out _).mono ?_; rintro e w4 ⟨rfl,h4⟩; have H4:=hide h4; clear h4)
             refine ⟨⟨k+1,true,by omega,by simp,rfl,by rw [HE.out],by rw [HE.out]; exact H4.out⟩,?_⟩
             simp [intOf]
             omega
          ·have hkI:¬ (k:Int) < (q:Int):=by omega
           have hkq2:k=q:=by omega
           have HE:Hid (passR ts (q+1) (c,false)=R):=by
            show rowR ts q q (passR ts q (c,false))=R
            rw [HC.out,<- hR,hkq2]
           have HM4:=HM3
           clear hR hkq2
           go_wp2
           refine ⟨⟨q+1,b3,by omega,by simp,rfl,by rw [HE.out]; exact HM4.out.1,by rw [HE.out]; exact HM4.out.2⟩,?_⟩
           simp [intOf]
           omega
        ·have hqI:¬ (q:Int) < (N:Int):=by omega
         have hqe:q=N:=by omega
         obtain ⟨hb2,h2⟩:=HM.out
         obtain ⟨v,u,cw,hw⟩:=h2.2
         obtain ⟨gv,capv,hv⟩:=slice_len hw.rowL
         have c0:=hw.c0
         rw [hv,HN.out] at c0
         have H2:=hide h2
         have Hb2:=hide hb2
         clear hw hv h2 hb2 HM
         go_wp2
         go_roundg f
         case measure=>omega
         case rel =>
          have hlp:=Hlp.out
          unfold loopR at hlp
          rw [HN.out,<- hqe,HC.out] at hlp
          refine ⟨C.1,H2.out,HCo.out,?_⟩
          cases hbb:b with
          | true =>
           have hc2:C.2=true:=by rw [Hb2.out,hbb]
           rw [if_pos hc2] at hlp
           have hl1:=(HP.out q (c,false)).less1 HO.out rfl (by rw [HC.out]; exact hc2)
           rw [HC.out,HN.out] at hl1
           have hl1:kinds N C.1 < kinds N c:=hl1
           have:=Hkn.out
           exact .inl ⟨rfl,hlp,by omega⟩
          | false =>
           have hc2:¬ C.2=true:=by rw [Hb2.out,hbb]; simp
           rw [if_neg hc2] at hlp
           exact .inr ⟨rfl,hlp⟩
      ·have H3:=hide h3
       clear h3 hO
       go_wp2
       go_ret
       exact ⟨_,rfl,by rw [HDD.out,Hts.out]; exact H3.out⟩
end Go.Proofs.YtmfkpllnmmfpiaaGreatDoor
