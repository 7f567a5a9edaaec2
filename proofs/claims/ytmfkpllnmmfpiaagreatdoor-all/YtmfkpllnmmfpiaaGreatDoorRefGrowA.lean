/- ScanSign, ScanRead, RefIndex, RefWorld, RefJoin, RefGrow -/
import Derived.Test.YtmfkpllnmmfpiaaGreatDoorScanTermA
import Derived.Test.YtmfkpllnmmfpiaaGreatDoorRefLawA
import Derived.Test.YtmfkpllnmmfpiaaGreatDoorPlainA
set_option maxHeartbeats 16000000
set_option maxRecDepth 100000
namespace Go.Proofs.YtmfkpllnmmfpiaaGreatDoor
open Go.RowKit
theorem scanTerm_any:∀ n,1<=n->RTermOK n
 | 0,h=>absurd h (by omega)
 | n+1,_=>scanTerm_step n (scanTerm_any n)
theorem blanksR_again (s:ByteArray) (x:Sc):blanksR s (blanksR s x)=blanksR s x:=by
 unfold blanksR
 simp only
 rw [blank_again]
theorem isR_again (s:ByteArray) (c:Int) (x:Sc):isR s c (blanksR s x)=isR s c x:=by
 unfold isR blanksR
 simp only
 rw [blank_again]
theorem isR_other {s:ByteArray} {c e:Int} {x:Sc} (h:isR s c x=true) (he:c ≠ e):isR s e x=false:=by
 unfold isR at h ⊢
 simp only [Bool.and_eq_true,decide_eq_true_eq] at h
 simp [h.2,he]
theorem scanSign_any (xb:Nat) (s:ByteArray) (x:Sc) (w:World) (h:ScanAt w xb s x) (hs:s.size<=1000) (hp:x.pos<=90000) :
  Calls Tryz.prog 108 #[.pointer (some ⟨xb,0,none⟩)] w fun e w'=>e=.returned (.bool (signR s x).1)/\ScanAt w' xb s (signR s x).2/\Upd [xb] w w':=by
 have HI:=hide (scanIs_z xb s x 61 61 rfl w h hs (by omega))
 have hbp:=blanksR_pos s x
 obtain ⟨y,hy⟩:∃ y,blanksR s x=y:=⟨_,rfl⟩
 have hyy:blanksR s y=y:=by rw [<- hy,blanksR_again]
 have hyi:∀ c,isR s c y=isR s c x:=fun c=>by rw [<- hy,isR_again]
 rw [hy] at hbp
 have HJ:=hide (fun (W:World) (hh:ScanAt W xb s y)=>scanIs_z xb s y 33 33 rfl W hh hs (by omega))
 have Hy:=hide hy
 have Hyy:=hide hyy
 have Hyi:=hide hyi
 have hyp:y.pos<=91000:=by omega
 clear h hyy hyi hy
 cases h61:isR s 61 x
 ·cases h33:isR s 33 x
  ·have HR:Hid (signR s x=(false,noR y)):=by show _=_; unfold signR; rw [h61,h33,Hy.out]; rfl
   go_enter Tryz.func108,Tryz.ntmps108
   go_wp2_with (first
    | (go_at_call_of 134 (Value.int .u8 61); refine HI.out.mono ?_; rintro e w2 ⟨rfl,hs2,hu2⟩; rw [h61]; rw [Hy.out] at hs2; have HS2:=hide hs2; have HU2:=hide hu2; clear hs2 hu2)
    | (go_at_call_of 134 (Value.int .u8 33); refine (HJ.out _ HS2.out).mono ?_; rintro e w3 ⟨rfl,hs3,hu3⟩; rw [Hyi.out,h33]; rw [Hyy.out] at hs3; have HS3:=hide hs3; have HU3:=hide (HU2.out.trans hu3); clear hs3 hu3)
    | (go_at_call 110; refine (scanNo_any xb s y _ HS3.out).mono ?_; rintro e w4 ⟨rfl,hs4,hu4⟩; have HS4:=hide hs4; have HU4:=hide (HU3.out.trans hu4); clear hs4 hu4))
   go_ret
   exact ⟨by rw [HR.out]; rfl,by rw [HR.out]; exact HS4.out,HU4.out⟩
  ·have hlt:=(isR_pos h33).1
   rw [Hy.out] at hlt
   obtain ⟨p,hpE⟩:∃ p,y.pos=p:=⟨_,rfl⟩
   have HpE:=hide hpE
   rw [hpE] at hlt hyp
   have hnp:Hid (y.next.pos=p+1):=by show y.pos+1=_; rw [hpE]
   clear hpE
   obtain ⟨q,hqE⟩:∃ q,p+1=q:=⟨_,rfl⟩
   have HqE:=hide hqE
   have hqb:q<=92000:=by omega
   clear hqE
   by_cases he:q < s.size
   ·have hbt:=byteAt_get s q he
    have hltI:(q:Int) < (s.size:Int):=by omega
    by_cases hb:byteAt s q=61
    ·have HR:Hid (signR s x=(false,y.next.next)):=by
      show _=_
      unfold signR
      rw [h61,h33,Hy.out,if_neg (by decide),if_pos rfl,if_neg (by rw [hnp.out,HqE.out]; simp only [hb]; omega)]
     go_enter Tryz.func108,Tryz.ntmps108
     go_wp2_with (first
      | (go_at_call_of 134 (Value.int .u8 61); refine HI.out.mono ?_; rintro e w2 ⟨rfl,hs2,hu2⟩; rw [h61]; rw [Hy.out] at hs2; have HS2:=hide hs2; have HU2:=hide hu2; clear hs2 hu2)
      | (go_at_call_of 134 (Value.int .u8 33); refine (HJ.out _ HS2.out).mono ?_; rintro e w3 ⟨rfl,hs3,hu3⟩; rw [Hyi.out,h33]; rw [Hyy.out] at hs3; have HS3:=hide hs3; have HU3:=hide (HU2.out.trans hu3); have g0:=hs3.c0; have g1:=hs3.c1; have gf:=hs3.free; rw [HpE.out] at g1; clear hs3 hu3))
     have hS:ScanAt (w3.setCell ⟨xb,1,none⟩ (.int .i64 (p+1))) xb s y.next:=HS3.out.set1 (p:=y.pos+1) (v:=p+1) (by rw [HpE.out]; omega)
     have hU:Upd [xb] w (w3.setCell ⟨xb,1,none⟩ (.int .i64 (p+1))):=HU3.out.setCell (by simp) _
     obtain ⟨W,hW⟩:∃ W,W=w3.setCell ⟨xb,1,none⟩ (.int .i64 (p+1)):=⟨_,rfl⟩
     rw [<- hW] at hS hU
     rw [<- hW]
     have k0:=hS.c0
     have k1:=hS.c1
     have kf:=hS.free
     rw [hnp.out,HqE.out] at k1
     have HSW:=hide hS
     have HUW:=hide hU
     clear hS hU hW g0 g1 gf HS3 HU3 HS2 HU2
     have hb':(byteAt s q != 61)=false:=by simp [hb]
     have hge:decide ((s.size:Int)<=(q:Int))=false:=by simp; omega
     have hge':¬ (s.size:Int)<=(q:Int):=by omega
     go_quiet (fail)
     go_wp2
     go_ret
     exact ⟨by rw [HR.out]; rfl,by rw [HR.out]; exact (HSW.out.drewN _).set1 (p:=y.next.pos+1) (by rw [hnp.out,HqE.out]; omega),(HUW.out.drewN _).setCell (by simp) _⟩
    ·have HR:Hid (signR s x=(false,(noR y.next).next)):=by
      show _=_
      unfold signR
      rw [h61,h33,Hy.out,if_neg (by decide),if_pos rfl,if_pos (by rw [hnp.out,HqE.out]; exact .inr hb)]
     go_enter Tryz.func108,Tryz.ntmps108
     go_wp2_with (first
      | (go_at_call_of 134 (Value.int .u8 61); refine HI.out.mono ?_; rintro e w2 ⟨rfl,hs2,hu2⟩; rw [h61]; rw [Hy.out] at hs2; have HS2:=hide hs2; have HU2:=hide hu2; clear hs2 hu2)
      | (go_at_call_of 134 (Value.int .u8 33); refine (HJ.out _ HS2.out).mono ?_; rintro e w3 ⟨rfl,hs3,hu3⟩; rw [Hyi.out,h33]; rw [Hyy.out] at hs3; have HS3:=hide hs3; have HU3:=hide (HU2.out.trans hu3); have g0:=hs3.c0; have g1:=hs3.c1; have gf:=hs3.free; rw [HpE.out] at g1; clear hs3 hu3))
     have hS:ScanAt (w3.setCell ⟨xb,1,none⟩ (.int .i64 (p+1))) xb s y.next:=HS3.out.set1 (p:=y.pos+1) (v:=p+1) (by rw [HpE.out]; omega)
     have hU:Upd [xb] w (w3.setCell ⟨xb,1,none⟩ (.int .i64 (p+1))):=HU3.out.setCell (by simp) _
     obtain ⟨W,hW⟩:∃ W,W=w3.setCell ⟨xb,1,none⟩ (.int .i64 (p+1)):=⟨_,rfl⟩
     rw [<- hW] at hS hU
     rw [<- hW]
     have k0:=hS.c0
     have k1:=hS.c1
     have kf:=hS.free
     rw [hnp.out,HqE.out] at k1
     have HSW:=hide hS
     have HUW:=hide hU
     clear hS hU hW g0 g1 gf HS3 HU3 HS2 HU2
     have hb':(byteAt s q != 61)=true:=by simp [hb]
     have hge:decide ((s.size:Int)<=(q:Int))=false:=by simp; omega
     have hge':¬ (s.size:Int)<=(q:Int):=by omega
     go_quiet (fail)
     go_wp2_with (go_at_call 110; refine (scanNo_any xb s y.next _ (HSW.out.drewN _)).mono ?_; rintro e w5 ⟨rfl,hs5,hu5⟩; have g51:=hs5.c1; have gf5:=hs5.free; rw [noR_pos,hnp.out,HqE.out] at g51; have HS5:=hide hs5; have HU5:=hide ((HUW.out.drewN _).trans hu5); clear hs5 hu5)
     go_ret
     exact ⟨by rw [HR.out]; rfl,by rw [HR.out]; exact HS5.out.set1 (p:=(noR y.next).pos+1) (by rw [noR_pos,hnp.out,HqE.out]; omega),HU5.out.setCell (by simp) _⟩
   ·have HR:Hid (signR s x=(false,(noR y.next).next)):=by
     show _=_
     unfold signR
     rw [h61,h33,Hy.out,if_neg (by decide),if_pos rfl,if_pos (by rw [hnp.out,HqE.out]; exact .inl (by omega))]
    go_enter Tryz.func108,Tryz.ntmps108
    go_wp2_with (first
     | (go_at_call_of 134 (Value.int .u8 61); refine HI.out.mono ?_; rintro e w2 ⟨rfl,hs2,hu2⟩; rw [h61]; rw [Hy.out] at hs2; have HS2:=hide hs2; have HU2:=hide hu2; clear hs2 hu2)
     | (go_at_call_of 134 (Value.int .u8 33); refine (HJ.out _ HS2.out).mono ?_; rintro e w3 ⟨rfl,hs3,hu3⟩; rw [Hyi.out,h33]; rw [Hyy.out] at hs3; have HS3:=hide hs3; have HU3:=hide (HU2.out.trans hu3); have g0:=hs3.c0; have g1:=hs3.c1; have gf:=hs3.free; rw [HpE.out] at g1; clear hs3 hu3))
    have hS:ScanAt (w3.setCell ⟨xb,1,none⟩ (.int .i64 (p+1))) xb s y.next:=HS3.out.set1 (p:=y.pos+1) (v:=p+1) (by rw [HpE.out]; omega)
    have hU:Upd [xb] w (w3.setCell ⟨xb,1,none⟩ (.int .i64 (p+1))):=HU3.out.setCell (by simp) _
    obtain ⟨W,hW⟩:∃ W,W=w3.setCell ⟨xb,1,none⟩ (.int .i64 (p+1)):=⟨_,rfl⟩
    rw [<- hW] at hS hU
    rw [<- hW]
    have k0:=hS.c0
    have k1:=hS.c1
    have kf:=hS.free
    rw [hnp.out,HqE.out] at k1
    have HSW:=hide hS
    have HUW:=hide hU
    clear hS hU hW g0 g1 gf HS3 HU3 HS2 HU2
    have hge:decide ((s.size:Int)<=(q:Int))=true:=by simp; omega
    have hge':(s.size:Int)<=(q:Int):=by omega
    go_quiet (fail)
    go_wp2_with (go_at_call 110; refine (scanNo_any xb s y.next _ (HSW.out.drewN _)).mono ?_; rintro e w5 ⟨rfl,hs5,hu5⟩; have g51:=hs5.c1; have gf5:=hs5.free; rw [noR_pos,hnp.out,HqE.out] at g51; have HS5:=hide hs5; have HU5:=hide ((HUW.out.drewN _).trans hu5); clear hs5 hu5)
    go_ret
    exact ⟨by rw [HR.out]; rfl,by rw [HR.out]; exact HS5.out.set1 (p:=(noR y.next).pos+1) (by rw [noR_pos,hnp.out,HqE.out]; omega),HU5.out.setCell (by simp) _⟩
 ·have h33:=isR_other (e:=33) h61 (by decide)
  have HR:Hid (signR s x=(true,y.next)):=by show _=_; unfold signR; rw [h61,Hy.out]; rfl
  obtain ⟨p,hpE⟩:∃ p,y.pos=p:=⟨_,rfl⟩
  have HpE:=hide hpE
  rw [hpE] at hyp
  clear hpE
  go_enter Tryz.func108,Tryz.ntmps108
  go_wp2_with (first
   | (go_at_call_of 134 (Value.int .u8 61); refine HI.out.mono ?_; rintro e w2 ⟨rfl,hs2,hu2⟩; rw [h61]; rw [Hy.out] at hs2; have HS2:=hide hs2; have HU2:=hide hu2; clear hs2 hu2)
   | (go_at_call_of 134 (Value.int .u8 33); refine (HJ.out _ HS2.out).mono ?_; rintro e w3 ⟨rfl,hs3,hu3⟩; rw [Hyi.out,h33]; rw [Hyy.out] at hs3; have HS3:=hide hs3; have HU3:=hide (HU2.out.trans hu3); have g0:=hs3.c0; have g1:=hs3.c1; have gf:=hs3.free; rw [HpE.out] at g1; clear hs3 hu3))
  go_quiet (fail)
  go_wp2
  go_ret
  have hS:=(HS3.out.set1 (p:=y.pos+1) (v:=p+1) (by rw [HpE.out]; omega)).drewN nq
  exact ⟨by rw [HR.out]; rfl,by rw [HR.out]; exact hS,(HU3.out.setCell (by simp) _).drewN nq⟩
theorem signR_pos (s:ByteArray) (x:Sc):x.pos<=(signR s x).2.pos/\(signR s x).2.pos<=max x.pos s.size+2:=by
 have h:=blanksR_pos s x
 unfold signR
 split
 ·show _<=(blanksR s x).pos+1/\(blanksR s x).pos+1<=_
  omega
 ·split
  ·have e:∀ (c:Prop) [Decidable c] (z:Sc),(if c then noR z else z).next.pos=z.pos+1:=fun c _ z=>by
    split
    ·show (noR z).pos+1=_
     rw [noR_pos]
    ·rfl
   dsimp only
   have e2:=e (s.size<=(blanksR s x).next.pos\/byteAt s (blanksR s x).next.pos ≠ 61) (blanksR s x).next
   have e3:(blanksR s x).next.pos=(blanksR s x).pos+1:=rfl
   omega
  ·rw [noR_pos]
   omega
structure IsRS (w:World) (Z:Nat->Prop) (x:ST) (b:Nat):Prop where
 lt:b < w.heap.size
 inZ:Z b
 eq:w.cell? ⟨b,0,none⟩=some (.bool x.eq)
 sides:∃ lb rb,w.cell? ⟨b,1,none⟩=some (.pointer (some ⟨lb,0,none⟩))/\w.cell? ⟨b,2,none⟩=some (.pointer (some ⟨rb,0,none⟩))/\IsRT w Z x.l lb/\IsRT w Z x.r rb
theorem IsRS.later {w w':World} {L:List Nat} {Z:Nat->Prop} {x:ST} {b:Nat} (h:IsRS w Z x b) (hu:Upd L w w') (hL:∀ k,Z k->k ∉ L):IsRS w' Z x b:=by
 obtain ⟨lb,rb,h1,h2,h3,h4⟩:=h.sides
 exact ⟨Nat.lt_of_lt_of_le h.lt hu.size,h.inZ,(hu.cell h.lt (hL _ h.inZ)).trans h.eq,lb,rb,(hu.cell h.lt (hL _ h.inZ)).trans h1,(hu.cell h.lt (hL _ h.inZ)).trans h2,h3.later hu hL,h4.later hu hL⟩
theorem IsRS.mono {w:World} {Z Z':Nat->Prop} {x:ST} {b:Nat} (h:IsRS w Z x b) (hm:∀ k,Z k->k < w.heap.size->Z' k):IsRS w Z' x b:=by
 obtain ⟨lb,rb,h1,h2,h3,h4⟩:=h.sides
 exact ⟨h.lt,hm _ h.inZ h.lt,h.eq,lb,rb,h1,h2,h3.mono hm,h4.mono hm⟩
structure RSt (w wr:World) (xb yb:Nat) (s:ByteArray) (x:Sc) (e:Bool) (L R:Value):Prop where
 scan:ScanAt wr xb s x
 xge:w.heap.size<=xb
 xy:xb < yb
 lt:yb < wr.heap.size
 free:∀ o,wr.frozen? ⟨yb,o,none⟩=false
 c0:wr.cell? ⟨yb,0,none⟩=some (.bool e)
 c1:wr.cell? ⟨yb,1,none⟩=some L
 c2:wr.cell? ⟨yb,2,none⟩=some R
 upd:Upd [] w wr
section
variable {w wr w2:World} {xb yb:Nat} {s:ByteArray} {x x2:Sc} {e:Bool} {L R:Value}
theorem RSt.scanned (h:RSt w wr xb yb s x e L R) (hs:ScanAt w2 xb s x2) (hu:Upd [xb] wr w2):RSt w w2 xb yb s x2 e L R:=by
 have h1:=h.xge
 have h2:=h.xy
 have hn:yb ∉ [xb]:=by simp; omega
 exact ⟨hs,h1,h2,Nat.lt_of_lt_of_le h.lt hu.size,fun o=>(hu.frozen (p:=⟨yb,o,none⟩) h.lt hn).trans (h.free o),(hu.cell h.lt hn).trans h.c0,(hu.cell h.lt hn).trans h.c1,(hu.cell h.lt hn).trans h.c2,h.upd.trans' hu (fun k hk hl=>by simp at hk; omega)⟩
theorem RSt.set0 (h:RSt w wr xb yb s x e L R) (b:Bool):RSt w (wr.setCell ⟨yb,0,none⟩ (.bool b)) xb yb s x b L R:=by
 have h1:=h.xge
 have h2:=h.xy
 have h0:=h.lt
 have hu:Upd [yb] wr (wr.setCell ⟨yb,0,none⟩ (.bool b)):=(Upd.refl [yb] wr).setCell (by simp) _
 have g0:=h.c0
 have g1:=h.c1
 have g2:=h.c2
 have gf:=h.free
 exact ⟨h.scan.later hu (by simp; omega),h1,h2,by simpa using h0,fun o=>by simpa using gf o,by go_simp,by go_simp,by go_simp,h.upd.setCell (.inr (by show _<=yb; omega)) _⟩
theorem RSt.set1 (h:RSt w wr xb yb s x e L R) (v:Value):RSt w (wr.setCell ⟨yb,1,none⟩ v) xb yb s x e v R:=by
 have h1:=h.xge
 have h2:=h.xy
 have h0:=h.lt
 have hu:Upd [yb] wr (wr.setCell ⟨yb,1,none⟩ v):=(Upd.refl [yb] wr).setCell (by simp) _
 have g0:=h.c0
 have g1:=h.c1
 have g2:=h.c2
 have gf:=h.free
 exact ⟨h.scan.later hu (by simp; omega),h1,h2,by simpa using h0,fun o=>by simpa using gf o,by go_simp,by go_simp,by go_simp,h.upd.setCell (.inr (by show _<=yb; omega)) _⟩
theorem RSt.set2 (h:RSt w wr xb yb s x e L R) (v:Value):RSt w (wr.setCell ⟨yb,2,none⟩ v) xb yb s x e L v:=by
 have h1:=h.xge
 have h2:=h.xy
 have h0:=h.lt
 have hu:Upd [yb] wr (wr.setCell ⟨yb,2,none⟩ v):=(Upd.refl [yb] wr).setCell (by simp) _
 have g0:=h.c0
 have g1:=h.c1
 have g2:=h.c2
 have gf:=h.free
 exact ⟨h.scan.later hu (by simp; omega),h1,h2,by simpa using h0,fun o=>by simpa using gf o,by go_simp,by go_simp,by go_simp,h.upd.setCell (.inr (by show _<=yb; omega)) _⟩
end
theorem RSt.begin_ (w:World) (s:ByteArray):RSt w ((w.alloc (.cells #[.string s,.int .i64 0,.int .i64 (-1),.int .i64 (-1)] 181)).alloc (.cells #[.bool false,.pointer none,.pointer none] 174)) w.heap.size (w.heap.size+1) s ⟨0,-1,-1⟩ false (.pointer none) (.pointer none):=by
 refine ⟨⟨by simp; omega,by go_simp,by go_simp,by go_simp,by go_simp,fun o=>by go_simp⟩,Nat.le_refl _,by omega,by simp,fun o=>by go_simp,by go_simp,by go_simp,by go_simp,((Upd.refl [] w).alloc _).alloc _⟩
def RefReadDone (w:World) (s:ByteArray) (e:Ending) (w':World):Prop :=
 Upd [] w w'/\match refRead s with
  | (none,k,p)=>e=.returned (.tuple #[.pointer none,.int .i64 k,.int .i64 p])
  | (some x,_,_)=>∃ yb,e=.returned (.tuple #[.pointer (some ⟨yb,0,none⟩),.int .i64 0,.int .i64 0])/\IsRS w' (fun k=>w.heap.size<=k/\k < w'.heap.size) x yb
theorem refRead_any (s:ByteArray) (w:World):Calls Tryz.prog 75 #[.string s] w (RefReadDone w s):=by
 by_cases hs:s.size<=200
 ·obtain ⟨l,hl⟩:∃ l,(termR s (s.size+1) 0 ⟨0,-1,-1⟩).1=l:=⟨_,rfl⟩
  obtain ⟨x1,hx1⟩:∃ x1,(termR s (s.size+1) 0 ⟨0,-1,-1⟩).2=x1:=⟨_,rfl⟩
  obtain ⟨eq,heq⟩:∃ eq,(signR s x1).1=eq:=⟨_,rfl⟩
  obtain ⟨x2,hx2⟩:∃ x2,(signR s x1).2=x2:=⟨_,rfl⟩
  obtain ⟨r,hr⟩:∃ r,(termR s (s.size+1) 0 x2).1=r:=⟨_,rfl⟩
  obtain ⟨x3,hx3⟩:∃ x3,(termR s (s.size+1) 0 x2).2=x3:=⟨_,rfl⟩
  obtain ⟨x4,hx4⟩:∃ x4,blanksR s x3=x4:=⟨_,rfl⟩
  have HX:Hid (scanR s=⟨l,eq,r,if x4.bad < 0/\x4.pos < s.size then noR x4 else x4⟩):=by
   show _=_
   unfold scanR
   simp only [hl,hx1,heq,hx2,hr,hx3,hx4]
  have p1:=(term_pos s (s.size+1) 0 ⟨0,-1,-1⟩).far
  have p2:=(signR_pos s x1).2
  have p3:=(term_pos s (s.size+1) 0 x2).far
  have p4:=(blanksR_pos s x3).2
  rw [hx1] at p1
  rw [hx2] at p2
  rw [hx3] at p3
  rw [hx4] at p4
  simp only at p1
  have b1:x1.pos<=1000:=by omega
  have b2:x2.pos<=1000:=by omega
  have b3:x3.pos<=2000:=by omega
  have b4:x4.pos<=2000:=by omega
  have HT:Hid (∀ xb x W,x.pos<=1000->ScanAt W xb s x->_):=fun xb x W hx hh=>scanTerm_any (s.size+1) (by omega) s xb 0 x 0 W (by omega) rfl (by omega) (by omega) (by omega) hh
  have HSg:Hid (∀ xb W,ScanAt W xb s x1->_):=fun xb W hh=>scanSign_any xb s x1 W hh (by omega) (by omega)
  have HBl:Hid (∀ xb W,ScanAt W xb s x3->_):=fun xb W hh=>blanks_any xb s x3 W hh (by omega) (by omega)
  have H0:=hide (RSt.begin_ w s)
  have Hl:=hide hl
  have Hx1:=hide hx1
  have Heq:=hide heq
  have Hx2:=hide hx2
  have Hr:=hide hr
  have Hx3:=hide hx3
  have Hx4:=hide hx4
  clear hl hx1 heq hx2 hr hx3 hx4 p1 p2 p3 p4
  have hsI:¬ (200:Int) < (s.size:Int):=by omega
  go_enter Tryz.func75,Tryz.ntmps75
  go_upto_region 5 with fail
  have h0:=H0.out
  obtain ⟨W0,hW0⟩:∃ W,W=(w.alloc (.cells #[.string s,.int .i64 0,.int .i64 (-1),.int .i64 (-1)] 181)).alloc (.cells #[.bool false,.pointer none,.pointer none] 174):=⟨_,rfl⟩
  rw [<- hW0] at h0
  rw [<- hW0]
  obtain ⟨yb,hyb⟩:∃ yb,yb=w.heap.size+1:=⟨_,rfl⟩
  rw [<- hyb] at h0
  rw [<- hyb]
  obtain ⟨xb,hxb⟩:∃ xb,xb=w.heap.size:=⟨_,rfl⟩
  rw [<- hxb] at h0
  rw [<- hxb]
  have HS0:=hide h0
  clear h0 H0 hW0 hyb hxb hsI
  go_upto_region 6 with ((go_at_call 107; refine (HT.out xb ⟨0,-1,-1⟩ _ (by simp) HS0.out.scan).mono ?_; rintro e wa ⟨lb,rfl,hra,hsa,hua⟩; rw [Hl.out] at hra; rw [Hx1.out] at hsa; have HSa:=hide (HS0.out.scanned hsa hua); have HRa:=hide hra; have qa:=HSa.out.c1; have qf:=HSa.out.free; have qs:=hua.size; clear hra hsa hua))
  have h1:=HSa.out.set1 (.pointer (some ⟨lb,0,none⟩))
  have r1:=HRa.out.later ((Upd.refl [yb] wa).setCell (p:=⟨yb,1,none⟩) (by simp) (.pointer (some ⟨lb,0,none⟩))) (fun k hk hm=>by have:=HS0.out.lt; simp at hm; omega)
  have r1:=r1.mono (Z':=fun k=>yb < k) (fun k hk _=>by have:=HS0.out.lt; omega)
  obtain ⟨W1,hW1⟩:∃ W,W=wa.setCell ⟨yb,1,none⟩ (.pointer (some ⟨lb,0,none⟩)):=⟨_,rfl⟩
  rw [<- hW1] at h1 r1
  rw [<- hW1]
  have HS1:=hide h1
  have HR1:=hide r1
  clear h1 r1 hW1 HSa HRa qa qf qs HS0
  go_upto_region 7 with ((go_at_call 108; refine (HSg.out xb _ HS1.out.scan).mono ?_; rintro e wb ⟨rfl,hsb,hub⟩; rw [Hx2.out] at hsb; rw [Heq.out]; have HSb:=hide (HS1.out.scanned hsb hub); have HRb:=hide (HR1.out.later hub (fun k hk hm=>by have:=HS1.out.xy; simp at hm; omega)); have qa:=HSb.out.c0; have qf:=HSb.out.free; clear hsb hub))
  have h2:=HSb.out.set0 eq
  have r2:=HRb.out.later ((Upd.refl [yb] wb).setCell (p:=⟨yb,0,none⟩) (by simp) (.bool eq)) (fun k hk hm=>by simp at hm; omega)
  obtain ⟨W2,hW2⟩:∃ W,W=wb.setCell ⟨yb,0,none⟩ (.bool eq):=⟨_,rfl⟩
  rw [<- hW2] at h2 r2
  rw [<- hW2]
  have HS2:=hide h2
  have HR2:=hide r2
  clear h2 r2 hW2 HSb HRb qa qf HS1 HR1
  go_upto_region 8 with ((go_at_call 107; refine (HT.out xb x2 _ b2 HS2.out.scan).mono ?_; rintro e wc ⟨rb,rfl,hrc,hsc,huc⟩; rw [Hr.out] at hrc; rw [Hx3.out] at hsc; have HSc:=hide (HS2.out.scanned hsc huc); have HRc:=hide hrc; have HLc:=hide (HR2.out.later huc (fun k hk hm=>by have:=HS2.out.xy; simp at hm; omega)); have qa:=HSc.out.c2; have qf:=HSc.out.free; clear hrc hsc huc))
  have h3:=HSc.out.set2 (.pointer (some ⟨rb,0,none⟩))
  have l3:=HLc.out.later ((Upd.refl [yb] wc).setCell (p:=⟨yb,2,none⟩) (by simp) (.pointer (some ⟨rb,0,none⟩))) (fun k hk hm=>by simp at hm; omega)
  have r3:=HRc.out.later ((Upd.refl [yb] wc).setCell (p:=⟨yb,2,none⟩) (by simp) (.pointer (some ⟨rb,0,none⟩))) (fun k hk hm=>by have:=HS2.out.lt; simp at hm; omega)
  have r3:=r3.mono (Z':=fun k=>yb < k) (fun k hk _=>by have:=HS2.out.lt; omega)
  obtain ⟨W3,hW3⟩:∃ W,W=wc.setCell ⟨yb,2,none⟩ (.pointer (some ⟨rb,0,none⟩)):=⟨_,rfl⟩
  rw [<- hW3] at h3 l3 r3
  rw [<- hW3]
  have HS3:=hide h3
  have HL3:=hide l3
  have HR3:=hide r3
  clear h3 l3 r3 hW3 HSc HRc HLc qa qf HS2 HR2
  by_cases hb:x4.bad < 0
  ·by_cases hl4:x4.pos < s.size
   ·have HN:Hid ((noR x4).bad=x4.pos):=by show _=_; unfold noR; rw [if_pos hb]
    have HF:Hid (refRead s=(none,2,(x4.pos:Int))):=by
     show _=_
     have hx:=HX.out
     rw [if_pos ⟨hb,hl4⟩] at hx
     unfold refRead
     rw [hx]
     dsimp only
     rw [HN.out,if_neg (show ¬ 200 < s.size by omega),if_pos (show (0:Int)<=(x4.pos:Int) by omega)]
    have hl4I:(x4.pos:Int) < (s.size:Int):=by omega
    have hge:(0:Int)<=(x4.pos:Int):=by omega
    go_wp2_with (first
     | (go_at_call 109; refine (HBl.out xb _ HS3.out.scan).mono ?_; rintro e w4 ⟨rfl,hs4,hu4⟩; rw [Hx4.out] at hs4; have HS4:=hide (HS3.out.scanned hs4 hu4); have HU4:=hide hu4; have g1:=hs4.c1; have g2:=hs4.c2; have g3:=hs4.c3; clear hs4 hu4)
     | (go_at_call 110; refine (scanNo_any xb s x4 _ HS4.out.scan).mono ?_; rintro e w5 ⟨rfl,hs5,hu5⟩; have HS5:=hide (HS4.out.scanned hs5 hu5); have k2:=hs5.c2; rw [HN.out] at k2; clear hs5 hu5 g1 g2 g3))
    go_quiet (fail)
    go_wp2
    go_ret3
    exact ⟨HS5.out.upd.drewN _,by rw [HF.out]; rfl⟩
   ·have hl4I:¬ (x4.pos:Int) < (s.size:Int):=by omega
    by_cases ho:x4.out < 0
    ·have HF:Hid (refRead s=(some ⟨eq,l,r⟩,0,0)):=by
      show _=_
      have hx:=HX.out
      rw [if_neg (fun h=>hl4 h.2)] at hx
      unfold refRead
      rw [hx]
      dsimp only
      rw [if_neg (show ¬ 200 < s.size by omega),if_neg (show ¬ 0<=x4.bad by omega),if_neg (show ¬ 0<=x4.out by omega)]
     go_wp2_with (go_at_call 109; refine (HBl.out xb _ HS3.out.scan).mono ?_; rintro e w4 ⟨rfl,hs4,hu4⟩; rw [Hx4.out] at hs4; have HS4:=hide (HS3.out.scanned hs4 hu4); have HU4:=hide hu4; have g1:=hs4.c1; have g2:=hs4.c2; have g3:=hs4.c3; clear hs4 hu4)
     go_ret3
     have hS:=HS4.out
     have h1:=hS.xge
     have h2:=hS.xy
     have tl:=HL3.out.later HU4.out (fun k hk hm=>by simp at hm; omega)
     have tr:=HR3.out.later HU4.out (fun k hk hm=>by simp at hm; omega)
     exact ⟨hS.upd,by rw [HF.out]; exact ⟨yb,rfl,hS.lt,⟨by omega,hS.lt⟩,hS.c0,lb,rb,hS.c1,hS.c2,tl.mono (fun k hk hl=>⟨by omega,hl⟩),tr.mono (fun k hk hl=>⟨by omega,hl⟩)⟩⟩
    ·have HF:Hid (refRead s=(none,3,x4.out)):=by
      show _=_
      have hx:=HX.out
      rw [if_neg (fun h=>hl4 h.2)] at hx
      unfold refRead
      rw [hx]
      dsimp only
      rw [if_neg (show ¬ 200 < s.size by omega),if_neg (show ¬ 0<=x4.bad by omega),if_pos (show 0<=x4.out by omega)]
     have ho':(0:Int)<=x4.out:=by omega
     go_wp2_with (go_at_call 109; refine (HBl.out xb _ HS3.out.scan).mono ?_; rintro e w4 ⟨rfl,hs4,hu4⟩; rw [Hx4.out] at hs4; have HS4:=hide (HS3.out.scanned hs4 hu4); have HU4:=hide hu4; have g1:=hs4.c1; have g2:=hs4.c2; have g3:=hs4.c3; clear hs4 hu4)
     go_quiet (fail)
     go_wp2
     go_ret3
     exact ⟨HS4.out.upd.drewN _,by rw [HF.out]; rfl⟩
  ·have HF:Hid (refRead s=(none,2,x4.bad)):=by
    show _=_
    have hx:=HX.out
    rw [if_neg (fun h=>hb h.1)] at hx
    unfold refRead
    rw [hx]
    dsimp only
    rw [if_neg (show ¬ 200 < s.size by omega),if_pos (show 0<=x4.bad by omega)]
   have hb':(0:Int)<=x4.bad:=by omega
   go_wp2_with (go_at_call 109; refine (HBl.out xb _ HS3.out.scan).mono ?_; rintro e w4 ⟨rfl,hs4,hu4⟩; rw [Hx4.out] at hs4; have HS4:=hide (HS3.out.scanned hs4 hu4); have HU4:=hide hu4; have g1:=hs4.c1; have g2:=hs4.c2; have g3:=hs4.c3; clear hs4 hu4)
   go_quiet (fail)
   go_wp2
   go_ret3
   exact ⟨HS4.out.upd.drewN _,by rw [HF.out]; rfl⟩
 ·have HR:Hid (refRead s=(none,1,0)):=by show _=_; unfold refRead; rw [if_pos (by omega)]
  have hsI:(200:Int) < (s.size:Int):=by omega
  go_enter Tryz.func75,Tryz.ntmps75
  go_wp2
  go_ret3
  exact ⟨Upd.refl _ _,by rw [HR.out]; rfl⟩
theorem toList_inj {a b:ByteArray} (h:a.toList=b.toList):a=b:=by
 apply ByteArray.ext
 apply Array.ext'
 simpa [ByteArray.toList_eq] using h
def idxI (x:ByteArray) (l:List Trm):Int:=match idxT x l with | some i=>(i:Int) | none=>-1
theorem idxT_first {x:ByteArray}:∀ {l:List Trm} {j:Nat} {t:Trm},l[j]?=some t->t.text=x->(∀ (i:Nat) (u:Trm),i < j->l[i]?=some u->u.text ≠ x)->idxT x l=some j
 | [],j,t,h,_,_=>by simp at h
 | a :: l,0,t,h,ht,_=>by
  simp at h
  subst h
  unfold idxT
  rw [if_pos ht]
 | a :: l,j+1,t,h,ht,hn=>by
  have h0:=hn 0 a (by omega) (by simp)
  unfold idxT
  rw [if_neg h0,idxT_first (l:=l) (j:=j) (by simpa using h) ht (fun i u hi hu=>hn (i+1) u (by omega) (by simpa using hu))]
  rfl
theorem idxT_nowhere {x:ByteArray}:∀ {l:List Trm},(∀ (i:Nat) (u:Trm),l[i]?=some u->u.text ≠ x)->idxT x l=none
 | [],_=>rfl
 | a :: l,hn=>by
  unfold idxT
  rw [if_neg (hn 0 a (by simp)),idxT_nowhere (l:=l) (fun i u hu=>hn (i+1) u (by simpa using hu))]
  rfl
structure RLAt (w:World) (wb:Nat) (Z:Nat->Prop) (l:List Trm) (v:Value) (cs:List Nat):Prop where
 lt:wb < w.heap.size
 c0:w.cell? ⟨wb,0,none⟩=some v
 row:w.ownsRow 0 170 1 v l.length (ptrs cs)
 len:cs.length=l.length
 kids:∀ (i c:Nat) (t:Trm),cs[i]?=some c->l[i]?=some t->IsRT w Z t c
theorem refIndex_any (w:World) (wb:Nat) (Z:Nat->Prop) (l:List Trm) (v:Value) (cs:List Nat) (x:ByteArray) (h:RLAt w wb Z l v cs) (hl:l.length<=100000) :
  Calls Tryz.prog 103 #[.pointer (some ⟨wb,0,none⟩),.string x] w fun e w'=>e=.returned (.int .i64 (idxI x l))/\w'=w:=by
 have c0:=h.c0
 rcases ownsRow_slice h.row with ⟨hv,hn⟩ | ⟨g,cap,hv,hc1,hc2⟩
 ·have HI:Hid (idxI x l=-1):=by
   show _=_
   obtain rfl:l=[]:=List.length_eq_zero_iff.1 hn
   rfl
  rw [hv] at c0
  clear h hv
  go_enter Tryz.func103,Tryz.ntmps103
  go_wp2
  go_loopw [5] (fun i wr=>i=.int .i64 0/\wr=w) (fun _ _=>0)
  case atStart=>exact ⟨rfl,rfl⟩
  case round =>
   obtain ⟨rfl,rfl⟩:=hrel
   go_wp2
   go_ret
   exact ⟨by rw [HI.out]; rfl,rfl⟩
 ·have Hrow:=hide h.row
  have Hv:=hide hv
  have Hlen:=hide h.len
  have Hk:=hide h.kids
  obtain ⟨n,hn⟩:∃ n,l.length=n:=⟨_,rfl⟩
  have Hn:=hide hn
  rw [hv,hn] at c0
  rw [hn] at hl hc1
  unfold maxLen at hc2
  clear h hv hn
  go_enter Tryz.func103,Tryz.ntmps103
  go_wp2
  go_loopw [5] (fun i wr=>∃ j:Nat,j<=n/\i=.int .i64 j/\wr=w/\Hid (∀ (i:Nat) (u:Trm),i < j->l[i]?=some u->u.text ≠ x)) (fun i _=>n - (intOf i).toNat)
  case atStart=>exact ⟨0,Nat.zero_le _,rfl,rfl,fun i u hi=>by omega⟩
  case round =>
   obtain ⟨j,hj,rfl,rfl,HJ⟩:=hrel
   by_cases hjn:j < n
   ·have hjI:(j:Int) < (n:Int):=by omega
    have hjc:(j:Int) < (cap:Int):=by omega
    obtain ⟨t,ht⟩:∃ t,l[j]?=some t:=⟨_,List.getElem?_eq_getElem (by rw [Hn.out]; exact hjn)⟩
    obtain ⟨c,hc⟩:∃ c,cs[j]?=some c:=⟨_,List.getElem?_eq_getElem (by rw [Hlen.out,Hn.out]; exact hjn)⟩
    have hrow:=Hrow.out
    rw [Hv.out] at hrow
    have q0:=(hrow.cellAt j (by rw [Hn.out]; omega))
    have q1:wr.cell? ⟨g,j,none⟩=some (.pointer (some ⟨c,0,none⟩)):=by
     rw [q0]
     simp [ptrs,hc]
    have q2:=(Hk.out j c t hc ht).text
    have Ht:=hide ht
    clear hrow q0 hc ht
    by_cases he:t.text=x
    ·have HI:Hid (idxI x l=j):=by show _=_; unfold idxI; rw [idxT_first Ht.out he HJ.out]
     go_wp2
     go_ret
     exact ⟨by rw [HI.out]; rfl,rfl⟩
    ·have he':(t.text.toList == x.toList)=false:=by
      cases hb:(t.text.toList == x.toList)
      ·rfl
      ·exact absurd (toList_inj (eq_of_beq hb)) he
     have HN:Hid (∀ (i:Nat) (u:Trm),i < j+1->l[i]?=some u->u.text ≠ x):=fun i u hi hu=>by
      by_cases hij:i < j
      ·exact HJ.out i u hij hu
      ·obtain rfl:i=j:=by omega
       rw [Ht.out] at hu
       obtain rfl:=Option.some.inj hu
       exact he
     go_wp2
     refine ⟨⟨j+1,by omega,by simp,trivial,HN⟩,?_⟩
     simp [intOf]
     omega
   ·have hjI:¬ (j:Int) < (n:Int):=by omega
    have HI:Hid (idxI x l=-1):=by
     show _=_
     unfold idxI
     rw [idxT_nowhere (fun i u hu=>HJ.out i u (by have:=(List.getElem?_eq_some_iff.1 hu).1; rw [Hn.out] at this; omega) hu)]
    go_wp2
    go_ret
    exact ⟨by rw [HI.out]; rfl,rfl⟩
structure RWAt (w:World) (wb:Nat) (Z:Nat->Prop) (l:List Trm) (cl:List Nat) (v u:Value) (cs:List Nat):Prop where
 lt:wb < w.heap.size
 free:∀ o,w.frozen? ⟨wb,o,none⟩=false
 c0:w.cell? ⟨wb,0,none⟩=some v
 c1:w.cell? ⟨wb,1,none⟩=some u
 rowL:w.ownsRow 0 170 1 v l.length (ptrs cs)
 rowC:w.ownsRow 0 3 1 u cl.length (intsOf cl)
 len:cs.length=l.length
 kids:∀ (i c:Nat) (t:Trm),cs[i]?=some c->l[i]?=some t->IsRT w Z t c
 notZ:¬ Z wb
 notZv:∀ k,v.ownBlock=some k->¬ Z k/\k ≠ wb/\u.ownBlock ≠ some k
 notZu:∀ k,u.ownBlock=some k->¬ Z k/\k ≠ wb
theorem RWAt.terms {w:World} {wb:Nat} {Z:Nat->Prop} {l:List Trm} {cl:List Nat} {v u:Value} {cs:List Nat} (h:RWAt w wb Z l cl v u cs):RLAt w wb Z l v cs:=⟨h.lt,h.c0,h.rowL,h.len,h.kids⟩
theorem RWAt.later {w w':World} {L:List Nat} {wb:Nat} {Z:Nat->Prop} {l:List Trm} {cl:List Nat} {v u:Value} {cs:List Nat} (h:RWAt w wb Z l cl v u cs) (hu:Upd L w w') (hZ:∀ k,Z k->k ∉ L) (hw:wb ∉ L) (hv:∀ k,v.ownBlock=some k->k ∉ L) (hc:∀ k,u.ownBlock=some k->k ∉ L):RWAt w' wb Z l cl v u cs :=
 ⟨Nat.lt_of_lt_of_le h.lt hu.size,fun o=>(hu.frozen (p:=⟨wb,o,none⟩) h.lt hw).trans (h.free o),(hu.cell h.lt hw).trans h.c0,(hu.cell h.lt hw).trans h.c1,hu.ownsRow h.rowL hv,hu.ownsRow h.rowC hc,h.len,fun i c t hcc ht=>(h.kids i c t hcc ht).later hu hZ,h.notZ,h.notZv,h.notZu⟩
def jn (f:Nat->Nat) (cl:List Nat) (j:Nat):List Nat:=(cl.map f).take j++cl.drop j
theorem jn_zero (f:Nat->Nat) (cl:List Nat):jn f cl 0=cl:=by simp [jn]
theorem jn_end (f:Nat->Nat) (cl:List Nat) (j:Nat) (h:cl.length<=j):jn f cl j=cl.map f:=by
 unfold jn
 rw [List.take_of_length_le (by simpa using h),List.drop_eq_nil_of_le h,List.append_nil]
theorem jn_length (f:Nat->Nat) (cl:List Nat) (j:Nat):(jn f cl j).length=cl.length:=by
 simp [jn]
 omega
theorem jn_at (f:Nat->Nat) (cl:List Nat) (j:Nat) {c:Nat} (h:cl[j]?=some c):(jn f cl j)[j]?=some c:=by
 have hj:=(List.getElem?_eq_some_iff.1 h).1
 unfold jn
 rw [List.getElem?_append_right (by simp; omega)]
 simp [Nat.min_eq_left (Nat.le_of_lt hj),h]
theorem jn_set (f:Nat->Nat) (cl:List Nat) (j:Nat) {c:Nat} (h:cl[j]?=some c):(jn f cl j).set j (f c)=jn f cl (j+1):=by
 have hj:=(List.getElem?_eq_some_iff.1 h).1
 have he:=(List.getElem?_eq_some_iff.1 h).2
 unfold jn
 rw [List.drop_eq_getElem_cons hj,List.take_succ_eq_append_getElem (by simpa using hj),List.set_append_right _ _ (by simp; omega)]
 simp [Nat.min_eq_left (Nat.le_of_lt hj),he]
theorem jn_keep (f:Nat->Nat) (cl:List Nat) (j:Nat) {c:Nat} (h:cl[j]?=some c) (hf:f c=c):jn f cl (j+1)=jn f cl j:=by
 rw [<- jn_set f cl j h,hf]
 have:=jn_at f cl j h
 obtain ⟨h1,h2⟩:=List.getElem?_eq_some_iff.1 this
 rw [<- h2]
 exact List.set_getElem_self h1
theorem RWAt.setC {w:World} {wb g n cap i x:Nat} {Z:Nat->Prop} {l:List Trm} {cl:List Nat} {v:Value} {cs:List Nat} (h:RWAt w wb Z l cl v (.slice (some ⟨g,0,none⟩) n cap) cs):RWAt (w.setCell ⟨g,i,none⟩ (.int .i64 x)) wb Z l (cl.set i x) v (.slice (some ⟨g,0,none⟩) n cap) cs:=by
 have hg:=h.notZu g rfl
 have hu:Upd [g] w (w.setCell ⟨g,i,none⟩ (.int .i64 x)):=(Upd.refl [g] w).setCell (by simp) _
 have hw:wb ∉ [g]:=by simp; exact fun e=>hg.2 e.symm
 refine ⟨Nat.lt_of_lt_of_le h.lt hu.size,fun o=>(hu.frozen (p:=⟨wb,o,none⟩) h.lt hw).trans (h.free o),(hu.cell h.lt hw).trans h.c0,(hu.cell h.lt hw).trans h.c1,hu.ownsRow h.rowL (fun k hk hm=>?_),?_,h.len,fun i c t hcc ht=>(h.kids i c t hcc ht).later hu (fun k hk hm=>?_),h.notZ,h.notZv,h.notZu⟩
 ·simp at hm
  subst hm
  exact (h.notZv k hk).2.2 rfl
 ·have:=ownsRow_set1 (i:=i) (v:=x) h.rowC
  simpa using this
 ·simp at hm
  subst hm
  exact hg.1 hk
theorem refJoin_any (w:World) (wb a b:Nat) (Z:Nat->Prop) (l:List Trm) (cl:List Nat) (v u:Value) (cs:List Nat) (h:RWAt w wb Z l cl v u cs) (ha:a < cl.length) (hb:b < cl.length) (hl:cl.length<=100000) :
  Calls Tryz.prog 112 #[.pointer (some ⟨wb,0,none⟩),.int .i64 a,.int .i64 b] w fun e w'=>e=.returned (.bool (clsAt cl a != clsAt cl b))/\RWAt w' wb Z l (joinC cl a b) v u cs/\Upd u.ownBlock.toList w w':=by
 rcases ownsRow_slice h.rowC with ⟨_,h0⟩ | ⟨g,cap,hv,hc1,hc2⟩
 ·omega
 subst hv
 obtain ⟨n,hn⟩:∃ n,cl.length=n:=⟨_,rfl⟩
 have Hn:=hide hn
 obtain ⟨x,hx⟩:∃ x,clsAt cl a=x:=⟨_,rfl⟩
 obtain ⟨y,hy⟩:∃ y,clsAt cl b=y:=⟨_,rfl⟩
 have hxa:cl[a]?=some x:=by rw [<- hx]; unfold clsAt; rw [List.getD_eq_getElem?_getD,List.getElem?_eq_getElem ha]; rfl
 have hyb:cl[b]?=some y:=by rw [<- hy]; unfold clsAt; rw [List.getD_eq_getElem?_getD,List.getElem?_eq_getElem hb]; rfl
 have HJ:Hid (joinC cl a b=cl.map fun z=>if z=x then y else z):=by show _=_; unfold joinC; rw [hx,hy]
 have Hx:=hide hx
 have Hy:=hide hy
 have c1:=h.c1
 have q1:w.cell? ⟨g,a,none⟩=some (.int .i64 x):=by rw [h.rowC.cellAt a (by omega)]; simp [intsOf,hxa]
 have q2:w.cell? ⟨g,b,none⟩=some (.int .i64 y):=by rw [h.rowC.cellAt b (by omega)]; simp [intsOf,hyb]
 rw [hn] at c1 ha hb hc1 hl h ⊢
 unfold maxLen at hc2
 have H0:=hide h
 have haI:(a:Int) < (n:Int):=by omega
 have hbI:(b:Int) < (n:Int):=by omega
 clear h hx hy hxa hyb hn
 go_enter Tryz.func112,Tryz.ntmps112
 go_wp2
 go_loopw [9] (fun i wr=>∃ j:Nat,j<=n/\i=.int .i64 j/\Hid (RWAt wr wb Z l (jn (fun z=>if z=x then y else z) cl j) v (.slice (some ⟨g,0,none⟩) n cap) cs/\Upd [g] w wr)) (fun i _=>n - (intOf i).toNat)
 case atStart=>exact ⟨0,Nat.zero_le _,rfl,by rw [jn_zero]; exact H0.out,Upd.refl _ _⟩
 case round =>
  obtain ⟨j,hj,rfl,HR⟩:=hrel
  clear c1 q1 q2
  have k1:=HR.out.1.c1
  by_cases hjn:j < n
  ·have hjI:(j:Int) < (n:Int):=by omega
   obtain ⟨c,hc⟩:∃ c,cl[j]?=some c:=⟨_,List.getElem?_eq_getElem (by rw [Hn.out]; exact hjn)⟩
   have k2:wr.cell? ⟨g,j,none⟩=some (.int .i64 c):=by
    have hrc:=HR.out.1.rowC
    rw [jn_length,Hn.out] at hrc
    rw [hrc.cellAt j (by omega)]
    simp [intsOf,jn_at _ cl j hc]
   have kf:=row_free HR.out.1.rowC
   have Hc:=hide hc
   clear hc
   by_cases he:c=x
   ·have HS:Hid ((jn (fun z=>if z=x then y else z) cl j).set j y=jn (fun z=>if z=x then y else z) cl (j+1)):=by
     have hh:(jn (fun z=>if z=x then y else z) cl j).set j (if c=x then y else c)=jn (fun z=>if z=x then y else z) cl (j+1):=jn_set (fun z=>if z=x then y else z) cl j Hc.out
     rw [if_pos he] at hh
     exact hh
    have he':((c:Int) == (x:Int))=true:=by simp [he]
    have he2:(c:Int)=(x:Int):=by omega
    go_wp2
    refine ⟨⟨j+1,by omega,by simp,by rw [<- HS.out]; exact HR.out.1.setC,HR.out.2.setCell (by simp) _⟩,?_⟩
    simp [intOf]
    omega
   ·have HS:Hid (jn (fun z=>if z=x then y else z) cl (j+1)=jn (fun z=>if z=x then y else z) cl j):=jn_keep _ cl j Hc.out (by simp [he])
    have he':((c:Int) == (x:Int))=false:=by simp; omega
    have he2:¬ (c:Int)=(x:Int):=by omega
    go_wp2
    refine ⟨⟨j+1,by omega,by simp,by rw [HS.out]; exact HR.out.1,HR.out.2⟩,?_⟩
    simp [intOf]
    omega
  ·have hjI:¬ (j:Int) < (n:Int):=by omega
   have HE:Hid (jn (fun z=>if z=x then y else z) cl j=joinC cl a b):=by show _=_; rw [jn_end _ cl j (by rw [Hn.out]; omega),HJ.out]
   have HB:Hid ((clsAt cl a != clsAt cl b)=((x:Int) != (y:Int))):=by show _=_; rw [Hx.out,Hy.out,Bool.eq_iff_iff]; simp only [bne_iff_ne,ne_eq]; omega
   go_wp2
   go_ret
   exact ⟨by rw [HB.out]; rfl,by rw [<- HE.out]; exact HR.out.1,HR.out.2⟩
section
variable {w w1 w3:World} {wb g cap c x:Nat} {Z:Nat->Prop} {l:List Trm} {cl:List Nat} {v u:Value} {cs:List Nat} {t:Trm}
theorem RWAt.cell0 (h:RWAt w wb Z l cl v u cs) (hu:Upd [] w w1) (hg:w1.grownBy w3 v.ownBlock):w3.cell? ⟨wb,0,none⟩=some v/\∀ o,w3.frozen? ⟨wb,o,none⟩=false:=by
 have U:Upd v.ownBlock.toList w w3:=(hu.mono (fun x hx _=>by cases hx)).trans (Upd.of_grown hg)
 have hn:wb ∉ v.ownBlock.toList:=fun hm=>(h.notZv wb (by simpa using hm)).2.1 rfl
 exact ⟨(U.cell (p:=⟨wb,0,none⟩) h.lt hn).trans h.c0,fun o=>(U.frozen (p:=⟨wb,o,none⟩) h.lt hn).trans (h.free o)⟩
theorem RWAt.cell1 (h:RWAt w wb Z l cl v u cs) (hu:Upd [] w w1) (hg:w1.grownBy w3 u.ownBlock):w3.cell? ⟨wb,1,none⟩=some u/\∀ o,w3.frozen? ⟨wb,o,none⟩=false:=by
 have U:Upd u.ownBlock.toList w w3:=(hu.mono (fun x hx _=>by cases hx)).trans (Upd.of_grown hg)
 have hn:wb ∉ u.ownBlock.toList:=fun hm=>(h.notZu wb (by simpa using hm)).2 rfl
 exact ⟨(U.cell (p:=⟨wb,1,none⟩) h.lt hn).trans h.c1,fun o=>(U.frozen (p:=⟨wb,o,none⟩) h.lt hn).trans (h.free o)⟩
theorem RWAt.pushL (h:RWAt w wb Z l cl v u cs) (hZ:∀ k,Z k->k < w.heap.size) (ht:IsRT w Z t c) (hu:Upd [] w w1) (hg:w1.grownBy w3 v.ownBlock) (hat:v.ownBlock=some g\/g=w1.heap.size)
  (hown:w3.ownsRow 0 170 1 (.slice (some ⟨g,0,none⟩) (l.length+1) cap) (l.length+1) (ptrs cs++[.pointer (some ⟨c,0,none⟩)])) :
  RWAt (w3.setCell ⟨wb,0,none⟩ (.slice (some ⟨g,0,none⟩) (l.length+1) cap)) wb Z (l++[t]) cl (.slice (some ⟨g,0,none⟩) (l.length+1) cap) u (cs++[c]) /\
   Upd (wb :: v.ownBlock.toList) w (w3.setCell ⟨wb,0,none⟩ (.slice (some ⟨g,0,none⟩) (l.length+1) cap)):=by
 have U:Upd v.ownBlock.toList w w3:=(hu.mono (fun x hx _=>by cases hx)).trans (Upd.of_grown hg)
 have hn:wb ∉ v.ownBlock.toList:=fun hm=>(h.notZv wb (by simpa using hm)).2.1 rfl
 have hs1:=hu.size
 have hlt:=h.lt
 have hlt3:=Nat.lt_of_lt_of_le h.lt U.size
 have g1:=(U.cell (p:=⟨wb,1,none⟩) h.lt hn).trans h.c1
 have g0:=(U.cell (p:=⟨wb,0,none⟩) h.lt hn).trans h.c0
 have gf:∀ o,w3.frozen? ⟨wb,o,none⟩=false:=fun o=>(U.frozen (p:=⟨wb,o,none⟩) h.lt hn).trans (h.free o)
 have hgw:g ≠ wb:=fun e=>by
  rcases hat with hat | hat
  ·exact (h.notZv g hat).2.1 e
  ·omega
 have hu3:Upd [wb] w3 (w3.setCell ⟨wb,0,none⟩ (.slice (some ⟨g,0,none⟩) (l.length+1) cap)):=(Upd.refl [wb] w3).setCell (by simp) _
 have UU:Upd (wb :: v.ownBlock.toList) w (w3.setCell ⟨wb,0,none⟩ (.slice (some ⟨g,0,none⟩) (l.length+1) cap)):=(U.mono (fun x hx _=>by simp at hx ⊢; exact .inr hx)).setCell (by simp) _
 have hZn:∀ k,Z k->k ∉ wb :: v.ownBlock.toList:=fun k hk hm=>by
  simp at hm
  rcases hm with rfl | hm
  ·exact h.notZ hk
  ·exact (h.notZv k hm).1 hk
 refine ⟨⟨by simpa using hlt3,fun o=>by simpa using gf o,by go_simp,by go_simp,?_,UU.ownsRow h.rowC (fun k hk hm=>?_),by simp [h.len],?_,h.notZ,fun k hk=>?_,h.notZu⟩,UU⟩
 ·have:=hu3.ownsRow hown (fun k hk hm=>by simp [Value.ownBlock] at hk hm; omega)
  simpa [ptrs] using this
 ·simp at hm
  rcases hm with hm | hm
  ·exact (h.notZu k hk).2 hm
  ·exact (h.notZv k hm).2.2 hk
 ·intro i c' t' hc' ht'
  by_cases hi:i < l.length
  ·rw [List.getElem?_append_left (by rw [h.len]; exact hi)] at hc'
   rw [List.getElem?_append_left hi] at ht'
   exact (h.kids i c' t' hc' ht').later UU hZn
  ·have hi2:i=l.length:=by
    have:=(List.getElem?_eq_some_iff.1 ht').1
    simp at this
    omega
   subst hi2
   rw [<- h.len,List.getElem?_concat_length] at hc'
   rw [List.getElem?_concat_length] at ht'
   obtain rfl:=Option.some.inj hc'
   obtain rfl:=Option.some.inj ht'
   exact ht.later UU hZn
 ·simp only [own_slice,Option.some.injEq] at hk
  subst hk
  rcases hat with hat | hat
  ·exact h.notZv g hat
  ·exact ⟨fun hz=>by have:=hZ g hz; omega,hgw,fun e=>by have:=ownsRow_lt h.rowC e; omega⟩
theorem RWAt.pushC (h:RWAt w wb Z l cl v u cs) (hZ:∀ k,Z k->k < w.heap.size) (hu:Upd [] w w1) (hg:w1.grownBy w3 u.ownBlock) (hat:u.ownBlock=some g\/g=w1.heap.size)
  (hown:w3.ownsRow 0 3 1 (.slice (some ⟨g,0,none⟩) (cl.length+1) cap) (cl.length+1) (intsOf cl++[.int .i64 x])) :
  RWAt (w3.setCell ⟨wb,1,none⟩ (.slice (some ⟨g,0,none⟩) (cl.length+1) cap)) wb Z l (cl++[x]) v (.slice (some ⟨g,0,none⟩) (cl.length+1) cap) cs /\
   Upd (wb :: u.ownBlock.toList) w (w3.setCell ⟨wb,1,none⟩ (.slice (some ⟨g,0,none⟩) (cl.length+1) cap)):=by
 have U:Upd u.ownBlock.toList w w3:=(hu.mono (fun x hx _=>by cases hx)).trans (Upd.of_grown hg)
 have hn:wb ∉ u.ownBlock.toList:=fun hm=>(h.notZu wb (by simpa using hm)).2 rfl
 have hs1:=hu.size
 have hlt:=h.lt
 have hlt3:=Nat.lt_of_lt_of_le h.lt U.size
 have g1:=(U.cell (p:=⟨wb,1,none⟩) h.lt hn).trans h.c1
 have g0:=(U.cell (p:=⟨wb,0,none⟩) h.lt hn).trans h.c0
 have gf:∀ o,w3.frozen? ⟨wb,o,none⟩=false:=fun o=>(U.frozen (p:=⟨wb,o,none⟩) h.lt hn).trans (h.free o)
 have hgw:g ≠ wb:=fun e=>by
  rcases hat with hat | hat
  ·exact (h.notZu g hat).2 e
  ·omega
 have hu3:Upd [wb] w3 (w3.setCell ⟨wb,1,none⟩ (.slice (some ⟨g,0,none⟩) (cl.length+1) cap)):=(Upd.refl [wb] w3).setCell (by simp) _
 have UU:Upd (wb :: u.ownBlock.toList) w (w3.setCell ⟨wb,1,none⟩ (.slice (some ⟨g,0,none⟩) (cl.length+1) cap)):=(U.mono (fun x hx _=>by simp at hx ⊢; exact .inr hx)).setCell (by simp) _
 have hZn:∀ k,Z k->k ∉ wb :: u.ownBlock.toList:=fun k hk hm=>by
  simp at hm
  rcases hm with rfl | hm
  ·exact h.notZ hk
  ·exact (h.notZu k hm).1 hk
 refine ⟨⟨by simpa using hlt3,fun o=>by simpa using gf o,by go_simp,by go_simp,UU.ownsRow h.rowL (fun k hk hm=>?_),?_,h.len,fun i c' t' hc' ht'=>(h.kids i c' t' hc' ht').later UU hZn,h.notZ,fun k hk=>⟨(h.notZv k hk).1,(h.notZv k hk).2.1,fun e=>?_⟩,fun k hk=>?_⟩,UU⟩
 ·simp at hm
  rcases hm with hm | hm
  ·exact (h.notZv k hk).2.1 hm
  ·exact (h.notZv k hk).2.2 hm
 ·have:=hu3.ownsRow hown (fun k hk hm=>by simp [Value.ownBlock] at hk hm; omega)
  simpa [intsOf] using this
 ·simp only [own_slice,Option.some.injEq] at e
  subst e
  rcases hat with hat | hat
  ·exact (h.notZv g hk).2.2 hat
  ·have:=ownsRow_lt h.rowL hk; omega
 ·simp only [own_slice,Option.some.injEq] at hk
  subst hk
  rcases hat with hat | hat
  ·exact h.notZu g hat
  ·exact ⟨fun hz=>by have:=hZ g hz; omega,hgw⟩
end
def RWB (w0 w:World) (wb:Nat) (l:List Trm) (cl:List Nat):Prop:=Upd [] w0 w/\∃ v u cs,RWAt w wb (fun k=>k < w0.heap.size) l cl v u cs
theorem RWB.drewN {w0 w:World} {wb:Nat} {l:List Trm} {cl:List Nat} (h:RWB w0 w wb l cl) (n:Nat):RWB w0 (w.drewN n) wb l cl:=by
 obtain ⟨hu,v,u,cs,h⟩:=h
 exact ⟨hu.drewN n,v,u,cs,h.later ((Upd.refl [] w).drewN n) (fun _ _=>by simp) (by simp) (fun _ _=>by simp) (fun _ _=>by simp)⟩
theorem RWB.new (w0:World):RWB w0 (w0.alloc (.cells #[.slice none 0 0,.slice none 0 0] 130)) w0.heap.size [] []:=by
 refine ⟨(Upd.refl [] w0).alloc _,.slice none 0 0,.slice none 0 0,[],by simp,fun o=>by go_simp,by go_simp,by go_simp,⟨rfl,.inl ⟨rfl,rfl⟩⟩,⟨rfl,.inl ⟨rfl,rfl⟩⟩,rfl,fun i c t hc=>by simp at hc,Nat.lt_irrefl _,fun k hk=>(by cases hk),fun k hk=>(by cases hk)⟩
theorem RWB.step {w0 w w':World} {wb:Nat} {l l':List Trm} {cl cl':List Nat} {L:List Nat} (h:RWB w0 w wb l cl) (hu:Upd L w w') (hL:∀ k ∈ L,w0.heap.size<=k) (h':∃ v u cs,RWAt w' wb (fun k=>k < w0.heap.size) l' cl' v u cs):RWB w0 w' wb l' cl' :=
 ⟨h.1.trans' hu (fun k hk hl=>absurd (hL k hk) (by omega)),h'⟩
end Go.Proofs.YtmfkpllnmmfpiaaGreatDoor
