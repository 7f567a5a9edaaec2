/- ScanTerm -/
import Derived.Test.YtmfkpllnmmfpiaaGreatDoorRefHeapA
import Derived.Deep.DeepMust
import Derived.Deep.CutBlock
set_option maxHeartbeats 16000000
set_option maxRecDepth 100000
namespace Go.Proofs.YtmfkpllnmmfpiaaGreatDoor
open Go.RowKit
def headText (nm:ByteArray) (acc:List Trm):ByteArray:=⟨(nm.data.toList++40 :: joinT acc).toArray⟩
theorem headText_open (nm:ByteArray):nm++⟨#[40]⟩=headText nm []:=by
 apply ByteArray.ext
 apply Array.ext'
 simp [headText,joinT]
theorem headText_first (nm:ByteArray) (p:Trm):headText nm []++p.text=headText nm [p]:=by
 apply ByteArray.ext
 simp [headText,joinT,joinR,Trm.text]
theorem headText_more (nm:ByteArray) (acc:List Trm) (p:Trm) (h:acc ≠ []):headText nm acc++⟨#[44,32]⟩++p.text=headText nm (acc++[p]):=by
 apply ByteArray.ext
 simp [headText,joinT_snoc acc p h,Trm.text]
theorem headText_close (nm:ByteArray) (acc:List Trm) (h:acc ≠ []):headText nm acc++⟨#[41]⟩=(Trm.node nm acc).text:=by
 apply ByteArray.ext
 simp [headText,Trm.text,txt_node nm acc h]
theorem text_leaf (nm:ByteArray):(Trm.node nm []).text=nm:=by
 apply ByteArray.ext
 simp [Trm.text,Trm.txt]
theorem headText_size (nm:ByteArray) (acc:List Trm):(headText nm acc).size=nm.size+1+(joinT acc).length:=by
 have:nm.data.toList.length=nm.size:=by simp
 show (nm.data.toList++40 :: joinT acc).toArray.size=_
 simp only [List.size_toArray,List.length_append,List.length_cons]
 omega
theorem text_size (t:Trm):t.text.size=t.txt.length:=by
 show t.txt.toArray.size=_
 simp
theorem scanIs_z (xb:Nat) (s:ByteArray) (x:Sc) (z:Int) (c:Nat) (hz:z=c) (w:World) (h:ScanAt w xb s x) (hs:s.size<=1000) (hp:x.pos<=100000) :
  Calls Tryz.prog 134 #[.pointer (some ⟨xb,0,none⟩),.int .u8 z] w fun e w'=>e=.returned (.bool (isR s z x))/\ScanAt w' xb s (blanksR s x)/\Upd [xb] w w':=by
 subst hz
 exact scanIs_any xb s x c w h hs hp
theorem news_set (W:World) (a:Addr) (u x:Value) (T:TypeId):∀ j u',[x][j]?=some u'->((W.setCell a u).alloc (.cells #[x] T)).cell? ((⟨W.heap.size,0,none⟩:Addr).add j)=some u':=by
 have h:∀ j u',[x][j]?=some u'->((W.setCell a u).alloc (.cells #[x] T)).cell? ((⟨(W.setCell a u).heap.size,0,none⟩:Addr).add j)=some u':=World.news_of_block (heap_alloc_new (W.setCell a u) (.cells #[x] T))
 have e:(W.setCell a u).heap.size=W.heap.size:=by simp
 rw [e] at h
 exact h
theorem len_row {w:World} {base e size n:Nat} {v:Value} {xs:List Value} (h:w.ownsRow base e size v n xs) (ty:TypeId) (W:World):(Builtin.len_ #[128] ty #[v]).run Tryz.prog W=.ok (.int .i64 n) W:=by
 obtain ⟨g,cap,hv⟩:=slice_len h
 rw [hv]
 simp [Builtin.len_,run_underlying Tryz.underlying128]
 rfl
theorem TBld.grown {w wr w3:World} {xb tb:Nat} {s:ByteArray} {x:Sc} {nm T:ByteArray} {acc:List Trm} {v:Value} {cs:List Nat} {X:Obj} (h:TBld w wr xb tb s x nm T acc v cs) (hg:(wr.alloc X).grownBy w3 v.ownBlock):w3.cell? ⟨tb,1,none⟩=some v/\∀ o,w3.frozen? ⟨tb,o,none⟩=false:=by
 have hnt:tb ∉ v.ownBlock.toList:=fun hm=>by have:=own_geT h.row (by simpa using hm); omega
 have U:Upd v.ownBlock.toList wr w3:=((Upd.refl _ wr).alloc X).trans (Upd.of_grown hg)
 exact ⟨(U.cell (p:=⟨tb,1,none⟩) h.lt hnt).trans h.c1,fun o=>(U.frozen (p:=⟨tb,o,none⟩) h.lt hnt).trans (h.free o)⟩
def RTermOK (n:Nat):Prop:=∀ (s:ByteArray) (xb d:Nat) (x:Sc) (z:Int) (w:World),s.size<=1000->z=d->d+n<=5000->s.size+1<=n+x.pos->x.pos<=5000->ScanAt w xb s x ->
 Calls Tryz.prog 107 #[.pointer (some ⟨xb,0,none⟩),.int .i64 z] w fun e w'=>∃ tb,e=.returned (.pointer (some ⟨tb,0,none⟩))/\IsRT w' (fun k=>w.heap.size<=k/\k < w'.heap.size) (termR s n d x).1 tb/\ScanAt w' xb s (termR s n d x).2/\Upd [xb] w w'
theorem scanTerm_step (n:Nat) (IH:1<=n->RTermOK n):RTermOK (n+1):=by
 intro s xb d x z w hs hz hdn hn hp h
 subst hz
 obtain ⟨i0,hi,hz0,hz1,hz2⟩:=info_parts info_refPtr
 have hxlt:=h.lt
 have hb0:=blanksR_pos s x
 have hnm:=nameR_pos s (blanksR s x)
 have hhd:=headR_pos s d x
 have HB:=hide (blanks_any xb s x w h hs (by omega))
 have hna:=(fun (W:World) (hh:ScanAt W xb s (blanksR s x))=>name_any xb s (blanksR s x) W hh hs (by omega))
 have Hh0:=hide hhd
 obtain ⟨nm,hnmE⟩:∃ nm,(nameR s (blanksR s x)).1=nm:=⟨_,rfl⟩
 obtain ⟨a0,ha0⟩:∃ a0,(blanksR s x).pos=a0:=⟨_,rfl⟩
 obtain ⟨x1,hx1⟩:∃ x1,(nameR s (blanksR s x)).2=x1:=⟨_,rfl⟩
 have HnmE:=hide hnmE
 have Ha0:=hide ha0
 have Hx1:=hide hx1
 rw [hnmE,hx1] at hnm hna
 have HNa:=hide hna
 have hnmS:nm.size<=6001:=by omega
 have hH1:Hid ((headR s d x).1=nm):=hnmE
 have hH2:Hid ((headR s d x).2=if 8 < nm.size\/12 < d then farR a0 x1 else x1):=by
  show _=_
  unfold headR
  simp only [hnmE,ha0,hx1]
 obtain ⟨x2,hx2⟩:∃ x2,(headR s d x).2=x2:=⟨_,rfl⟩
 have Hx2:=hide hx2
 rw [hx2] at hhd hH2
 have hhe:(headR s d x).1.size=nm.size:=by rw [hH1.out]
 rw [hhe] at hhd
 have hdI:(d:Int)<=5000:=by omega
 clear h hnmE ha0 hx1 hx2 hhe hna
 go_enter Tryz.func107,Tryz.ntmps107
 go_upto_region 5 with (first
  | (go_at_call 109; refine HB.out.mono ?_; rintro e wa ⟨rfl,hsa,hua⟩; have HSa:=hide hsa; have HUa:=hide hua; have ga:=hsa.c1; rw [Ha0.out] at ga; clear hsa hua)
  | (go_at_call 132; refine (HNa.out _ HSa.out).mono ?_; rintro e wb ⟨rfl,hsb,hub⟩; have HSb:=hide hsb; have HUb:=hide (HUa.out.trans hub); clear hsb hub ga))
 have hT0:TBld w (wb.alloc (.cells #[.string nm,.slice none 0 0,.string nm] 169)) xb wb.heap.size s x1 nm nm [] (.slice none 0 0) []:=TBld.begin_ HSb.out hxlt HUb.out rfl
 obtain ⟨W0,hW0⟩:∃ W,W=wb.alloc (.cells #[.string nm,.slice none 0 0,.string nm] 169):=⟨_,rfl⟩
 rw [<- hW0] at hT0
 rw [<- hW0]
 obtain ⟨tb,htb⟩:∃ tb,tb=wb.heap.size:=⟨_,rfl⟩
 rw [<- htb] at hT0
 rw [<- htb]
 have HT0:=hide hT0
 have q0:=hT0.c0
 clear hW0 htb hT0 HSb HUb HB HNa
 go_cut [37] (fun c wx=>c=.bool (decide (8 < nm.size\/12 < d))/\wx=W0)
 case first =>
  by_cases h8:8 < nm.size
  ·have HV:Hid (decide (8 < nm.size\/12 < d)=true):=by show _=_; simp [h8]
   have h8':(8:Int) < (nm.size:Int):=by omega
   go_wp2_with fail
   go_meet
   case rel=>exact ⟨by rw [HV.out],rfl⟩
  ·by_cases h12:12 < d
   ·have HV:Hid (decide (8 < nm.size\/12 < d)=true):=by show _=_; simp [h12]
    have h8':¬ (8:Int) < (nm.size:Int):=by omega
    have h12':(12:Int) < (d:Int):=by omega
    go_wp2_with fail
    go_meet
    case rel=>exact ⟨by rw [HV.out],rfl⟩
   ·have HV:Hid (decide (8 < nm.size\/12 < d)=false):=by show _=_; simp [h8,h12]
    have h8':¬ (8:Int) < (nm.size:Int):=by omega
    have h12':¬ (12:Int) < (d:Int):=by omega
    go_wp2_with fail
    go_meet
    case rel=>exact ⟨by rw [HV.out],rfl⟩
 case rest =>
  obtain ⟨rfl,rfl⟩:=hcut
  go_upto_if 37 with fail
  go_cut [] (fun wx=>Hid (TBld w wx xb tb s x2 nm nm [] (.slice none 0 0) []))
  case first =>
   by_cases hf:8 < nm.size\/12 < d
   ·have HV:decide (8 < nm.size\/12 < d)=true:=by simp [hf]
    have HX:Hid (x2=farR a0 x1):=by show _=_; rw [hH2.out,if_pos hf]
    rw [HV]
    go_wp2_with (go_at_call 133; refine (scanFar_any xb s x1 a0 _ HT0.out.scan).mono ?_; rintro e wf ⟨rfl,hsf,huf⟩; have HSf:=hide hsf; have HUf:=hide huf; clear hsf huf)
    go_meet
    case rel=>show TBld _ _ _ _ _ _ _ _ _ _ _; rw [HX.out]; exact HT0.out.scanned HSf.out HUf.out
   ·have HV:decide (8 < nm.size\/12 < d)=false:=by simp [hf]
    have HX:Hid (x2=x1):=by show _=_; rw [hH2.out,if_neg hf]
    rw [HV]
    go_wp2_with fail
    go_meet
    case rel=>show TBld _ _ _ _ _ _ _ _ _ _ _; rw [HX.out]; exact HT0.out
  case rest =>
   clear HT0 q0 hnmS Hh0 HSa HUa
   have hx2p:x2.pos<=100000:=by omega
   have HIs:=hide (scanIs_z xb s x2 40 40 rfl wc hcut.out.scan hs hx2p)
   by_cases hop:isR s 40 x2=true
   ·obtain ⟨hop1,hop2⟩:=isR_pos hop
    have hq:=blanksR_pos s x2
    have hn1:1<=n:=by omega
    have hIH:=hide (IH hn1)
    obtain ⟨X0,hX0⟩:∃ X0,(blanksR s x2).next=X0:=⟨_,rfl⟩
    have hX0p:X0.pos=(blanksR s x2).pos+1:=by rw [<- hX0]; rfl
    have hX0b:X0.bad < 0:=by rw [<- hX0]; exact hop2
    obtain ⟨P,hP⟩:∃ P,partsR s (termR s n (d+1)) (s.size+1) X0=P:=⟨_,rfl⟩
    have HR:Hid (termR s (n+1) d x=(.node nm P.1,closeR s a0 P)):=by show _=_; unfold termR; rw [Hx2.out,if_pos hop,hH1.out,hX0,hP,Ha0.out]
    have HP:=hide hP
    have HX0:=hide hX0
    have hxt:xb ≠ tb:=by have:=hcut.out.tge; omega
    have hA1:∀ w,(Op.stringOp .add nm ⟨#[40]⟩).run Tryz.prog w=.ok (.string (nm++⟨#[40]⟩)) w:=fun w=>run_string_add_sum w _ _ (by show nm.size+1<=_; omega)
    obtain ⟨bp,hbp⟩:∃ bp,(blanksR s x2).pos=bp:=⟨_,rfl⟩
    have Hbp:=hide hbp
    rw [hbp] at hX0p hop1 hq
    clear hP hX0 hbp
    go_upto_block 0 with ((go_at_call 134; refine HIs.out.mono ?_; rintro e wi ⟨rfl,hsi,hui⟩; rw [hop]; have HTi:=hide (hcut.out.scanned hsi hui); have g1:=hsi.c1; have gf:=hsi.free; have q2:=HTi.out.c2; have qf:=HTi.out.free; rw [Hbp.out] at g1; clear hsi hui))
    have HL:Hid (TBld w ((wi.setCell ⟨xb,1,none⟩ (.int .i64 (bp+1))).setCell ⟨tb,2,none⟩ (.string (nm++⟨#[40]⟩))) xb tb s X0 nm (headText nm []) [] (.slice none 0 0) []):=by
     have h1:=(HTi.out.next (z:=bp+1) (by rw [Hbp.out])).texted (nm++⟨#[40]⟩)
     rw [HX0.out,headText_open] at h1
     rw [headText_open]
     exact h1
    clear HTi g1 gf q2 qf
    go_cut [8,9] (fun _ _ wx=>∃ v cs,Hid (P.1 ≠ []/\P.1.length<=2000/\(headText nm P.1).size<=20000/\P.2.pos<=20000)/\Hid (TBld w wx xb tb s P.2 nm (headText nm P.1) P.1 v cs))
    case first =>
     go_wp2_with fail
     go_loopw [8,9] (fun _ _ wr=>∃ m acc x' v cs,x'.bad < 0/\x'.pos<=s.size/\s.size+1<=m+x'.pos/\x.pos < x'.pos/\(headText nm acc).size<=2 * x'.pos/\acc.length<=x'.pos/\Hid (acc++(partsR s (termR s n (d+1)) m x').1=P.1/\(partsR s (termR s n (d+1)) m x').2=P.2)/\Hid (TBld w wr xb tb s x' nm (headText nm acc) acc v cs)) (fun _ _ wr=>s.size+1 - natAt wr ⟨xb,1,none⟩)
     case atStart =>
      refine ⟨s.size+1,[],X0,_,_,hX0b,by omega,by omega,by omega,?_,by simp,⟨by rw [HP.out]; rfl,by rw [HP.out]⟩,HL⟩
      rw [headText_size]
      simp only [joinT,List.length_nil]
      omega
     case round =>
      obtain ⟨m,acc,x',v,cs,hbad,hpos,hm,hxx,hln,hal,HPm,HT⟩:=hrel
      clear HL HIs hA1
      have hRp:=hide (term_pos s n (d+1) x')
      have hc:=hIH.out s xb (d+1) x' (d+1) wr hs (by omega) (by omega) (by omega) (by omega) HT.out.scan
      obtain ⟨p,hpE⟩:∃ p,(termR s n (d+1) x').1=p:=⟨_,rfl⟩
      obtain ⟨x3,hx3⟩:∃ x3,(termR s n (d+1) x').2=x3:=⟨_,rfl⟩
      have hR1:=hRp.out
      rw [hpE,hx3] at hR1 hc
      obtain ⟨t1,t2,t3⟩:=hR1
      rw [<- text_size] at t3
      have HC:=hide hc
      obtain ⟨m',rfl⟩:∃ m',m=m'+1:=⟨m - 1,by omega⟩
      have HPs:Hid (partsR s (termR s n (d+1)) (m'+1) x'=if isR s 44 x3 then (p :: (partsR s (termR s n (d+1)) m' (blanksR s x3).next).1,(partsR s (termR s n (d+1)) m' (blanksR s x3).next).2) else ([p],blanksR s x3)):=by
       show _=_
       conv=>lhs; unfold partsR
       rw [hpE,hx3]
      have y1:=HT.out.scan.c1
      have y2:=HT.out.scan.c2
      have hB:tb < wr.heap.size:=HT.out.lt
      have HVl:Hid (∀ q,v.ownBlock=some q->q < wr.heap.size):=fun q hq=>ownsRow_lt HT.out.row hq
      clear hc hpE hx3 hRp hX0p hX0b hop hop2 hq hop1
      by_cases hacc:acc=[]
      ·subst hacc
       have hlen:∀ ty (W:World),(Builtin.len_ #[128] ty #[v]).run Tryz.prog W=.ok (.int .i64 0) W:=len_row HT.out.row
       have hTx:(headText nm []).size+p.text.size<=9223372036854775807:=by omega
       have hA2:∀ w,(Op.stringOp .add (headText nm []) p.text).run Tryz.prog w=.ok (.string (headText nm []++p.text)) w:=fun w=>run_string_add_sum w _ _ (by omega)
       have Hfin:Hid (headText nm []++p.text=headText nm ([]++[p])):=headText_first nm p
       have hlm:0+1<=maxLen:=by unfold maxLen; omega
       have hlb:(0+1) * 8<=140737488355328:=by omega
       go_upto_region 17 with (first
        | (go_at_call 107; refine HC.out.mono ?_; rintro e w2 ⟨c,rfl,hrt,hs2,hu2⟩; have HT2:=hide (HT.out.scanned hs2 hu2); have HRT:=hide (hrt.mono (Z':=fun k=>wr.heap.size<=k) fun k hk _=>hk.1); have HU2:=hide hu2.size; have q1:=HT2.out.c1; have q2:=HT2.out.c2; have qf:=HT2.out.free; have q3:=HT2.out.lt; have hrw:=((Upd.refl [] w2).alloc (.cells #[.pointer (some ⟨c,0,none⟩)] 170)).ownsRow HT2.out.row (fun _ _=>by simp); have Hrow:=hide hrw; have hnews:Hid (∀ j u,[Value.pointer (some ⟨c,0,none⟩)][j]?=some u->(w2.alloc (.cells #[.pointer (some ⟨c,0,none⟩)] 170)).cell? ((⟨w2.heap.size,0,none⟩:Addr).add j)=some u):=World.news_of_block (heap_alloc_new _ _); have hone:Hid (∀ u ∈ [Value.pointer (some ⟨c,0,none⟩)],u.oneCell'=true):=(fun u hu'=>by simp at hu'; subst hu'; rfl); clear hrt hs2 hu2 hrw)
        | (at_builtin; go_must (refine wpList_append_lies _ rfl _ _ 128 rfl (tb+1) 170 i0 (.pointer none) 1 8 Tryz.underlying128 hi hz0 hz1 hz2 rfl (by decide) _ _ _ rfl Hrow.out ⟨w2.heap.size,0,none⟩ 1 1 [.pointer (some ⟨c,0,none⟩)] rfl rfl hnews.out hone.out (by decide) hlm hlb (by simp; omega) _ rfl ?_); intro g1 cap1 w3 hown3 hgrow3 hat3 hlt3; have HK:=hide (TBld.kid HT2.out (B:=wr.heap.size) HRT.out HT.out.lt HVl.out hgrow3 hat3 hown3); obtain ⟨r1,rf⟩:=TBld.grown HT2.out hgrow3))
       have hK:TBld w (w3.setCell ⟨tb,1,none⟩ (.slice (some ⟨g1,0,none⟩) 1 cap1)) xb tb s x3 nm (headText nm []) ([]++[p]) (.slice (some ⟨g1,0,none⟩) 1 cap1) (cs++[c]):=HK.out
       obtain ⟨W,hW⟩:∃ W,W=w3.setCell ⟨tb,1,none⟩ (.slice (some ⟨g1,0,none⟩) 1 cap1):=⟨_,rfl⟩
       rw [<- hW] at hK
       rw [<- hW]
       have z2:=hK.c2
       have zf:=hK.free
       have hcl:cs.length=[].length:=HT.out.len
       have zc:=(hK.kids [].length c p (by rw [<- hcl,List.getElem?_concat_length]) (by rw [List.getElem?_concat_length])).text
       have HKK:=hide hK
       have hx3p:x3.pos<=100000:=by omega
       clear hW hK HK r1 rf hown3 hgrow3 hat3 hlt3 Hrow hnews hone HC q1 q2 qf q3 HT2 HRT HU2 hlm hlb y2 hcl
       go_region
       obtain ⟨W4,hW4⟩:∃ W4,W4=(W.setCell ⟨tb,2,none⟩ (.string (headText nm []++p.text))).drew:=⟨_,rfl⟩
       have h4:=(HKK.out.texted (headText nm []++p.text)).scanned ((HKK.out.texted (headText nm []++p.text)).scan.later ((Upd.refl [] _).drew) (by simp)) ((Upd.refl [xb] _).drew)
       rw [<- hW4,Hfin.out] at h4
       rw [<- hW4]
       have HT4:=hide h4
       have HIs:=hide (scanIs_z xb s x3 44 44 rfl W4 h4.scan hs hx3p)
       clear hW4 h4 HKK z2 zf zc
       have hb3:=blanksR_pos s x3
       obtain ⟨bq,hbq⟩:∃ bq,(blanksR s x3).pos=bq:=⟨_,rfl⟩
       have Hbq:=hide hbq
       rw [hbq] at hb3
       clear hbq
       have Hsz:Hid ((headText nm ([]++[p])).size<=2 * x3.pos+2):=by
        show _<=_
        rw [<- Hfin.out]
        simp only [ByteArray.size_append]
        omega
       by_cases hmore:isR s 44 x3=true
       ·obtain ⟨hm1,hm2⟩:=isR_pos hmore
        rw [Hbq.out] at hm1
        have HPn:Hid (([]++[p])++(partsR s (termR s n (d+1)) m' (blanksR s x3).next).1=P.1/\(partsR s (termR s n (d+1)) m' (blanksR s x3).next).2=P.2):=by
         have h:=HPm.out
         rw [HPs.out,if_pos hmore] at h
         exact ⟨by rw [<- h.1]; simp,h.2⟩
        go_wp2_with (go_at_call 134; refine HIs.out.mono ?_; rintro e w5 ⟨rfl,hs5,hu5⟩; rw [hmore]; have HT5:=hide (HT4.out.scanned hs5 hu5); have g51:=hs5.c1; have gf5:=hs5.free; rw [Hbq.out] at g51; clear hs5 hu5)
        have HN:=HT5.out.next (z:=bq+1) (by rw [Hbq.out])
        have hnp:(blanksR s x3).next.pos=bq+1:=by show (blanksR s x3).pos+1=_; rw [Hbq.out]
        refine ⟨⟨m',[]++[p],(blanksR s x3).next,_,_,hm2,by rw [hnp]; omega,by rw [hnp]; omega,by rw [hnp]; omega,by rw [hnp]; have:=Hsz.out; omega,by rw [hnp]; simp only [List.length_append,List.length_cons,List.length_nil]; omega,HPn,HN⟩,?_⟩
        have hc1:=HN.scan.c1
        rw [hnp] at hc1
        rw [natAt_eq y1,natAt_eq (n:=bq+1) hc1]
        omega
       ·have hmore':isR s 44 x3=false:=by simpa using hmore
        have HE:Hid ([]++[p]=P.1/\blanksR s x3=P.2):=by
         have h:=HPm.out
         rw [HPs.out,if_neg hmore] at h
         exact h
        go_wp2_with (go_at_call 134; refine HIs.out.mono ?_; rintro e w5 ⟨rfl,hs5,hu5⟩; rw [hmore']; have HT5:=hide (HT4.out.scanned hs5 hu5); clear hs5 hu5)
        go_meet
        case rel =>
         refine ⟨_,_,⟨by rw [<- HE.out.1]; simp,by rw [<- HE.out.1]; simp only [List.length_append,List.length_cons,List.length_nil]; omega,by rw [<- HE.out.1]; have:=Hsz.out; omega,by rw [<- HE.out.2,Hbq.out]; omega⟩,by show TBld _ _ _ _ _ _ _ _ _ _ _; rw [<- HE.out.1,<- HE.out.2]; exact HT5.out⟩
      ·obtain ⟨k,hk⟩:∃ k,acc.length=k:=⟨_,rfl⟩
       have hk0:0 < k:=by
        rw [<- hk]
        exact List.length_pos_iff.2 hacc
       have hk0I:(0:Int) < (k:Int):=by omega
       have hlen:=len_row HT.out.row
       rw [hk] at hlen hal
       have hszT:(headText nm acc++(⟨#[44,32]⟩:ByteArray)).size=(headText nm acc).size+2:=by simp only [ByteArray.size_append]; rfl
       have hA1:∀ w,(Op.stringOp .add (headText nm acc) ⟨#[44,32]⟩).run Tryz.prog w=.ok (.string (headText nm acc++⟨#[44,32]⟩)) w:=fun w=>run_string_add_sum w _ _ (by show (headText nm acc).size+2<=_; omega)
       have hA2:∀ w,(Op.stringOp .add (headText nm acc++⟨#[44,32]⟩) p.text).run Tryz.prog w=.ok (.string (headText nm acc++⟨#[44,32]⟩++p.text)) w:=fun w=>run_string_add_sum w _ _ (by omega)
       have Hfin:Hid (headText nm acc++⟨#[44,32]⟩++p.text=headText nm (acc++[p])):=headText_more nm acc p hacc
       have Hk:=hide hk
       clear hk hszT hacc
       have hlm:k+1<=maxLen:=by unfold maxLen; omega
       have hlb:(k+1) * 8<=140737488355328:=by omega
       go_upto_region 17 with (first
        | (go_at_call 107; refine HC.out.mono ?_; rintro e w2 ⟨c,rfl,hrt,hs2,hu2⟩; have HT2:=hide (HT.out.scanned hs2 hu2); have HRT:Hid (IsRT (w2.setCell ⟨tb,2,none⟩ (.string (headText nm acc++(⟨#[44,32]⟩:ByteArray)))) (fun k=>wr.heap.size<=k) p c):=(hrt.mono (Z':=fun k=>wr.heap.size<=k) fun k hk _=>hk.1).later ((Upd.refl [tb] w2).setCell (by simp) _) (fun k hk hm=>by simp at hm; omega); have HU2:=hide hu2.size; have q1:=HT2.out.c1; have q2:=HT2.out.c2; have qf:=HT2.out.free; have q3:=HT2.out.lt; have hrw:=((Upd.refl [] (w2.setCell ⟨tb,2,none⟩ (.string (headText nm acc++(⟨#[44,32]⟩:ByteArray))))).alloc (.cells #[.pointer (some ⟨c,0,none⟩)] 170)).ownsRow (HT2.out.texted (headText nm acc++(⟨#[44,32]⟩:ByteArray))).row (fun _ _=>by simp); rw [Hk.out] at hrw; have Hrow:=hide hrw; have hnews:=hide (news_set w2 ⟨tb,2,none⟩ (.string (headText nm acc++⟨#[44,32]⟩)) (.pointer (some ⟨c,0,none⟩)) 170); have hone:Hid (∀ u ∈ [Value.pointer (some ⟨c,0,none⟩)],u.oneCell'=true):=(fun u hu'=>by simp at hu'; subst hu'; rfl); clear hrt hs2 hu2 hrw)
        | (at_builtin; go_must (refine wpList_append_lies _ rfl _ _ 128 rfl (tb+1) 170 i0 (.pointer none) 1 8 Tryz.underlying128 hi hz0 hz1 hz2 rfl (by decide) _ _ _ rfl Hrow.out ⟨w2.heap.size,0,none⟩ 1 1 [.pointer (some ⟨c,0,none⟩)] rfl rfl hnews.out hone.out (by decide) hlm hlb (by simp; omega) _ rfl ?_); intro g1 cap1 w3 hown3 hgrow3 hat3 hlt3; rw [<- Hk.out] at hown3; have hkk:=TBld.kid (HT2.out.texted (headText nm acc++(⟨#[44,32]⟩:ByteArray))) (B:=wr.heap.size) HRT.out HT.out.lt HVl.out hgrow3 hat3 hown3; rw [Hk.out] at hkk; have HK:=hide hkk; clear hkk; obtain ⟨r1,rf⟩:=TBld.grown (HT2.out.texted (headText nm acc++(⟨#[44,32]⟩:ByteArray))) hgrow3))
       have hK:TBld w (w3.setCell ⟨tb,1,none⟩ (.slice (some ⟨g1,0,none⟩) (k+1) cap1)) xb tb s x3 nm (headText nm acc++(⟨#[44,32]⟩:ByteArray)) (acc++[p]) (.slice (some ⟨g1,0,none⟩) (k+1) cap1) (cs++[c]):=HK.out
       obtain ⟨W,hW⟩:∃ W,W=w3.setCell ⟨tb,1,none⟩ (.slice (some ⟨g1,0,none⟩) (k+1) cap1):=⟨_,rfl⟩
       rw [<- hW] at hK
       rw [<- hW]
       have z2:=hK.c2
       have zf:=hK.free
       have hcl:cs.length=acc.length:=HT.out.len
       have zc:=(hK.kids acc.length c p (by rw [<- hcl,List.getElem?_concat_length]) (by rw [List.getElem?_concat_length])).text
       have HKK:=hide hK
       have hx3p:x3.pos<=100000:=by omega
       clear hW hK HK r1 rf hown3 hgrow3 hat3 hlt3 Hrow hnews hone HC q1 q2 qf q3 HT2 HRT HU2 hlm hlb y2 hcl
       go_region
       obtain ⟨W4,hW4⟩:∃ W4,W4=(W.setCell ⟨tb,2,none⟩ (.string ((headText nm acc++(⟨#[44,32]⟩:ByteArray)++p.text)))).drew:=⟨_,rfl⟩
       have h4:=(HKK.out.texted ((headText nm acc++(⟨#[44,32]⟩:ByteArray)++p.text))).scanned ((HKK.out.texted ((headText nm acc++(⟨#[44,32]⟩:ByteArray)++p.text))).scan.later ((Upd.refl [] _).drew) (by simp)) ((Upd.refl [xb] _).drew)
       rw [<- hW4,Hfin.out] at h4
       rw [<- hW4]
       have HT4:=hide h4
       have HIs:=hide (scanIs_z xb s x3 44 44 rfl W4 h4.scan hs hx3p)
       clear hW4 h4 HKK z2 zf zc
       have hb3:=blanksR_pos s x3
       obtain ⟨bq,hbq⟩:∃ bq,(blanksR s x3).pos=bq:=⟨_,rfl⟩
       have Hbq:=hide hbq
       rw [hbq] at hb3
       clear hbq
       have Hsz:Hid ((headText nm (acc++[p])).size<=2 * x3.pos+2):=by
        show _<=_
        rw [<- Hfin.out]
        have e2:(⟨#[44,32]⟩:ByteArray).size=2:=rfl
        simp only [ByteArray.size_append,e2]
        omega
       by_cases hmore:isR s 44 x3=true
       ·obtain ⟨hm1,hm2⟩:=isR_pos hmore
        rw [Hbq.out] at hm1
        have HPn:Hid ((acc++[p])++(partsR s (termR s n (d+1)) m' (blanksR s x3).next).1=P.1/\(partsR s (termR s n (d+1)) m' (blanksR s x3).next).2=P.2):=by
         have h:=HPm.out
         rw [HPs.out,if_pos hmore] at h
         exact ⟨by rw [<- h.1]; simp,h.2⟩
        go_wp2_with (go_at_call 134; refine HIs.out.mono ?_; rintro e w5 ⟨rfl,hs5,hu5⟩; rw [hmore]; have HT5:=hide (HT4.out.scanned hs5 hu5); have g51:=hs5.c1; have gf5:=hs5.free; rw [Hbq.out] at g51; clear hs5 hu5)
        have HN:=HT5.out.next (z:=bq+1) (by rw [Hbq.out])
        have hnp:(blanksR s x3).next.pos=bq+1:=by show (blanksR s x3).pos+1=_; rw [Hbq.out]
        refine ⟨⟨m',acc++[p],(blanksR s x3).next,_,_,hm2,by rw [hnp]; omega,by rw [hnp]; omega,by rw [hnp]; omega,by rw [hnp]; have:=Hsz.out; omega,by rw [hnp]; simp only [List.length_append,List.length_cons,List.length_nil]; rw [Hk.out]; omega,HPn,HN⟩,?_⟩
        have hc1:=HN.scan.c1
        rw [hnp] at hc1
        rw [natAt_eq y1,natAt_eq (n:=bq+1) hc1]
        omega
       ·have hmore':isR s 44 x3=false:=by simpa using hmore
        have HE:Hid (acc++[p]=P.1/\blanksR s x3=P.2):=by
         have h:=HPm.out
         rw [HPs.out,if_neg hmore] at h
         exact h
        go_wp2_with (go_at_call 134; refine HIs.out.mono ?_; rintro e w5 ⟨rfl,hs5,hu5⟩; rw [hmore']; have HT5:=hide (HT4.out.scanned hs5 hu5); clear hs5 hu5)
        go_meet
        case rel =>
         refine ⟨_,_,⟨by rw [<- HE.out.1]; simp,by rw [<- HE.out.1]; simp only [List.length_append,List.length_cons,List.length_nil]; rw [Hk.out]; omega,by rw [<- HE.out.1]; have:=Hsz.out; omega,by rw [<- HE.out.2,Hbq.out]; omega⟩,by show TBld _ _ _ _ _ _ _ _ _ _ _; rw [<- HE.out.1,<- HE.out.2]; exact HT5.out⟩
    case rest =>
     have hcut2:=hcut
     obtain ⟨v,cs,Hb,HT⟩:=hcut2
     obtain ⟨b1,b2,b3,b4⟩:=Hb.out
     obtain ⟨L,hL⟩:∃ L,P.1.length=L:=⟨_,rfl⟩
     have hlen:=len_row HT.out.row
     rw [hL] at hlen b2
     have HL3:=hide hL
     have hA:∀ w,(Op.stringOp .add (headText nm P.1) ⟨#[41]⟩).run Tryz.prog w=.ok (.string (headText nm P.1++⟨#[41]⟩)) w:=fun w=>run_string_add_sum w _ _ (by show (headText nm P.1).size+1<=_; omega)
     have Hdone:Hid (headText nm P.1++⟨#[41]⟩=(Trm.node nm P.1).text):=headText_close nm P.1 b1
     have HIs:=hide (scanIs_z xb s P.2 41 41 rfl _ HT.out.scan hs (by omega))
     have hbp:=blanksR_pos s P.2
     obtain ⟨bq,hbq⟩:∃ bq,(blanksR s P.2).pos=bq:=⟨_,rfl⟩
     have Hbq:=hide hbq
     rw [hbq] at hbp
     have hxt:xb ≠ tb:=by have:=HT.out.tge; omega
     clear hbq hL b1 HL
     cases h41:isR s 41 P.2
     ·by_cases h3:3 < L
      ·skip
       have HCl:Hid (closeR s a0 P=farR a0 (noR (blanksR s P.2)).next):=by show _=_; unfold closeR; simp only [h41]; rw [if_pos (by rw [HL3.out]; omega)]; rfl
       have h3I:(3:Int) < (L:Int):=by omega
       go_wp2_with (first
        | (go_at_call 134; refine HIs.out.mono ?_; rintro e w6 ⟨rfl,hs6,hu6⟩; rw [h41]; have HT6:=hide (HT.out.scanned hs6 hu6); clear hs6 hu6)
        | (go_at_call 110; refine (scanNo_any xb s (blanksR s P.2) _ HT6.out.scan).mono ?_; rintro e w7 ⟨rfl,hs7,hu7⟩; have HT6n:=hide (HT6.out.scanned hs7 hu7); have g1:=HT6n.out.scan.c1; have gf:=HT6n.out.scan.free; have q1:=HT6n.out.c1; have q2:=HT6n.out.c2; have qf:=HT6n.out.free; rw [noR_pos,Hbq.out] at g1; have HT7:Hid (TBld w ((w7.setCell ⟨xb,1,none⟩ (.int .i64 (bq+1))).setCell ⟨tb,2,none⟩ (.string (headText nm P.1++⟨#[41]⟩))) xb tb s (noR (blanksR s P.2)).next nm (headText nm P.1++⟨#[41]⟩) P.1 v cs):=(HT6n.out.next (z:=bq+1) (by rw [noR_pos,Hbq.out])).texted _; clear hs7 hu7)
        | (go_at_call 133; refine (scanFar_any xb s (noR (blanksR s P.2)).next a0 _ HT7.out.scan).mono ?_; rintro e w8 ⟨rfl,hs8,hu8⟩; have HT8:=hide (HT7.out.scanned hs8 hu8); clear hs8 hu8))
       go_ret
       have hT:=HT8.out
       exact ⟨tb,rfl,by rw [HR.out]; exact hT.done Hdone.out,by rw [HR.out]; show ScanAt _ _ _ (closeR s a0 P); rw [HCl.out]; exact hT.scan,hT.upd⟩
      ·skip
       have HCl:Hid (closeR s a0 P=(noR (blanksR s P.2)).next):=by show _=_; unfold closeR; simp only [h41]; rw [if_neg (by rw [HL3.out]; omega)]; rfl
       have h3I:¬ (3:Int) < (L:Int):=by omega
       go_wp2_with (first
        | (go_at_call 134; refine HIs.out.mono ?_; rintro e w6 ⟨rfl,hs6,hu6⟩; rw [h41]; have HT6:=hide (HT.out.scanned hs6 hu6); clear hs6 hu6)
        | (go_at_call 110; refine (scanNo_any xb s (blanksR s P.2) _ HT6.out.scan).mono ?_; rintro e w7 ⟨rfl,hs7,hu7⟩; have HT6n:=hide (HT6.out.scanned hs7 hu7); have g1:=HT6n.out.scan.c1; have gf:=HT6n.out.scan.free; have q1:=HT6n.out.c1; have q2:=HT6n.out.c2; have qf:=HT6n.out.free; rw [noR_pos,Hbq.out] at g1; have HT7:Hid (TBld w ((w7.setCell ⟨xb,1,none⟩ (.int .i64 (bq+1))).setCell ⟨tb,2,none⟩ (.string (headText nm P.1++⟨#[41]⟩))) xb tb s (noR (blanksR s P.2)).next nm (headText nm P.1++⟨#[41]⟩) P.1 v cs):=(HT6n.out.next (z:=bq+1) (by rw [noR_pos,Hbq.out])).texted _; clear hs7 hu7))
       go_ret
       have hT:=HT7.out
       exact ⟨tb,rfl,by rw [HR.out]; exact hT.done Hdone.out,by rw [HR.out]; show ScanAt _ _ _ (closeR s a0 P); rw [HCl.out]; exact hT.scan,hT.upd⟩
     ·by_cases h3:3 < L
      ·skip
       have HCl:Hid (closeR s a0 P=farR a0 (blanksR s P.2).next):=by show _=_; unfold closeR; simp only [h41]; rw [if_pos (by rw [HL3.out]; omega)]; rfl
       have h3I:(3:Int) < (L:Int):=by omega
       go_wp2_with (first
        | (go_at_call 134; refine HIs.out.mono ?_; rintro e w6 ⟨rfl,hs6,hu6⟩; rw [h41]; have HT6:=hide (HT.out.scanned hs6 hu6); have g1:=HT6.out.scan.c1; have gf:=HT6.out.scan.free; have q1:=HT6.out.c1; have q2:=HT6.out.c2; have qf:=HT6.out.free; rw [Hbq.out] at g1; have HT7:Hid (TBld w ((w6.setCell ⟨xb,1,none⟩ (.int .i64 (bq+1))).setCell ⟨tb,2,none⟩ (.string (headText nm P.1++⟨#[41]⟩))) xb tb s (blanksR s P.2).next nm (headText nm P.1++⟨#[41]⟩) P.1 v cs):=(HT6.out.next (z:=bq+1) (by rw [Hbq.out])).texted _; clear hs6 hu6)
        | (go_at_call 133; refine (scanFar_any xb s (blanksR s P.2).next a0 _ HT7.out.scan).mono ?_; rintro e w8 ⟨rfl,hs8,hu8⟩; have HT8:=hide (HT7.out.scanned hs8 hu8); clear hs8 hu8))
       go_ret
       have hT:=HT8.out
       exact ⟨tb,rfl,by rw [HR.out]; exact hT.done Hdone.out,by rw [HR.out]; show ScanAt _ _ _ (closeR s a0 P); rw [HCl.out]; exact hT.scan,hT.upd⟩
      ·skip
       have HCl:Hid (closeR s a0 P=(blanksR s P.2).next):=by show _=_; unfold closeR; simp only [h41]; rw [if_neg (by rw [HL3.out]; omega)]; rfl
       have h3I:¬ (3:Int) < (L:Int):=by omega
       go_wp2_with (first
        | (go_at_call 134; refine HIs.out.mono ?_; rintro e w6 ⟨rfl,hs6,hu6⟩; rw [h41]; have HT6:=hide (HT.out.scanned hs6 hu6); have g1:=HT6.out.scan.c1; have gf:=HT6.out.scan.free; have q1:=HT6.out.c1; have q2:=HT6.out.c2; have qf:=HT6.out.free; rw [Hbq.out] at g1; have HT7:Hid (TBld w ((w6.setCell ⟨xb,1,none⟩ (.int .i64 (bq+1))).setCell ⟨tb,2,none⟩ (.string (headText nm P.1++⟨#[41]⟩))) xb tb s (blanksR s P.2).next nm (headText nm P.1++⟨#[41]⟩) P.1 v cs):=(HT6.out.next (z:=bq+1) (by rw [Hbq.out])).texted _; clear hs6 hu6))
       go_ret
       have hT:=HT7.out
       exact ⟨tb,rfl,by rw [HR.out]; exact hT.done Hdone.out,by rw [HR.out]; show ScanAt _ _ _ (closeR s a0 P); rw [HCl.out]; exact hT.scan,hT.upd⟩
   ·have hop':isR s 40 x2=false:=by simpa using hop
    have HR:Hid (termR s (n+1) d x=(.node nm [],blanksR s x2)):=by show _=_; unfold termR; rw [Hx2.out,if_neg hop,hH1.out]
    go_wp2_with (go_at_call 134; refine HIs.out.mono ?_; rintro e wi ⟨rfl,hsi,hui⟩; rw [hop']; have HTi:=hide (hcut.out.scanned hsi hui); clear hsi hui)
    go_ret
    have hT:=HTi.out
    exact ⟨tb,rfl,by rw [HR.out]; exact hT.done (text_leaf nm).symm,by rw [HR.out]; exact hT.scan,hT.upd⟩
end Go.Proofs.YtmfkpllnmmfpiaaGreatDoor
