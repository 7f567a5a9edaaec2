/- AllFull, RefWhyLaw, RefWhy, RefWhyWalk -/
import Derived.Test.YtmfkpllnmmfpiaaGreatDoorAllOwn2A
import Derived.Test.YtmfkpllnmmfpiaaGreatDoorAllRoomA
import Derived.Test.YtmfkpllnmmfpiaaGreatDoorRefHoldA
import Derived.Test.YtmfkpllnmmfpiaaGreatDoorLawSaidA
import Derived.Test.YtmfkpllnmmfpiaaGreatDoorPlacesA
set_option maxHeartbeats 16000000
set_option maxRecDepth 100000
namespace Go.Proofs.YtmfkpllnmmfpiaaGreatDoor
open Go.RowKit
theorem Wrl.form {w:World} {wb f:Nat} {V:Nat->Value} {E:Nat->List Value} (h:Wrl w wb V E) (hf:f < 5):∃ a cap,V f=.slice a (E f).length cap/\(E f).length<=cap/\cap<=maxLen/\∀ wr,Upd [] w wr->wr.cell? ⟨wb,f,none⟩=some (.slice a (E f).length cap)/\∀ k u,(E f)[k]?=some u->∃ g,a=some ⟨g,0,none⟩/\wr.cell? ⟨g,k,none⟩=some u:=by
 have hr:=h.row f hf
 have hc:=h.cell f hf
 rcases ownsRow_slice hr with ⟨e1,e2⟩ | ⟨g,cap,e1,e2,e3⟩
 ·rw [e1] at hc ⊢
  refine ⟨none,0,by rw [e2],by omega,by unfold maxLen; omega,fun wr hu=>⟨?_,fun k u hk=>?_⟩⟩
  ·rw [e2]
   exact (hu.cell (p:=⟨wb,f,none⟩) h.lt (by simp)).trans hc
  ·have:=(List.getElem?_eq_some_iff.1 hk).1
   omega
 ·rw [e1] at hc hr
  refine ⟨_,cap,e1,e2,e3,fun wr hu=>⟨(hu.cell (p:=⟨wb,f,none⟩) h.lt (by simp)).trans hc,fun k u hk=>⟨g,rfl,?_⟩⟩⟩
  have hr2:=hu.ownsRow hr (fun _ _=>by simp)
  have hkl:=(List.getElem?_eq_some_iff.1 hk).1
  rw [hr2.cellAt k (by omega),hk]
theorem Ent.form {s k:Nat} {P:Nat->World->Nat->Nat->Prop} {w:World} {B:Nat->Prop} {u:Value} (hl:∀ k,LocalP s (P k)) (h:Ent s P w B k u):∃ a n cap g o,u=.slice a n cap/\n<=cap/\cap<=maxLen/\(0 < n->a=some ⟨g,o,none⟩)/\∀ wr,Upd [] w wr->∀ i,i < n->P k wr g (o+i * s):=by
 obtain ⟨a,n,cap,g,o,h1,h2,h3,h4⟩:=h
 exact ⟨a,n,cap,g,o,h1,h2,h3,fun h0=>(h4 h0).1,fun wr hu i hi=>hl k w wr g _ (fun c _=>hu.cell (p:=⟨g,o+i * s+c,none⟩) (h4 (by omega)).2.1 (by simp)) ((h4 (by omega)).2.2.2 i hi)⟩
theorem fullTexts_any (w:World) (wb:Nat) (V:Nat->Value) (E:Nat->List Value) (B:Nat->Prop) (h:Wrl w wb V E) (hE:∀ f k u,f < 5->(E f)[k]?=some u->EntF f w B k u) (hlen:∀ f,f < 5->(E f).length<=100000000000) :
  Calls Tryz.prog 41 #[.pointer (some ⟨wb,0,none⟩)] w fun e w'=>e=.returned (.bool true)/\Upd [] w w':=by
 obtain ⟨a1,cap1,_,q1,q2,f1⟩:=h.form (f:=1) (by omega)
 obtain ⟨a2,cap2,_,r1,r2,f2⟩:=h.form (f:=2) (by omega)
 have l1:=hlen 1 (by omega)
 have l2:=hlen 2 (by omega)
 have HT:=hide (fun k u (hk:(E 1)[k]?=some u)=>Ent.form localT (hE 1 k u (by omega) hk))
 have HL:=hide (fun k u (hk:(E 2)[k]?=some u)=>Ent.form localL (hE 2 k u (by omega) hk))
 obtain ⟨n1,hn1⟩:∃ n,(E 1).length=n:=⟨_,rfl⟩
 obtain ⟨n2,hn2⟩:∃ n,(E 2).length=n:=⟨_,rfl⟩
 rw [hn1] at q1 f1 l1
 rw [hn2] at r1 f2 l2
 have F1:=hide f1
 have F2:=hide f2
 have Hn1:=hide hn1
 have Hn2:=hide hn2
 unfold maxLen at q2 r2
 have z1:=(f1 w (Upd.refl _ _)).1
 clear h hE hlen f1 f2 hn1 hn2
 go_enter Tryz.func41,Tryz.ntmps41
 clear z1
 go_wp2_with fail
 go_loopw [3] (fun kv wr=>∃ k:Nat,k<=n1/\kv=.int .i64 k/\Hid (Upd [] w wr)) (fun kv _=>n1 - (intOf kv).toNat)
 case atStart=>exact ⟨0,Nat.zero_le _,rfl,Upd.refl _ _⟩
 case round =>
  obtain ⟨k,hk,rfl,HU⟩:=hrel
  have c1:=(F1.out wr HU.out).1
  by_cases hkn:k < n1
  ·have hkI:(k:Int) < (n1:Int):=by omega
   obtain ⟨u,hu⟩:∃ u,(E 1)[k]?=some u:=⟨_,List.getElem?_eq_getElem (by rw [Hn1.out]; exact hkn)⟩
   obtain ⟨a,n,cap,g,o,rfl,e2,e3,e4,e5⟩:=HT.out k u hu
   have HLb:=hide (label_any k wr (by omega))
   have HP:=hide e5
   have Hat:=hide e4
   have HR:Hid (∀ wr,Upd [] w wr->wr.cell? ⟨wb,1,none⟩=some (.slice a1 n1 cap1)/\∃ g1,a1=some ⟨g1,0,none⟩/\wr.cell? ⟨g1,k,none⟩=some (.slice a n cap)):=fun wr hw=>⟨(F1.out wr hw).1,(F1.out wr hw).2 k _ hu⟩
   unfold maxLen at e3
   clear hu e4 e5
   obtain ⟨w0,hw0⟩:∃ w0,w0=wr:=⟨_,rfl⟩
   subst hw0
   go_upto_region 5 with (go_at_call 77; refine HLb.out.mono ?_; rintro e w2 ⟨rfl,hu2⟩; have HU2:=hide (HU.out.trans hu2); clear hu2)
   clear HLb c1
   obtain ⟨x,hx⟩:∃ x,labelT k=x:=⟨_,rfl⟩
   rw [hx]
   have HX:=hide hx
   clear hx
   go_wp2_with fail
   go_loopw [5] (fun iv wq=>∃ i:Nat,i<=n/\iv=.int .i64 i/\Hid (Upd [] w wq)) (fun iv _=>n - (intOf iv).toNat)
   case atStart=>exact ⟨0,Nat.zero_le _,rfl,HU2.out⟩
   case round =>
    obtain ⟨i,hi,rfl,HV⟩:=hrel
    obtain ⟨c1,g1,rfl,c2⟩:=HR.out wr HV.out
    by_cases hin:i < n
    ·have hiI:(i:Int) < (n:Int):=by omega
     have hat:=Hat.out (by omega)
     subst hat
     have c3:wr.cell? ⟨g,o+i * 1,none⟩=some (.string (labelT k)):=HP.out wr HV.out i hin
     rw [Nat.mul_one,HX.out] at c3
     go_wp2
     exact ⟨⟨i+1,by omega,by go_num,HV.out⟩,by simp [intOf]; omega⟩
    ·have hiI:¬ (i:Int) < (n:Int):=by omega
     go_wp2
     exact ⟨⟨k+1,by omega,by go_num,HV.out⟩,by simp [intOf]; omega⟩
  ·have hkI:¬ (k:Int) < (n1:Int):=by omega
   obtain ⟨w0,hw0⟩:∃ w0,w0=wr:=⟨_,rfl⟩
   subst hw0
   go_wp2_with fail
   clear c1
   go_loopw [6] (fun kv wr=>∃ k:Nat,k<=n2/\kv=.int .i64 k/\Hid (Upd [] w wr)) (fun kv _=>n2 - (intOf kv).toNat)
   case atStart=>exact ⟨0,Nat.zero_le _,rfl,HU.out⟩
   case round =>
    obtain ⟨k,hk,rfl,HU⟩:=hrel
    have c1:=(F2.out wr HU.out).1
    by_cases hkn:k < n2
    ·have hkI:(k:Int) < (n2:Int):=by omega
     obtain ⟨u,hu⟩:∃ u,(E 2)[k]?=some u:=⟨_,List.getElem?_eq_getElem (by rw [Hn2.out]; exact hkn)⟩
     obtain ⟨a,n,cap,g,o,rfl,e2,e3,e4,e5⟩:=HL.out k u hu
     have HP:=hide e5
     have Hat:=hide e4
     have HR:Hid (∀ wr,Upd [] w wr->wr.cell? ⟨wb,2,none⟩=some (.slice a2 n2 cap2)/\∃ g1,a2=some ⟨g1,0,none⟩/\wr.cell? ⟨g1,k,none⟩=some (.slice a n cap)):=fun wr hw=>⟨(F2.out wr hw).1,(F2.out wr hw).2 k _ hu⟩
     unfold maxLen at e3
     clear hu e4 e5
     obtain ⟨w0,hw0⟩:∃ w0,w0=wr:=⟨_,rfl⟩
     subst hw0
     go_wp2_with fail
     clear c1
     go_loopw [7] (fun iv wq=>∃ i:Nat,i<=n/\iv=.int .i64 i/\Hid (Upd [] w wq)) (fun iv _=>n - (intOf iv).toNat)
     case atStart=>exact ⟨0,Nat.zero_le _,rfl,HU.out⟩
     case round =>
      obtain ⟨i,hi,rfl,HV⟩:=hrel
      obtain ⟨c1,g1,rfl,c2⟩:=HR.out wr HV.out
      by_cases hin:i < n
      ·have hiI:(i:Int) < (n:Int):=by omega
       have hat:=Hat.out (by omega)
       subst hat
       obtain ⟨y,cy,c3⟩:=HP.out wr HV.out i hin
       rw [Nat.mul_one] at c3
       have he:(((k+1:Nat):Int) == 1+(k:Int))=true:=by rw [beq_iff_eq]; omega
       go_wp2
       exact ⟨⟨i+1,by omega,by go_num,HV.out⟩,by simp [intOf]; omega⟩
      ·have hiI:¬ (i:Int) < (n:Int):=by omega
       go_wp2
       exact ⟨⟨k+1,by omega,by go_num,HV.out⟩,by simp [intOf]; omega⟩
    ·have hkI:¬ (k:Int) < (n2:Int):=by omega
     go_wp2
     go_ret
     exact ⟨rfl,HU.out⟩
theorem full_any (w:World) (wb:Nat) (V:Nat->Value) (E:Nat->List Value) (B:Nat->Prop) (h:Wrl w wb V E) (hE:∀ f k u,f < 5->(E f)[k]?=some u->EntF f w B k u) (hlen:∀ f,f < 5->(E f).length<=100000000000) :
  Calls Tryz.prog 13 #[.pointer (some ⟨wb,0,none⟩)] w fun e w'=>e=.returned (.bool true)/\Upd [] w w':=by
 obtain ⟨a1,cap1,_,q1,q2,f1⟩:=h.form (f:=3) (by omega)
 obtain ⟨a2,cap2,_,r1,r2,f2⟩:=h.form (f:=4) (by omega)
 have l1:=hlen 3 (by omega)
 have l2:=hlen 4 (by omega)
 have HT:=hide (fun k u (hk:(E 3)[k]?=some u)=>Ent.form localI (hE 3 k u (by omega) hk))
 have HL:=hide (fun k u (hk:(E 4)[k]?=some u)=>Ent.form localR (hE 4 k u (by omega) hk))
 have HTx0:=hide (fun (wr:World) (hu:Upd [] w wr)=>fullTexts_any wr wb V E B (h.later hu (fun _ _=>by simp)) (fun f k u hf hk=>EntF.keep hu (fun _ _ _=>by simp) (fun _ hg _=>hg) (hE f k u hf hk)) hlen)
 obtain ⟨n1,hn1⟩:∃ n,(E 3).length=n:=⟨_,rfl⟩
 obtain ⟨n2,hn2⟩:∃ n,(E 4).length=n:=⟨_,rfl⟩
 rw [hn1] at q1 f1 l1
 rw [hn2] at r1 f2 l2
 have F1:=hide f1
 have F2:=hide f2
 have Hn1:=hide hn1
 have Hn2:=hide hn2
 unfold maxLen at q2 r2
 have z1:=(f1 w (Upd.refl _ _)).1
 clear h hE hlen f1 f2 hn1 hn2
 go_enter Tryz.func13,Tryz.ntmps13
 clear z1
 go_wp2_with fail
 go_loopw [3] (fun kv wr=>∃ k:Nat,k<=n1/\kv=.int .i64 k/\Hid (Upd [] w wr)) (fun kv _=>n1 - (intOf kv).toNat)
 case atStart=>exact ⟨0,Nat.zero_le _,rfl,Upd.refl _ _⟩
 case round =>
  obtain ⟨k,hk,rfl,HU⟩:=hrel
  have c1:=(F1.out wr HU.out).1
  by_cases hkn:k < n1
  ·have hkI:(k:Int) < (n1:Int):=by omega
   obtain ⟨u,hu⟩:∃ u,(E 3)[k]?=some u:=⟨_,List.getElem?_eq_getElem (by rw [Hn1.out]; exact hkn)⟩
   obtain ⟨a,n,cap,g,o,rfl,e2,e3,e4,e5⟩:=HT.out k u hu
   have HP:=hide e5
   have Hat:=hide e4
   have HR:Hid (∀ wr,Upd [] w wr->wr.cell? ⟨wb,3,none⟩=some (.slice a1 n1 cap1)/\∃ g1,a1=some ⟨g1,0,none⟩/\wr.cell? ⟨g1,k,none⟩=some (.slice a n cap)):=fun wr hw=>⟨(F1.out wr hw).1,(F1.out wr hw).2 k _ hu⟩
   unfold maxLen at e3
   clear hu e4 e5
   obtain ⟨w0,hw0⟩:∃ w0,w0=wr:=⟨_,rfl⟩
   subst hw0
   go_wp2_with fail
   clear c1
   go_loopw [4] (fun iv wq=>∃ i:Nat,i<=n/\iv=.int .i64 i/\Hid (Upd [] w wq)) (fun iv _=>n - (intOf iv).toNat)
   case atStart=>exact ⟨0,Nat.zero_le _,rfl,HU.out⟩
   case round =>
    obtain ⟨i,hi,rfl,HV⟩:=hrel
    obtain ⟨c1,g1,rfl,c2⟩:=HR.out wr HV.out
    by_cases hin:i < n
    ·have hiI:(i:Int) < (n:Int):=by omega
     have hat:=Hat.out (by omega)
     subst hat
     have c3:wr.cell? ⟨g,o+i * 1,none⟩=some (.int .i64 (-1 - (k:Int))):=HP.out wr HV.out i hin
     rw [Nat.mul_one] at c3
     go_wp2
     exact ⟨⟨i+1,by omega,by go_num,HV.out⟩,by simp [intOf]; omega⟩
    ·have hiI:¬ (i:Int) < (n:Int):=by omega
     go_wp2
     exact ⟨⟨k+1,by omega,by go_num,HV.out⟩,by simp [intOf]; omega⟩
  ·have hkI:¬ (k:Int) < (n1:Int):=by omega
   obtain ⟨w0,hw0⟩:∃ w0,w0=wr:=⟨_,rfl⟩
   subst hw0
   go_wp2_with fail
   clear c1
   go_loopw [5] (fun kv wr=>∃ k:Nat,k<=n2/\kv=.int .i64 k/\Hid (Upd [] w wr)) (fun kv _=>n2 - (intOf kv).toNat)
   case atStart=>exact ⟨0,Nat.zero_le _,rfl,HU.out⟩
   case round =>
    obtain ⟨k,hk,rfl,HU⟩:=hrel
    have c1:=(F2.out wr HU.out).1
    by_cases hkn:k < n2
    ·have hkI:(k:Int) < (n2:Int):=by omega
     obtain ⟨u,hu⟩:∃ u,(E 4)[k]?=some u:=⟨_,List.getElem?_eq_getElem (by rw [Hn2.out]; exact hkn)⟩
     obtain ⟨a,n,cap,g,o,rfl,e2,e3,e4,e5⟩:=HL.out k u hu
     have HP:=hide e5
     have Hat:=hide e4
     have HR:Hid (∀ wr,Upd [] w wr->wr.cell? ⟨wb,4,none⟩=some (.slice a2 n2 cap2)/\∃ g1,a2=some ⟨g1,0,none⟩/\wr.cell? ⟨g1,k,none⟩=some (.slice a n cap)):=fun wr hw=>⟨(F2.out wr hw).1,(F2.out wr hw).2 k _ hu⟩
     unfold maxLen at e3
     clear hu e4 e5
     obtain ⟨w0,hw0⟩:∃ w0,w0=wr:=⟨_,rfl⟩
     subst hw0
     go_wp2_with fail
     clear c1
     go_loopw [6] (fun iv wq=>∃ i:Nat,i<=n/\iv=.int .i64 i/\Hid (Upd [] w wq)) (fun iv _=>n - (intOf iv).toNat)
     case atStart=>exact ⟨0,Nat.zero_le _,rfl,HU.out⟩
     case round =>
      obtain ⟨i,hi,rfl,HV⟩:=hrel
      obtain ⟨c1,g1,rfl,c2⟩:=HR.out wr HV.out
      by_cases hin:i < n
      ·have hiI:(i:Int) < (n:Int):=by omega
       have hat:=Hat.out (by omega)
       subst hat
       obtain ⟨c3,c4,c5⟩:=HP.out wr HV.out i hin
       go_wp2
       exact ⟨⟨i+1,by omega,by go_num,HV.out.alloc _⟩,by simp [intOf]; omega⟩
      ·have hiI:¬ (i:Int) < (n:Int):=by omega
       go_wp2
       exact ⟨⟨k+1,by omega,by go_num,HV.out⟩,by simp [intOf]; omega⟩
    ·have hkI:¬ (k:Int) < (n2:Int):=by omega
     have HTx:=hide (HTx0.out wr HU.out)
     go_wp2_with (go_at_call 41; refine HTx.out.mono ?_; rintro e w9 ⟨rfl,hu9⟩; have HU9:=hide (HU.out.trans hu9); clear hu9)
     go_ret
     exact ⟨rfl,HU9.out⟩
def pickTo (k:List Bool) (L:List ST):Nat->List ST
 | 0=>[]
 | j+1=>pickTo k L j++(if k.getD j false then (L[j]?).toList else [])
theorem pickTo_mem {k:List Bool} {L:List ST} {s:ST}:∀ {n:Nat},s ∈ pickTo k L n ↔ ∃ j,j < n/\k.getD j false=true/\L[j]?=some s
 | 0=>by simp [pickTo]
 | n+1=>by
  rw [pickTo,List.mem_append,pickTo_mem]
  constructor
  ·rintro (⟨j,h1,h2⟩ | h)
   ·exact ⟨j,by omega,h2⟩
   ·split at h
    ·rename_i hk
     exact ⟨n,by omega,hk,by simpa using h⟩
    ·cases h
  ·rintro ⟨j,h1,h2,h3⟩
   by_cases e:j < n
   ·exact .inl ⟨j,e,h2,h3⟩
   ·obtain rfl:j=n:=by omega
    right
    rw [if_pos h2,h3]
    simp
theorem pickTo_len (k:List Bool) (L:List ST):∀ n,(pickTo k L n).length<=n
 | 0=>Nat.le_refl _
 | n+1=>by
  have:=pickTo_len k L n
  rw [pickTo,List.length_append]
  split
  ·cases L[n]? <;> simp <;> omega
  ·simp; omega
def keepTo (L:List ST) (c:ST):Nat->List Bool
 | 0=>List.replicate L.length true
 | d+1=>((keepTo L c d).set (L.length - 1 - d) false).set (L.length - 1 - d) (!clashR (pickTo ((keepTo L c d).set (L.length - 1 - d) false) L L.length++[c]))
theorem keepTo_length (L:List ST) (c:ST):∀ d,(keepTo L c d).length=L.length
 | 0=>by simp [keepTo]
 | d+1=>by simp [keepTo,keepTo_length L c d]
theorem getD_set {k:List Bool} {i j:Nat} {b:Bool}:(k.set i b).getD j false=if i=j/\i < k.length then b else k.getD j false:=by
 simp only [List.getD_eq_getElem?_getD,List.getElem?_set]
 by_cases e:i=j
 ·subst e
  by_cases h:i < k.length
  ·simp [h]
  ·simp [h]
 ·simp [e]
theorem keepTo_first (L:List ST) (c:ST):∀ d j,d<=L.length->j < L.length - d->(keepTo L c d).getD j false=true
 | 0,j,_,h=>by
  simp only [keepTo,List.getD_eq_getElem?_getD]
  rw [List.getElem?_replicate,if_pos (by omega)]
  rfl
 | d+1,j,hd,h=>by
  have ih:=keepTo_first L c d j (by omega) (by omega)
  unfold keepTo
  rw [getD_set,if_neg (by omega),getD_set,if_neg (by omega)]
  exact ih
theorem keepTo_stays (L:List ST) (c:ST):∀ d e j,d<=e->e<=L.length->L.length - d<=j->(keepTo L c e).getD j false=(keepTo L c d).getD j false:=by
 intro d e j hde
 induction e with
 | zero =>
  intro _ _
  obtain rfl:d=0:=by omega
  rfl
 | succ e ih =>
  intro he hj
  by_cases h:d=e+1
  ·rw [h]
  ·have:=ih (by omega) (by omega) hj
   rw [<- this]
   conv=>lhs; unfold keepTo
   rw [getD_set,if_neg (by omega),getD_set,if_neg (by omega)]
def whyDoc (L:List ST) (c:ST):List Nat:=(List.range L.length).filter fun i=>(keepTo L c L.length).getD i false
theorem whyDoc_mem {L:List ST} {c:ST} {k:Nat}:k ∈ whyDoc L c ↔ k < L.length/\(keepTo L c L.length).getD k false=true:=by
 unfold whyDoc
 simp
theorem whyDoc_is {L:List ST} {c:ST} (hL:∀ s ∈ L,STOK s) (hc:STOK c):WhyIs c L (whyDoc L c):=by
 refine ⟨List.pairwise_lt_range.filter _,fun k hk=>(whyDoc_mem.1 hk).1,fun k hk=>?_⟩
 obtain ⟨d,hd⟩:∃ d,d+k+1=L.length:=⟨L.length - k - 1,by omega⟩
 have hi:L.length - 1 - d=k:=by omega
 have hlen:=keepTo_length L c d
 have hok:∀ s ∈ pickTo ((keepTo L c d).set k false) L L.length++[c],STOK s:=fun s hs=>by
  simp only [List.mem_append,List.mem_singleton] at hs
  rcases hs with hs | rfl
  ·obtain ⟨j,_,_,e⟩:=pickTo_mem.1 hs
   exact hL s (List.mem_of_getElem? e)
  ·exact hc
 have hiff:=clashR_iff hok
 have hkd:∀ j,j < L.length->(((keepTo L c d).set k false).getD j false=true ↔ (j < k\/(k < j/\j ∈ whyDoc L c))):=fun j hj=>by
  rw [getD_set]
  by_cases e:k=j
  ·subst e
   rw [if_pos ⟨rfl,by omega⟩]
   simp
  ·rw [if_neg (fun h=>e h.1)]
   by_cases h1:j < k
   ·rw [keepTo_first L c d j (by omega) (by omega)]
    simp [h1]
   ·rw [whyDoc_mem,keepTo_stays L c d L.length j (by omega) (Nat.le_refl _) (by omega)]
    constructor
    ·exact fun h=>.inr ⟨by omega,hj,h⟩
    ·rintro (h | h)
     ·exact absurd h h1
     ·exact h.2.2
 have hon:ClashT (pickTo ((keepTo L c d).set k false) L L.length++[c]) ↔ ClashOn c L (fun j=>j < k\/(k < j/\j ∈ whyDoc L c)):=by
  refine clashOn_iff (fun s hs=>?_) (by simp) (fun j s hp e=>?_)
  ·simp only [List.mem_append,List.mem_singleton] at hs
   rcases hs with hs | rfl
   ·obtain ⟨j,hj,h1,e⟩:=pickTo_mem.1 hs
    exact .inr ⟨j,(hkd j hj).1 h1,e⟩
   ·exact .inl rfl
  ·have hj:=(List.getElem?_eq_some_iff.1 e).1
   exact List.mem_append.2 (.inl (pickTo_mem.2 ⟨j,hj,(hkd j hj).2 hp,e⟩))
 have hst:=keepTo_stays L c (d+1) L.length k (by omega) (Nat.le_refl _) (by omega)
 rw [whyDoc_mem,hst,<- hon,<- hiff]
 conv=>lhs; unfold keepTo
 rw [hi,getD_set,if_pos ⟨rfl,by simp [hlen]; omega⟩]
 simp [hk]
def whyRB (L:List ST) (s:ByteArray):List Nat × Int × Int :=
 match (refRead s).1 with
 | none=>([],(refRead s).2.1,(refRead s).2.2)
 | some x=>if clashR (L++[contraT x]) then (whyDoc L (contraT x),0,0) else ([],5,0)
def boolsOf (k:List Bool):List Value:=k.map Value.bool
theorem ownsRow_setB {w:World} {base e g len cap n:Nat} {l:List Bool} {i:Nat} {v:Bool} (h:w.ownsRow base e 1 (.slice (some ⟨g,0,none⟩) len cap) n (boolsOf l)) :
  (w.setCell ⟨g,i,none⟩ (.bool v)).ownsRow base e 1 (.slice (some ⟨g,0,none⟩) len cap) n (boolsOf (l.set i v)):=by
 obtain ⟨hl,hr⟩:=h
 refine ⟨by simpa [boolsOf] using hl,?_⟩
 rcases hr with ⟨hv,_⟩ | ⟨g',cap',cur,hv,hb,hg,h1,h2,h3,htk⟩
 ·cases hv
 ·cases hv
  refine .inr ⟨g,cap,cur.setIfInBounds i (.bool v),rfl,hb,?_,h1,h2,by simpa using h3,?_⟩
  ·exact heap_setCell_same w g i cur e _ hg
  ·rw [Array.toList_setIfInBounds,List.take_set,htk]
   simp [boolsOf,List.map_set]
theorem falses_own (w:World) (base n:Nat) (hb:base<=w.heap.size) (hm:n<=maxLen):(w.alloc (.cells (madeCells #[.bool false] n) 4)).ownsRow base 4 1 (.slice (some ⟨w.heap.size,0,none⟩) n n) n (boolsOf (List.replicate n false)):=by
 refine ⟨by simp [boolsOf],.inr ⟨w.heap.size,n,madeCells #[.bool false] n,rfl,hb,heap_alloc_new w _,Nat.le_refl _,hm,by simp [size_madeCells],?_⟩⟩
 have e:(madeCells #[.bool false] n).toList=List.replicate n (.bool false):=by
  refine List.ext_getElem (by simp [madeCells]) fun k h1 h2=>?_
  simp [madeCells,Nat.mod_one]
 rw [e,Nat.mul_one]
 simp [boolsOf]
structure Keeps (w2 wr:World) (g n:Nat) (k:List Bool):Prop where
 row:wr.ownsRow w2.heap.size 4 1 (.slice (some ⟨g,0,none⟩) n n) n (boolsOf k)
 len:k.length=n
 upd:Upd [] w2 wr
theorem Keeps.at {w2 wr:World} {g n:Nat} {k:List Bool} (h:Keeps w2 wr g n k) {i:Nat} (hi:i < n):wr.cell? ⟨g,i,none⟩=some (.bool (k.getD i false)):=by
 rw [h.row.cellAt i (by omega),List.getD_eq_getElem?_getD]
 have:i < k.length:=by rw [h.len]; exact hi
 simp [boolsOf,List.getElem?_eq_getElem this]
theorem Keeps.free {w2 wr:World} {g n:Nat} {k:List Bool} (h:Keeps w2 wr g n k) (o:Nat):wr.frozen? ⟨g,o,none⟩=false:=row_free h.row o
theorem Keeps.set {w2 wr:World} {g n:Nat} {k:List Bool} (h:Keeps w2 wr g n k) (i:Nat) (b:Bool):Keeps w2 (wr.setCell ⟨g,i,none⟩ (.bool b)) g n (k.set i b) :=
 ⟨ownsRow_setB h.row,by simp [h.len],h.upd.setCell (.inr (own_geT h.row (k:=g) rfl)) _⟩
theorem Keeps.later {w2 wr w':World} {g n:Nat} {k:List Bool} (h:Keeps w2 wr g n k) (hu:Upd [] wr w'):Keeps w2 w' g n k:=⟨hu.ownsRow h.row (fun _ _=>by simp),h.len,h.upd.trans hu⟩
structure Picked (w5 wr:World) (v:Value) (L:List ST) (k:List Bool) (q:Nat) (cs:List Nat):Prop where
 row:wr.ownsRow w5.heap.size 117 1 v cs.length (ptrs cs)
 len:cs.length=(pickTo k L q).length
 kids:∀ (i c:Nat) (x:ST),cs[i]?=some c->(pickTo k L q)[i]?=some x->IsRS w5 (fun k=>k < w5.heap.size) x c
 upd:Upd [] w5 wr
theorem Picked.rs {w5 wr:World} {v:Value} {L:List ST} {k:List Bool} {q:Nat} {cs:List Nat} (h:Picked w5 wr v L k q cs):RSRow wr (fun k=>k < wr.heap.size) v (pickTo k L q) cs :=
 ⟨PRow.of_own h.row (fun _ hk=>ownsRow_lt h.row hk),h.len,fun i c x hc hx=>((h.kids i c x hc hx).later h.upd (fun _ _=>by simp)).mono fun _ _ hl=>hl⟩
theorem Picked.skip {w5 wr:World} {v:Value} {L:List ST} {k:List Bool} {q:Nat} {cs:List Nat} (h:Picked w5 wr v L k q cs) (hk:k.getD q false=false):Picked w5 wr v L k (q+1) cs:=by
 have e:pickTo k L (q+1)=pickTo k L q:=by rw [pickTo,hk]; simp
 exact ⟨h.row,by rw [e]; exact h.len,by rw [e]; exact h.kids,h.upd⟩
theorem Picked.take {w5 wr w1 w3:World} {v:Value} {L:List ST} {k:List Bool} {q c g cap:Nat} {cs:List Nat} {x:ST} (h:Picked w5 wr v L k q cs) (hk:k.getD q false=true) (hx:L[q]?=some x) (hc:IsRS w5 (fun k=>k < w5.heap.size) x c) (hu:Upd [] wr w1) (hg:w1.grownBy w3 v.ownBlock)
  (hown:w3.ownsRow w5.heap.size 117 1 (.slice (some ⟨g,0,none⟩) (cs.length+1) cap) (cs.length+1) (ptrs cs++[.pointer (some ⟨c,0,none⟩)])):Picked w5 w3 (.slice (some ⟨g,0,none⟩) (cs.length+1) cap) L k (q+1) (cs++[c]):=by
 have e:pickTo k L (q+1)=pickTo k L q++[x]:=by rw [pickTo,hk,hx]; simp
 have hs:=h.upd.size
 refine ⟨by simpa [ptrs] using hown,by rw [e]; simp [h.len],fun i c' x' hc' hx'=>?_,(h.upd.trans hu).trans' (Upd.of_grown hg) (fun k hk hl=>?_)⟩
 ·rw [e] at hx'
  by_cases hi:i < (pickTo k L q).length
  ·rw [List.getElem?_append_left (by rw [h.len]; exact hi)] at hc'
   rw [List.getElem?_append_left hi] at hx'
   exact h.kids i c' x' hc' hx'
  ·have hi2:i=(pickTo k L q).length:=by
    have:=(List.getElem?_eq_some_iff.1 hx').1
    simp at this
    omega
   subst hi2
   rw [<- h.len,List.getElem?_concat_length] at hc'
   rw [List.getElem?_concat_length] at hx'
   obtain rfl:=Option.some.inj hc'
   obtain rfl:=Option.some.inj hx'
   exact hc
 ·have:=own_geT h.row (show v.ownBlock=some k by simpa using hk)
  omega
theorem true_set (n j:Nat) (hj:j < n):(List.replicate j true++List.replicate (n - j) false).set j true=List.replicate (j+1) true++List.replicate (n - (j+1)) false:=by
 rw [List.set_append_right _ _ (by simp)]
 have e:n - j=(n - (j+1))+1:=by omega
 rw [e,List.replicate_succ,List.replicate_succ']
 simp
def numsTo (k:List Bool) (q:Nat):List Nat:=(List.range q).filter fun i=>k.getD i false
theorem numsTo_succ (k:List Bool) (q:Nat):numsTo k (q+1)=numsTo k q++(if k.getD q false then [q] else []):=by
 unfold numsTo
 rw [List.range_succ,List.filter_append]
 congr 1
 cases h:k.getD q false
 ·rw [if_neg (by simp),List.filter_cons_of_neg (by rw [h]; simp),List.filter_nil]
 ·rw [if_pos rfl,List.filter_cons_of_pos (by exact h),List.filter_nil]
theorem numsTo_len (k:List Bool) (q:Nat):(numsTo k q).length<=q:=by
 unfold numsTo
 have:=List.length_filter_le (fun i=>k.getD i false) (List.range q)
 simpa using this
theorem info_boolL:(Tryz.prog.info? 4).map (fun i=>(i.zero,i.size,i.bytes))=some (some (.bool false),1,1):=by kernel_rfl
theorem refWhy_any (s:ByteArray) (w:World) (rb:Nat) (Z:Nat->Prop) (L:List ST) (M:List Nat) (h:RBAt w rb Z L M) (hok:∀ x ∈ L,STOK x) (hsm:SmallL L) (hL:L.length<=40) :
  Calls Tryz.prog 70 #[.pointer (some ⟨rb,0,none⟩),.string s] w fun e w'=>∃ v,e=.returned (.tuple #[v,.int .i64 (whyRB L s).2.1,.int .i64 (whyRB L s).2.2])/\Upd [] w w'/\w'.ownsRow w.heap.size 3 1 v (whyRB L s).1.length (intsOf (whyRB L s).1):=by
 have HRd:=hide (refRead_any s w)
 obtain ⟨i0,hi,hz0,hz1,hz2⟩:=info_parts info_refSentP
 obtain ⟨j0,hj0,hy0,hy1,hy2⟩:=info_parts info_int
 cases hr:(refRead s).1 with
 | none =>
  obtain ⟨k,p,hkp⟩:∃ k p,refRead s=(none,k,p):=⟨(refRead s).2.1,(refRead s).2.2,by rw [<- hr]⟩
  have HF:Hid (whyRB L s=([],k,p)):=by show _=_; unfold whyRB; rw [hkp]
  have hne:(k != 0)=true:=by have:=refRead_err hr; rw [hkp] at this; exact this
  unfold RefReadDone at HRd
  rw [hkp] at HRd
  clear h hr hkp
  go_enter Tryz.func70,Tryz.ntmps70
  go_wp2_with (go_at_call 75; refine HRd.out.mono ?_; rintro e w2 ⟨hu2,rfl⟩; have Hu2:=hide hu2; clear hu2)
  go_ret3
  exact ⟨.slice none 0 0,by rw [HF.out]; rfl,Hu2.out,by rw [HF.out]; exact ⟨rfl,.inl ⟨rfl,rfl⟩⟩⟩
 | some x =>
  have hkp:=refRead_fine hr
  obtain ⟨hox,hsx⟩:=refRead_small hr
  unfold RefReadDone at HRd
  rw [hkp] at HRd
  obtain ⟨sv,cs,c0,hrow⟩:=h.said
  have hlt:=h.lt
  have HFo:=hide (fun (w2:World) (v:Value) (L':List ST) (cs':List Nat) (yb:Nat) (hr':RSRow w2 (fun k=>k < w2.heap.size) v L' cs') (hy:IsRS w2 (fun k=>k < w2.heap.size) x yb) (hm:∀ y ∈ L',y ∈ L) (hl:L'.length<=99)=>refFollows_any w2 L' v cs' x yb hr' hy (fun y hy=>hok y (hm y hy)) hox (fun y hy=>by have:=hsm y (hm y hy); omega) (by omega) hl)
  cases hf:clashR (L++[contraT x]) with
  | false =>
   have HF:Hid (whyRB L s=([],5,0)):=by show _=_; unfold whyRB; rw [hkp]; simp only [hf]; rfl
   have HC:=hide (fun (w2:World) (yb:Nat) (hu:Upd [] w w2) (hy:IsRS w2 (fun k=>w.heap.size<=k/\k < w2.heap.size) x yb)=>HFo.out w2 sv L cs yb ((hrow.later hu (fun _ _=>by simp)).mono fun k _ hl=>hl) (hy.mono fun k _ hl=>hl) (fun y hy=>hy) (by omega))
   rw [hf] at HC
   clear h hr hkp hrow HFo hf
   go_enter Tryz.func70,Tryz.ntmps70
   go_wp2_with (first
    | (go_at_call 75; refine HRd.out.mono ?_; rintro e w2 ⟨hu2,yb,rfl,hy⟩; have c2:=(hu2.cell (p:=⟨rb,0,none⟩) hlt (by simp)).trans c0; have HC2:=hide (HC.out w2 yb hu2 hy); have Hu2:=hide hu2; clear hu2 hy)
    | (go_at_call 104; refine HC2.out.mono ?_; rintro e w3 ⟨rfl,hu3⟩; have Hu3:=hide hu3; clear hu3))
   go_ret3
   exact ⟨.slice none 0 0,by rw [HF.out]; rfl,Hu2.out.trans Hu3.out,by rw [HF.out]; exact ⟨rfl,.inl ⟨rfl,rfl⟩⟩⟩
  | true =>
   have HF:Hid (whyRB L s=(whyDoc L (contraT x),0,0)):=by show _=_; unfold whyRB; rw [hkp]; simp only [hf]; rfl
   have HC:=hide (fun (w2:World) (yb:Nat) (hu:Upd [] w w2) (hy:IsRS w2 (fun k=>w.heap.size<=k/\k < w2.heap.size) x yb)=>HFo.out w2 sv L cs yb ((hrow.later hu (fun _ _=>by simp)).mono fun k _ hl=>hl) (hy.mono fun k _ hl=>hl) (fun y hy=>hy) (by omega))
   rw [hf] at HC
   have Hrow:=hide hrow
   obtain ⟨a,cap,hv,hc1,hc2,hform⟩:=hrow.row.form
   subst hv
   obtain ⟨n,hn⟩:∃ n,cs.length=n:=⟨_,rfl⟩
   have hnL:L.length=n:=by rw [<- hn,hrow.len]
   rw [hn] at hc1 hform c0 HC
   rw [hnL] at hL
   have Hform:=hide hform
   have Hn:=hide hn
   have HnL:=hide hnL
   have HC0:=hide c0
   unfold maxLen at hc2
   clear h hr hkp hrow hf hform hn hnL
   go_enter Tryz.func70,Tryz.ntmps70
   go_upto_region 7 with (first
    | (go_at_call 75; refine HRd.out.mono ?_; rintro e w2 ⟨hu2,yb,rfl,hy⟩; have c2:=(hu2.cell (p:=⟨rb,0,none⟩) hlt (by simp)).trans HC0.out; have HC2:=hide (HC.out w2 yb hu2 hy); have Hu2:=hide hu2; have Hy:=hide hy; clear hu2 hy)
    | (go_at_call 104; refine HC2.out.mono ?_; rintro e w3 ⟨rfl,hu3⟩; have Hu3:=hide hu3; clear hu3))
   have hUw3:=Hu2.out.trans Hu3.out
   have c3:=(hUw3.cell (p:=⟨rb,0,none⟩) hlt (by simp)).trans HC0.out
   have hrow3:RSRow w3 (fun k=>k < w3.heap.size) (.slice a n cap) L cs:=by
    have:=(Hrow.out.later hUw3 (fun _ _=>by simp)).mono (Z':=fun k=>k < w3.heap.size) fun k _ hl=>hl
    rw [Hn.out] at this
    exact this
   have hy3:IsRS w3 (fun k=>k < w3.heap.size) x yb:=(Hy.out.later Hu3.out (fun _ _=>by simp)).mono fun k _ hl=>hl
   have HR3:=hide hrow3
   have HY3:=hide hy3
   have HU3:=hide hUw3
   have hrl3:rb < w3.heap.size:=Nat.lt_of_lt_of_le hlt hUw3.size
   have Hc3:=hide c3
   clear c2 hrow3 hy3 hUw3 HC2 Hu2 Hu3 Hy HC HRd c0
   have hK0:Keeps w3 (w3.alloc (.cells (madeCells #[.bool false] n) 4)) w3.heap.size n (List.replicate n false):=⟨falses_own w3 _ n (Nat.le_refl _) (by unfold maxLen; omega),by simp,(Upd.refl [] w3).alloc _⟩
   have HK0:=hide hK0
   have hmk:=run_make_row' (P:=Tryz.prog) 176 4 (.bool false) 1 Tryz.underlying176 info_boolL rfl .i64 .i64 n (by omega) (by omega) w3
   clear hK0
   go_wp2
   clear hmk
   go_loopw [12] (fun i wr=>∃ j:Nat,j<=n/\i=.int .i64 j/\Hid (Keeps w3 wr w3.heap.size n (List.replicate j true++List.replicate (n - j) false))) (fun i _=>n - (intOf i).toNat)
   case atStart=>exact ⟨0,Nat.zero_le _,rfl,HK0.out⟩
   case round =>
    obtain ⟨j,hj,rfl,HJ⟩:=hrel
    clear HK0
    by_cases hjn:j < n
    ·have hjI:(j:Int) < (n:Int):=by omega
     have q0:=HJ.out.at hjn
     have qf:=HJ.out.free
     have HN:Hid ((List.replicate j true++List.replicate (n - j) false).set j true=List.replicate (j+1) true++List.replicate (n - (j+1)) false):=true_set n j hjn
     go_wp2
     refine ⟨⟨j+1,by omega,by simp,by rw [<- HN.out]; exact HJ.out.set j true⟩,?_⟩
     simp [intOf]
     omega
    ·have hjI:¬ (j:Int) < (n:Int):=by omega
     have hK1:Keeps w3 wr w3.heap.size n (keepTo L (contraT x) 0):=by
      have hk:=HJ.out
      obtain rfl:j=n:=by omega
      rw [Nat.sub_self,List.replicate_zero,List.append_nil] at hk
      unfold keepTo
      rw [HnL.out]
      exact hk
     have HK1:=hide hK1
     clear hK1 HJ
     go_wp2
     go_loopw [13] (fun i wr=>∃ d:Nat,d<=n/\i=.int .i64 ((n:Int) - 1 - (d:Int))/\Hid (Keeps w3 wr w3.heap.size n (keepTo L (contraT x) d))) (fun i _=>(intOf i+1).toNat)
     case atStart=>exact ⟨0,Nat.zero_le _,by simp,HK1.out⟩
     case round =>
      clear HK1
      obtain ⟨w4,hw4⟩:∃ w4,w4=wr:=⟨_,rfl⟩
      rw [<- hw4] at hrel ⊢
      clear hw4
      obtain ⟨d,hd,rfl,HD⟩:=hrel
      by_cases hdn:d < n
      ·obtain ⟨ii,hii⟩:∃ ii:Nat,ii+d+1=n:=⟨n - d - 1,by omega⟩
       have eii:(n:Int) - 1 - (d:Int)=(ii:Int):=by omega
       rw [eii]
       have hge:(0:Int)<=(ii:Int):=by omega
       have hiI:(ii:Int) < (n:Int):=by omega
       have q0:=HD.out.at (i:=ii) (by omega)
       have qf:=HD.out.free
       obtain ⟨K,hK⟩:∃ K,(keepTo L (contraT x) d).set ii false=K:=⟨_,rfl⟩
       have hKs:=HD.out.set ii false
       rw [hK] at hKs
       have HNx:Hid (keepTo L (contraT x) (d+1)=K.set ii (!clashR (pickTo K L n++[contraT x]))):=by
        show _=_
        have e:L.length - 1 - d=ii:=by rw [HnL.out]; omega
        conv=>lhs; unfold keepTo
        rw [e,hK,HnL.out]
       go_upto_region 16 with fail
       obtain ⟨w5,hw5⟩:∃ w5,w5=w4.setCell ⟨w3.heap.size,ii,none⟩ (.bool false):=⟨_,rfl⟩
       rw [<- hw5] at hKs
       rw [<- hw5]
       have HKs:=hide hKs
       have HR5:=hide (HR3.out.later hKs.upd (fun _ _=>by simp))
       have HY5:=hide (HY3.out.later hKs.upd (fun _ _=>by simp))
       have hs5:=hKs.upd.size
       clear hw5 hKs q0 qf HD hK
       go_wp2
       go_loopw [14,15] (fun lv k wr=>∃ (q:Nat) (cs':List Nat),q<=n/\k=.int .i64 q/\Hid (Picked w5 wr lv L K q cs')) (fun _ k _=>n - (intOf k).toNat)
       case atStart=>exact ⟨0,[],Nat.zero_le _,rfl,⟨rfl,.inl ⟨rfl,rfl⟩⟩,rfl,fun i c y hc=>by simp at hc,Upd.refl _ _⟩
       case round =>
        obtain ⟨w6,hw6⟩:∃ w6,w6=wr:=⟨_,rfl⟩
        rw [<- hw6] at hrel ⊢
        clear hw6
        obtain ⟨q,cs',hq,rfl,HQ⟩:=hrel
        have hpl:=pickTo_len K L q
        have hcl:cs'.length<=q:=by rw [HQ.out.len]; exact hpl
        by_cases hqn:q < n
        ·have hqI:(q:Int) < (n:Int):=by omega
         have z0:=(HQ.out.upd.cell (p:=⟨w3.heap.size,q,none⟩) (ownsRow_lt HKs.out.row rfl) (by simp)).trans (HKs.out.at hqn)
         cases hkq:K.getD q false with
         | false =>
          rw [hkq] at z0
          have HN:=hide (HQ.out.skip hkq)
          clear hkq hpl HQ
          go_wp2
          refine ⟨⟨q+1,cs',by omega,by simp,HN.out⟩,?_⟩
          simp [intOf]
          omega
         | true =>
          rw [hkq] at z0
          obtain ⟨y,hy⟩:∃ y,L[q]?=some y:=⟨_,List.getElem?_eq_getElem (by rw [HnL.out]; exact hqn)⟩
          obtain ⟨c,hc⟩:∃ c,cs[q]?=some c:=⟨_,List.getElem?_eq_getElem (by rw [Hn.out]; exact hqn)⟩
          obtain ⟨g,rfl,hg1,_,hg3⟩:=Hform.out (by omega)
          have hU6:=(HU3.out.trans HKs.out.upd).trans HQ.out.upd
          have z1:=(hU6.cell (p:=⟨rb,0,none⟩) hlt (by simp)).trans HC0.out
          have z2:=(hU6.cell (p:=⟨g,q,none⟩) hg1 (by simp)).trans (hg3 q c hc)
          have hyc:IsRS w5 (fun k=>k < w5.heap.size) y c:=(HR5.out.kids q c y hc hy).mono fun k _ hl=>hl
          have hrw:=((Upd.refl [] w6).alloc (.cells #[.pointer (some ⟨c,0,none⟩)] 117)).ownsRow HQ.out.row (fun _ _=>by simp)
          obtain ⟨m,hm⟩:∃ m,cs'.length=m:=⟨_,rfl⟩
          have Hfin:Hid (∀ g1 cp w7,(w6.alloc (.cells #[.pointer (some ⟨c,0,none⟩)] 117)).grownBy w7 u14.ownBlock->w7.ownsRow w5.heap.size 117 1 (.slice (some ⟨g1,0,none⟩) (m+1) cp) (m+1) (ptrs cs'++[.pointer (some ⟨c,0,none⟩)])->Picked w5 w7 (.slice (some ⟨g1,0,none⟩) (m+1) cp) L K (q+1) (cs'++[c])):=fun g1 cp w7 hg7 ho7=>by
           have:=HQ.out.take hkq hy hyc ((Upd.refl [] w6).alloc _) hg7 (by rw [hm]; exact ho7)
           rw [hm] at this
           exact this
          rw [hm] at hrw
          have Hrw:=hide hrw
          have Hnews:Hid (∀ j u,[Value.pointer (some ⟨c,0,none⟩)][j]?=some u->(w6.alloc (.cells #[.pointer (some ⟨c,0,none⟩)] 117)).cell? ((⟨w6.heap.size,0,none⟩:Addr).add j)=some u):=World.news_of_block (heap_alloc_new _ _)
          have hone:Hid (∀ u ∈ [Value.pointer (some ⟨c,0,none⟩)],u.oneCell'=true):=(fun u hu'=>by simp at hu'; subst hu'; rfl)
          have hlm:m+1<=maxLen:=by unfold maxLen; omega
          have hlb:(m+1) * 8<=140737488355328:=by omega
          have hb6:=HQ.out.upd.size
          clear hkq hpl hy hc hg3 hg1 hU6 hyc hrw hm HQ
          go_wp2_with (at_builtin; go_must (refine wpList_append_lies _ rfl _ _ 92 rfl w5.heap.size 117 i0 (.pointer none) 1 8 Tryz.underlying92 hi hz0 hz1 hz2 rfl (by decide) _ _ _ rfl Hrw.out ⟨w6.heap.size,0,none⟩ 1 1 [.pointer (some ⟨c,0,none⟩)] rfl rfl Hnews.out hone.out (by decide) hlm hlb (by simp; omega) _ rfl ?_); intro g7 cap7 w7 hown7 hgrow7 hat7 hlt7)
          refine ⟨⟨q+1,cs'++[c],by omega,by simp,Hfin.out g7 cap7 w7 hgrow7 hown7⟩,?_⟩
          simp [intOf]
          omega
        ·have hqI:¬ (q:Int) < (n:Int):=by omega
         have hqe:q=n:=by omega
         rw [hqe] at HQ hpl
         have hK6:=HKs.out.later HQ.out.upd
         have HCf:=hide (HFo.out w6 u14 (pickTo K L n) cs' yb HQ.out.rs ((HY5.out.later HQ.out.upd (fun _ _=>by simp)).mono fun k _ hl=>hl) (fun y hy=>by obtain ⟨j,_,_,e⟩:=pickTo_mem.1 hy; exact List.mem_of_getElem? e) (by omega))
         obtain ⟨fb,hfb⟩:∃ fb,clashR (pickTo K L n++[contraT x])=fb:=⟨_,rfl⟩
         rw [hfb] at HCf HNx
         have HK6:=hide hK6
         clear hqe hK6 hpl hfb HQ
         go_wp2_with (go_at_call 104; refine HCf.out.mono ?_; rintro e w7 ⟨rfl,hu7⟩; have HK7:=hide (HK6.out.later hu7); have r0:=HK7.out.at (i:=ii) (by omega); have rf:=HK7.out.free; clear hu7)
         refine ⟨⟨d+1,by omega,by simp; omega,by rw [HNx.out]; exact HK7.out.set ii (!fb)⟩,?_⟩
         simp [intOf]
      ·have hneg:¬ (0:Int)<=(n:Int) - 1 - (d:Int):=by omega
       have hde:d=n:=by omega
       obtain ⟨K,hK⟩:∃ K,keepTo L (contraT x) n=K:=⟨_,rfl⟩
       rw [hde,hK] at HD
       have HW:Hid (whyDoc L (contraT x)=numsTo K n):=by show _=_; unfold whyDoc numsTo; rw [HnL.out,hK]
       have hs4:=HD.out.upd.size
       clear hde hK hdn
       go_wp2
       go_loopw [16,17] (fun ov k wr=>∃ q:Nat,q<=n/\k=.int .i64 q/\Hid (Upd [] w4 wr/\wr.ownsRow w4.heap.size 3 1 ov (numsTo K q).length (intsOf (numsTo K q)))) (fun _ k _=>n - (intOf k).toNat)
       case atStart=>exact ⟨0,Nat.zero_le _,rfl,Upd.refl _ _,⟨rfl,.inl ⟨rfl,rfl⟩⟩⟩
       case round =>
        obtain ⟨w6,hw6⟩:∃ w6,w6=wr:=⟨_,rfl⟩
        rw [<- hw6] at hrel ⊢
        clear hw6
        obtain ⟨q,hq,rfl,HQ⟩:=hrel
        obtain ⟨hU6,hO6⟩:=HQ.out
        have hnl:=numsTo_len K q
        by_cases hqn:q < n
        ·have hqI:(q:Int) < (n:Int):=by omega
         have z0:=(hU6.cell (p:=⟨w3.heap.size,q,none⟩) (ownsRow_lt HD.out.row rfl) (by simp)).trans (HD.out.at hqn)
         have hsu:=numsTo_succ K q
         cases hkq:K.getD q false with
         | false =>
          rw [hkq] at z0 hsu
          simp only [Bool.false_eq_true,if_false,List.append_nil] at hsu
          have HN:Hid (Upd [] w4 w6/\w6.ownsRow w4.heap.size 3 1 u16 (numsTo K (q+1)).length (intsOf (numsTo K (q+1)))):=by show _/\_; rw [hsu]; exact ⟨hU6,hO6⟩
          clear hkq hsu hU6 hO6 hnl HQ
          go_wp2
          refine ⟨⟨q+1,by omega,by simp,HN.out⟩,?_⟩
          simp [intOf]
          omega
         | true =>
          rw [hkq] at z0 hsu
          simp only [if_true] at hsu
          have hrw:=((Upd.refl [] w6).alloc (.cells #[.int .i64 q] 3)).ownsRow hO6 (fun _ _=>by simp)
          obtain ⟨m,hm⟩:∃ m,(numsTo K q).length=m:=⟨_,rfl⟩
          have Hfin:Hid (∀ g1 cp w7,(w6.alloc (.cells #[.int .i64 q] 3)).grownBy w7 u16.ownBlock->w7.ownsRow w4.heap.size 3 1 (.slice (some ⟨g1,0,none⟩) (m+1) cp) (m+1) (intsOf (numsTo K q)++[.int .i64 q])->Upd [] w4 w7/\w7.ownsRow w4.heap.size 3 1 (.slice (some ⟨g1,0,none⟩) (m+1) cp) (numsTo K (q+1)).length (intsOf (numsTo K (q+1)))):=fun g1 cp w7 hg7 ho7=>by
           refine ⟨(hU6.alloc _).trans' (Upd.of_grown hg7) (fun k hk hl=>?_),?_⟩
           ·have:=own_geT hO6 (show u16.ownBlock=some k by simpa using hk)
            omega
           ·rw [hsu,List.length_append,hm]
            simpa [intsOf] using ho7
          rw [hm] at hrw
          have Hrw:=hide hrw
          have Hnews:Hid (∀ j u,[Value.int .i64 q][j]?=some u->(w6.alloc (.cells #[.int .i64 q] 3)).cell? ((⟨w6.heap.size,0,none⟩:Addr).add j)=some u):=World.news_of_block (heap_alloc_new _ _)
          have hone:Hid (∀ u ∈ [Value.int .i64 q],u.oneCell'=true):=(fun u hu'=>by simp at hu'; subst hu'; rfl)
          have hlm:m+1<=maxLen:=by unfold maxLen; omega
          have hlb:(m+1) * 8<=140737488355328:=by omega
          have hb6:=hU6.size
          clear hkq hsu hU6 hO6 hnl hrw hm HQ
          go_wp2_with (at_builtin; go_must (refine wpList_append_lies _ rfl _ _ 44 rfl w4.heap.size 3 j0 (.int .i64 0) 1 8 Tryz.underlying44 hj0 hy0 hy1 hy2 rfl (by decide) _ _ _ rfl Hrw.out ⟨w6.heap.size,0,none⟩ 1 1 [.int .i64 q] rfl rfl Hnews.out hone.out (by decide) hlm hlb (by simp; omega) _ rfl ?_); intro g7 cap7 w7 hown7 hgrow7 hat7 hlt7)
          refine ⟨⟨q+1,by omega,by simp,Hfin.out g7 cap7 w7 hgrow7 hown7⟩,?_⟩
          simp [intOf]
          omega
        ·have hqI:¬ (q:Int) < (n:Int):=by omega
         have hqe:q=n:=by omega
         rw [hqe] at hO6
         have HU6:=hide hU6
         have HO6:=hide hO6
         clear hqe hU6 hO6 hnl HQ
         go_wp2
         go_ret3
         have hU:=(HU3.out.trans HD.out.upd).trans HU6.out
         have h03:=HU3.out.size
         refine ⟨_,by rw [HF.out]; rfl,hU,?_⟩
         rw [HF.out]
         show w6.ownsRow _ _ _ _ _ _
         rw [HW.out]
         exact ownsRow_base HO6.out fun k hk=>by have:=own_geT HO6.out hk; omega
end Go.Proofs.YtmfkpllnmmfpiaaGreatDoor
