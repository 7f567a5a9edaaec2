/- RowCompWalk, RowWorld, AllOwn3 -/
import Derived.Test.YtmfkpllnmmfpiaaGreatDoorRowCompA
import Derived.Test.YtmfkpllnmmfpiaaGreatDoorJoinHeapA
import Derived.Test.YtmfkpllnmmfpiaaGreatDoorAllOwn2A
set_option maxHeartbeats 16000000
set_option maxRecDepth 100000
namespace Go.Proofs.YtmfkpllnmmfpiaaGreatDoor
open Go.RowKit Go.Shelf Go.Sort
theorem wrap_pred {j jm:Nat} (h:j=jm+1) (hj:j<=1000):IntKind.i64.wrap ((j:Int) - 1)=(jm:Int):=by
 simp [IntKind.wrap,IntKind.bits,IntKind.signed]
 omega
theorem compTo_take {ys:List RX}:∀ (j:Nat),j<=ys.length->(∀ i,i < j->keepsR ys i=true)->compTo ys j=ys.take j
 | 0,_,_=>rfl
 | j+1,hj,h=>by
  have hlt:j < ys.length:=by omega
  rw [compTo_keep (List.getElem?_eq_getElem hlt) (h j (by omega)),compTo_take j (by omega) (fun i hi=>h i (by omega)),List.take_succ_eq_append_getElem hlt]
theorem compTo_length_le (ys:List RX):∀ j,(compTo ys j).length<=j
 | 0=>Nat.le_refl _
 | j+1=>by
  have:=compTo_length_le ys j
  rw [compTo,List.length_append]
  split
  ·cases ys[j]? <;> simp <;> omega
  ·simp; omega
theorem RowsAt.nth {w:World} {g:Nat} {xs:List RX} (h:RowsAt w g xs) {i:Nat} {x:RX} (hx:xs[i]?=some x) (o:Nat) (ho:o=i * 3):w.cell? ⟨g,o,none⟩=some (.string x.1.name)/\w.cell? ⟨g,o+1,none⟩=some x.2/\w.cell? ⟨g,o+2,none⟩=some (.int .i64 x.1.value):=by
 subst ho
 exact h.cell i x hx
structure Packing (w wr:World) (g:Nat) (ys:List RX) (j q k:Nat):Prop where
 len:(compTo ys (j+q)).length=k
 lt:k < j+q
 rows:RowsAt wr g (compTo ys (j+q)++ys.drop k)
 upd:Upd [g] w wr
 still:Stays g w wr
theorem Packing.start {w w3:World} {g j:Nat} {ys:List RX} (hj:j < ys.length) (hk:∀ i,i < j->keepsR ys i=true) (hd:keepsR ys j=false) (hA:RowsAt w3 g ys) (hU:Upd [] w w3) (hg:g < w.heap.size):Packing w w3 g ys j 1 j:=by
 have e:compTo ys (j+1)=ys.take j:=by rw [compTo_drop hd,compTo_take j (by omega) hk]
 refine ⟨?_,by omega,?_,hU.mono (fun _ h _=>by simp at h),Stays.upd hU hg (by simp)⟩
 ·rw [e]; simp; omega
 ·rw [e,List.take_append_drop]; exact hA
theorem Packing.get {w wr:World} {g j q k i:Nat} {ys:List RX} {x:RX} (h:Packing w wr g ys j q k) (hi:k<=i) (hx:ys[i]?=some x):(compTo ys (j+q)++ys.drop k)[i]?=some x:=by
 rw [List.getElem?_append_right (by rw [h.len]; exact hi),h.len,List.getElem?_drop]
 rw [show k+(i - k)=i by omega]
 exact hx
theorem Packing.size {w wr:World} {g j q k:Nat} {ys:List RX} (h:Packing w wr g ys j q k) (hn:j+q<=ys.length):(compTo ys (j+q)++ys.drop k).length=ys.length:=by
 have:=h.len
 have:=h.lt
 simp
 omega
theorem Packing.later {w wr wr':World} {g j q k:Nat} {ys:List RX} (h:Packing w wr g ys j q k) (hu:Upd [] wr wr'):Packing w wr' g ys j q k :=
 ⟨h.len,h.lt,h.rows.later hu,h.upd.trans' hu (fun _ hx _=>by simp at hx),h.still.trans (Stays.upd hu h.rows.lt (by simp))⟩
theorem Packing.skip {w wr:World} {g j q k:Nat} {ys:List RX} (h:Packing w wr g ys j q k) (hd:keepsR ys (j+q)=false):Packing w wr g ys j (q+1) k:=by
 have e:compTo ys (j+(q+1))=compTo ys (j+q):=compTo_drop hd
 have:=h.lt
 exact ⟨by rw [e]; exact h.len,by omega,by rw [e]; exact h.rows,h.upd,h.still⟩
theorem Packing.keep {w wr:World} {g j q k:Nat} {ys:List RX} {y:RX} (h:Packing w wr g ys j q k) (hy:ys[j+q]?=some y) (hd:keepsR ys (j+q)=true):Packing w (((wr.setCell ⟨g,k * 3,none⟩ (.string y.1.name)).setCell ⟨g,k * 3+1,none⟩ y.2).setCell ⟨g,k * 3+2,none⟩ (.int .i64 y.1.value)) g ys j (q+1) (k+1):=by
 have e:compTo ys (j+(q+1))=compTo ys (j+q)++[y]:=compTo_keep hy hd
 have hl:=h.len
 have hlt:=h.lt
 have hjl:=(List.getElem?_eq_some_iff.1 hy).1
 have hr:=h.rows.set (k:=k) (x:=y) (by rw [h.size (by omega)]; omega)
 have e2:(compTo ys (j+q)++ys.drop k).set k y=compTo ys (j+q)++[y]++ys.drop (k+1):=by
  rw [List.set_append,if_neg (by omega),hl,Nat.sub_self,List.drop_eq_getElem_cons (show k < ys.length by omega),List.set_cons_zero,List.append_assoc]
  rfl
 rw [e2] at hr
 refine ⟨by rw [e]; simp; omega,by omega,by rw [e]; exact hr,((h.upd.setCell (by simp) _).setCell (by simp) _).setCell (by simp) _,((h.still.set _ _).set _ _).set _ _⟩
theorem Packing.clear {w wr:World} {g j q k n:Nat} {ys:List RX} (h:Packing w wr g ys j q k) (hn:j+q=n) (vs:List Value):RowsAt (wr.setCells g (k * 3) vs) g (compTo ys n)/\Upd [g] w (wr.setCells g (k * 3) vs)/\Stays g w (wr.setCells g (k * 3) vs):=by
 subst hn
 have hl:=h.len
 refine ⟨⟨Nat.lt_of_lt_of_le h.rows.lt (setCells_upd g vs _ wr).size,fun i x hx=>?_,fun o ho=>?_⟩,h.upd.trans (setCells_upd g vs _ wr),Stays.sets _ _ _ _ h.still⟩
 ·have hi:=(List.getElem?_eq_some_iff.1 hx).1
  obtain ⟨c0,c1,c2⟩:=h.rows.cell i x (by rw [List.getElem?_append_left hi]; exact hx)
  refine ⟨?_,?_,?_⟩
  ·rw [World.cell?_setCells_out g _ _ _ _ (fun _ _=>.inl (by show i * 3 < k * 3; omega))]; exact c0
  ·rw [World.cell?_setCells_out g _ _ _ _ (fun _ _=>.inl (by show i * 3+1 < k * 3; omega))]; exact c1
  ·rw [World.cell?_setCells_out g _ _ _ _ (fun _ _=>.inl (by show i * 3+2 < k * 3; omega))]; exact c2
 ·rw [World.frozen?_setCells]
  exact h.rows.free o (by rw [List.length_append]; omega)
theorem compact_any (w:World) (g cap n:Nat) (ys:List RX) (hA:RowsAt w g ys) (hn:ys.length=n) (hle:n<=1000) (hcap:n<=cap) (hmax:cap<=maxLen) (hI:∀ x ∈ ys,IntsAt w x.2 x.1.args/\x.2.ownBlock ≠ some g) :
  Calls Tryz.prog 86 #[.slice (some ⟨g,0,none⟩) n cap,.func (.func 87) #[] #[]] w fun e w'=>e=.returned (.slice (some ⟨g,0,none⟩) (compTo ys n).length cap)/\RowsAt w' g (compTo ys n)/\Upd [g] w w'/\Stays g w w':=by
 have HI:=hide hI
 have HA:=hide hA
 have Hn:=hide hn
 obtain ⟨k0,hk0⟩:∃ k0,(compTo ys n).length=k0:=⟨_,rfl⟩
 rw [hk0]
 have HK0:=hide hk0
 have hglt:=hA.lt
 unfold maxLen at hmax
 clear hI hA hn hk0
 by_cases h2:n < 2
 ·have h2I:(n:Int) < 2:=by omega
  have HE:Hid (compTo ys n=ys):=by
   show _=_
   have hl:=Hn.out
   rw [compTo_take n (by omega) (fun i hi=>by obtain rfl:i=0:=(by omega); rfl),List.take_of_length_le (by omega)]
  have HKn:Hid (k0=n):=by show _=_; rw [<- HK0.out,HE.out]; exact Hn.out
  rw [HE.out,HKn.out]
  go_enter Tryz.func86,Tryz.ntmps86
  go_wp2
  go_ret
  exact ⟨rfl,HA.out,Upd.refl _ _,Stays.refl _ _⟩
 ·have h2I:¬ (n:Int) < 2:=by omega
  go_enter Tryz.func86,Tryz.ntmps86
  go_wp2
  go_loopw [5] (fun i wr=>∃ j:Nat,1<=j/\j<=n/\i=.int .i64 j/\Hid (Upd [] w wr)/\Hid (∀ i,i < j->keepsR ys i=true)) (fun i _=>n - (intOf i).toNat)
  case atStart=>exact ⟨1,Nat.le_refl _,by omega,rfl,Upd.refl _ _,fun i hi=>by obtain rfl:i=0:=(by omega); rfl⟩
  case round =>
   obtain ⟨j,hj1,hjn,rfl,HU,HJ⟩:=hrel
   by_cases hlt:j < n
   ·have hltI:(j:Int) < (n:Int):=by omega
    obtain ⟨jm,hjm⟩:∃ jm,j=jm+1:=⟨j - 1,by omega⟩
    have hjmI:(0:Int)<=(jm:Int):=by omega
    have hjmn:(jm:Int) < (n:Int):=by omega
    have hw1:IntKind.i64.wrap ((j:Int) - 1)=(jm:Int):=wrap_pred hjm (by omega)
    have Hjm:=hide hjm
    obtain ⟨y,hy⟩:∃ y,ys[j]?=some y:=⟨_,List.getElem?_eq_getElem (by rw [Hn.out]; exact hlt)⟩
    obtain ⟨p,hp⟩:∃ p,ys[jm]?=some p:=⟨_,List.getElem?_eq_getElem (by rw [Hn.out]; omega)⟩
    have HR:=hide (HA.out.later HU.out)
    obtain ⟨k0,k1,k2⟩:=HR.out.cell j y hy
    obtain ⟨l0,l1,l2⟩:=HR.out.cell jm p hp
    have hIy:=HI.out y (List.mem_of_getElem? hy)
    have hIp:=HI.out p (List.mem_of_getElem? hp)
    have HC:=hide (fun (W:World) (hW:Upd [] w W)=>eqRow_any y.1 p.1 y.2 p.2 W (hIy.1.later hW (fun _ _=>by simp)) (hIp.1.later hW (fun _ _=>by simp)))
    have HC1:=hide (HC.out wr.drew HU.out.drew)
    obtain ⟨ay,ly,cy,hvy⟩:∃ a l c,y.2=.slice a l c:=by obtain ⟨a,c,e,_⟩:=hIy.1; exact ⟨a,_,c,e⟩
    obtain ⟨ap,lp,cp,hvp⟩:∃ a l c,p.2=.slice a l c:=by obtain ⟨a,c,e,_⟩:=hIp.1; exact ⟨a,_,c,e⟩
    have Hkeep:Hid (keepsR ys j=decide (cmpRow y.1 p.1 ≠ 0)):=by show _=_; rw [Hjm.out]; exact keepsR_is (by rw [<- Hjm.out]; exact hy) hp
    rw [hvy] at k1 HC1
    rw [hvp] at l1 HC1
    obtain ⟨b,hb⟩:∃ b,decide (cmpRow y.1 p.1=0)=b:=⟨_,rfl⟩
    rw [hb] at HC1
    have Hy:=hide hy
    have Hp:=hide hp
    have Hvy:=hide hvy
    have Hvp:=hide hvp
    have Hb:=hide hb
    clear hjm hy hp HC hIy hIp hvy hvp hb
    go_upto_region 6 with (fail)
    go_region_held3 (fun w'=>w'.cell? ⟨g,j * 3,none⟩=some (.string y.1.name)/\w'.cell? ⟨g,j * 3+1,none⟩=some (.slice ay ly cy)/\w'.cell? ⟨g,j * 3+2,none⟩=some (.int .i64 y.1.value)/\w'.cell? ⟨g,jm * 3,none⟩=some (.string p.1.name)/\w'.cell? ⟨g,jm * 3+1,none⟩=some (.slice ap lp cp)/\w'.cell? ⟨g,jm * 3+2,none⟩=some (.int .i64 p.1.value)) ((first | go_keep | (refine ⟨?_,?_,?_,?_,?_,?_⟩ <;> go_simp)))
     ((go_at_call 87; refine HC1.out.mono ?_; rintro e w3 ⟨rfl,hu3⟩; have Hu3:=hide hu3; obtain ⟨m0,m1,m2⟩:=(HR.out.later ((Upd.refl [] wr).drew.trans hu3)).cell j y Hy.out; obtain ⟨o0,o1,o2⟩:=(HR.out.later ((Upd.refl [] wr).drew.trans hu3)).cell jm p Hp.out; rw [Hvy.out] at m1; rw [Hvp.out] at o1; clear hu3))
    have HU3:=hide ((HU.out.drew).trans Hu3.out)
    clear k0 k1 k2 l0 l1 l2 m0 m1 m2 o0 o1 o2 HC1 Hu3
    cases b with
    | false =>
     have HN:Hid (∀ i,i < j+1->keepsR ys i=true):=fun i hi=>by
      by_cases e:i < j
      ·exact HJ.out i e
      ·obtain rfl:i=j:=(by omega)
       rw [Hkeep.out]
       have:=of_decide_eq_false Hb.out
       simpa using this
     go_wp2
     exact ⟨⟨j+1,by omega,by omega,by go_num,HU3,HN⟩,by simp [intOf]; omega⟩
    | true =>
     have HD:Hid (keepsR ys j=false):=by
      show _=_
      rw [Hkeep.out]
      have:=of_decide_eq_true Hb.out
      simpa using this
     have HR3:=hide (HA.out.later HU3.out)
     have hcI:(j:Int) < (cap:Int):=by omega
     have hcI2:(n:Int)<=(cap:Int):=by omega
     have HP:=hide (Packing.start (by rw [Hn.out]; exact hlt) HJ.out HD.out HR3.out HU3.out hglt)
     obtain ⟨m,hm⟩:∃ m,n - j=m:=⟨_,rfl⟩
     obtain ⟨c2,hc2⟩:∃ c2,cap - j=c2:=⟨_,rfl⟩
     have Hm:=hide hm
     have hm1:m<=1000:=by omega
     have hm2:1<=m:=by omega
     clear hw1 HR HR3 HU HU3 HJ HD Hkeep Hy Hp Hvy Hvp Hb Hjm hjmI hjmn wr
     go_wp2
     clear hm hc2
     go_loopw [5,7] (fun i i2 wr=>∃ k q:Nat,1<=q/\q<=m/\i=.int .i64 k/\i2=.int .i64 q/\Hid (Packing w wr g ys j q k)) (fun _ i _=>m - (intOf i).toNat)
     case atStart=>exact ⟨j,1,Nat.le_refl _,hm2,rfl,rfl,HP⟩
     case round =>
      obtain ⟨k,q,hq1,hqm,rfl,rfl,HP1⟩:=hrel
      clear HP
      by_cases hqlt:q < m
      ·have hqI:(q:Int) < (m:Int):=by omega
       have hm':=Hm.out
       have hql:j+q < ys.length:=by rw [Hn.out]; omega
       obtain ⟨qm,hqm'⟩:∃ qm,q=qm+1:=⟨q - 1,by omega⟩
       have hw1:IntKind.i64.wrap ((q:Int) - 1)=(qm:Int):=wrap_pred hqm' (by omega)
       have hqmI:(0:Int)<=(qm:Int):=by omega
       have hqmn:(qm:Int) < (m:Int):=by omega
       have Hqm:=hide hqm'
       have hlt1:=HP1.out.lt
       obtain ⟨y1,hy⟩:∃ y,ys[j+q]?=some y:=⟨_,List.getElem?_eq_getElem hql⟩
       obtain ⟨p1,hp⟩:∃ p,ys[j+qm]?=some p:=⟨_,List.getElem?_eq_getElem (by omega)⟩
       obtain ⟨z1,hz⟩:∃ z,ys[k]?=some z:=⟨_,List.getElem?_eq_getElem (by omega)⟩
       have hzy:=HP1.out.get (by omega) hy
       have hzp:=HP1.out.get (by omega) hp
       have hzz:=HP1.out.get (Nat.le_refl _) hz
       obtain ⟨k0,k1,k2⟩:=HP1.out.rows.nth hzy (j * 3+q * 3) (by omega)
       obtain ⟨l0,l1,l2⟩:=HP1.out.rows.nth hzp (j * 3+qm * 3) (by omega)
       have hIy:=HI.out y1 (List.mem_of_getElem? hy)
       have hIp:=HI.out p1 (List.mem_of_getElem? hp)
       have hng:∀ x:RX,x.2.ownBlock ≠ some g->∀ k,x.2.ownBlock=some k->k ∉ [g]:=fun x hx k hk hm=>hx (hk.trans (by simp at hm; rw [hm]))
       have HC1:=hide (eqRow_any y1.1 p1.1 y1.2 p1.2 wr.drew (hIy.1.later HP1.out.upd.drew (hng y1 hIy.2)) (hIp.1.later HP1.out.upd.drew (hng p1 hIp.2)))
       obtain ⟨ay,ly,cy,hvy⟩:∃ a l c,y1.2=.slice a l c:=by obtain ⟨a,c,e,_⟩:=hIy.1; exact ⟨a,_,c,e⟩
       obtain ⟨ap,lp,cp,hvp⟩:∃ a l c,p1.2=.slice a l c:=by obtain ⟨a,c,e,_⟩:=hIp.1; exact ⟨a,_,c,e⟩
       have Hkeep:Hid (keepsR ys (j+q)=decide (cmpRow y1.1 p1.1 ≠ 0)):=by
        show _=_
        rw [Hqm.out]
        exact keepsR_is (j:=j+qm) (by rw [show j+qm+1=j+q by omega]; exact hy) hp
       rw [hvy] at k1 HC1
       rw [hvp] at l1 HC1
       obtain ⟨b,hb⟩:∃ b,decide (cmpRow y1.1 p1.1=0)=b:=⟨_,rfl⟩
       rw [hb] at HC1
       have Hb:=hide hb
       have HLK:=hide (fun (w4:World) (hu:Upd [] wr w4)=>And.intro ((HP1.out.later hu).rows.nth hzy (j * 3+q * 3) (by omega)) ((HP1.out.later hu).rows.nth hzp (j * 3+qm * 3) (by omega)))
       have HLz:=hide (fun (w4:World) (hu:Upd [] wr w4)=>(HP1.out.later hu).rows.cell k z1 hzz)
       have HLf:=hide (fun (w4:World) (hu:Upd [] wr w4) (o:Nat) (ho:o < ys.length * 3)=>(HP1.out.later hu).rows.free o (by rw [HP1.out.size (by omega)]; exact ho))
       have Hk3:Hid (k * 3+2 < ys.length * 3):=by show _ < _; omega
       have hkI:(k:Int) < (n:Int):=by have:=Hn.out; omega
       have Hvy:=hide hvy
       have Hvp:=hide hvp
       have Hy:=hide hy
       clear hy hp hz hzy hzp hzz hIy hIp hng hvy hvp hb hqm' hm' hql
       go_upto_region 11 with (fail)
       go_region_held3 (fun w'=>w'.cell? ⟨g,j * 3+q * 3,none⟩=some (.string y1.1.name)/\w'.cell? ⟨g,j * 3+q * 3+1,none⟩=some (.slice ay ly cy)/\w'.cell? ⟨g,j * 3+q * 3+2,none⟩=some (.int .i64 y1.1.value)/\w'.cell? ⟨g,j * 3+qm * 3,none⟩=some (.string p1.1.name)/\w'.cell? ⟨g,j * 3+qm * 3+1,none⟩=some (.slice ap lp cp)/\w'.cell? ⟨g,j * 3+qm * 3+2,none⟩=some (.int .i64 p1.1.value)) ((first | go_keep | (refine ⟨?_,?_,?_,?_,?_,?_⟩ <;> go_simp)))
        ((go_at_call 87; refine HC1.out.mono ?_; rintro e w4 ⟨rfl,hu4⟩; have Hu4:=hide ((Upd.refl [] wr).drew.trans hu4); obtain ⟨⟨m0,m1,m2⟩,o0,o1,o2⟩:=HLK.out w4 Hu4.out; rw [Hvy.out] at m1; rw [Hvp.out] at o1; clear hu4))
       have HP4:=hide (HP1.out.later Hu4.out)
       cases b with
       | false =>
        have HN:Hid (keepsR ys (j+q)=true):=by
         show _=_
         rw [Hkeep.out]
         have:=of_decide_eq_false Hb.out
         simpa using this
        obtain ⟨z0,z1',z2⟩:=HLz.out w4 Hu4.out
        have f0:=HLf.out w4 Hu4.out (k * 3) (by have:=Hk3.out; omega)
        have f1:=HLf.out w4 Hu4.out (k * 3+1) (by have:=Hk3.out; omega)
        have f2:=HLf.out w4 Hu4.out (k * 3+2) (by have:=Hk3.out; omega)
        have HK:=hide (HP4.out.keep Hy.out HN.out)
        rw [Hvy.out] at HK
        clear k0 k1 k2 l0 l1 l2 HC1 hw1 HLz HLf HLK
        go_wp2
        exact ⟨⟨k+1,q+1,by omega,by omega,by go_num,by go_num,HK⟩,by simp [intOf]; omega⟩
       | true =>
        have HN:Hid (keepsR ys (j+q)=false):=by
         show _=_
         rw [Hkeep.out]
         have:=of_decide_eq_true Hb.out
         simpa using this
        have HK:=hide (HP4.out.skip HN.out)
        clear k0 k1 k2 l0 l1 l2 HC1 hw1 HLz HLf HLK
        go_wp2
        exact ⟨⟨k,q+1,by omega,by omega,rfl,by go_num,HK⟩,by simp [intOf]; omega⟩
      ·have hqI:¬ (q:Int) < (m:Int):=by omega
       obtain rfl:q=m:=by omega
       have hm':=Hm.out
       have hlt1:=HP1.out.lt
       have hjq:j+q=n:=by omega
       have hk0:k=k0:=by rw [<- HP1.out.len,hjq]; exact HK0.out
       subst hk0
       have hkn:(k:Int) < (n:Int):=by omega
       have hkc:(k:Int) < (cap:Int):=by omega
       have hkne:cap ≠ k:=by omega
       have hsz:=HP1.out.size (by rw [Hn.out]; omega)
       obtain ⟨vs,hcl⟩:=run_clear_rows wr g (k * 3) (n - k) (cap - k) (by omega) (fun i hi=>by
        obtain ⟨z,hz⟩:∃ z,(compTo ys (j+q)++ys.drop k)[(k * 3+i) / 3]?=some z:=⟨_,List.getElem?_eq_getElem (by rw [hsz,Hn.out]; omega)⟩
        obtain ⟨c0,c1,c2⟩:=HP1.out.rows.cell _ z hz
        have h3:(k * 3+i) % 3 < 3:=Nat.mod_lt _ (by omega)
        match hr:(k * 3+i) % 3,h3 with
        | 0,_=>rw [show k * 3+i=(k * 3+i) / 3 * 3 by omega,c0]; rfl
        | 1,_=>rw [show k * 3+i=(k * 3+i) / 3 * 3+1 by omega,c1]; rfl
        | 2,_=>rw [show k * 3+i=(k * 3+i) / 3 * 3+2 by omega,c2]; rfl) (fun i hi=>HP1.out.rows.free _ (by rw [hsz,Hn.out]; omega))
       have HE:=hide (HP1.out.clear hjq vs)
       clear hsz hm' hjq
       go_wp2
       go_ret
       exact ⟨rfl,HE.out⟩
   ·have hltI:¬ (j:Int) < (n:Int):=by omega
    obtain rfl:j=n:=by omega
    have HE:Hid (compTo ys j=ys):=by
     show _=_
     have hl:=Hn.out
     rw [compTo_take j (by omega) HJ.out,List.take_of_length_le (by omega)]
    have HKn:Hid (k0=j):=by show _=_; rw [<- HK0.out,HE.out]; exact Hn.out
    go_wp2
    go_ret
    rw [HE.out,HKn.out]
    exact ⟨rfl,HA.out.later HU.out,HU.out.mono (fun _ h _=>by simp at h),Stays.upd HU.out hglt (by simp)⟩
theorem cmpRow_zero {x y:RowP}:cmpRow x y=0 ↔ keyR x=keyR y:=by rw [cmpRow_key]; exact lin_key.eq _ _
theorem cmpRow_swap {x y:RowP} (h:¬ cmpRow y x < 0):cmpRow x y < 0\/keyR x=keyR y:=by
 rw [cmpRow_key] at h ⊢
 rcases lin_key.tot (keyR x) (keyR y) with h1 | h1 | h1
 ·exact .inl h1
 ·exact .inr h1
 ·exact absurd h1 h
theorem compTo_mem {ys:List RX}:∀ {j:Nat} {x:RX},x ∈ compTo ys j->∃ i,i < j/\ys[i]?=some x
 | 0,x,h=>by simp [compTo] at h
 | j+1,x,h=>by
  rw [compTo,List.mem_append] at h
  rcases h with h | h
  ·obtain ⟨i,hi,he⟩:=compTo_mem h
   exact ⟨i,by omega,he⟩
  ·split at h
   ·exact ⟨j,by omega,by simpa using h⟩
   ·simp at h
theorem compTo_mono {ys:List RX} {x:RX}:∀ {j k:Nat},j<=k->x ∈ compTo ys j->x ∈ compTo ys k
 | j,0,h,hx=>by obtain rfl:j=0:=(by omega); exact hx
 | j,k+1,h,hx=>by
  by_cases e:j=k+1
  ·subst e; exact hx
  ·rw [compTo]
   exact List.mem_append_left _ (compTo_mono (by omega) hx)
theorem compTo_has {ys:List RX}:∀ (i:Nat) (y:RX),ys[i]?=some y->∃ x ∈ compTo ys (i+1),keyR x.1=keyR y.1
 | 0,y,h=>⟨y,by rw [compTo_keep h rfl]; simp,rfl⟩
 | i+1,y,h=>by
  have hl:=(List.getElem?_eq_some_iff.1 h).1
  obtain ⟨p,hp⟩:∃ p,ys[i]?=some p:=⟨_,List.getElem?_eq_getElem (by omega)⟩
  have hk:=keepsR_is h hp
  by_cases e:cmpRow y.1 p.1=0
  ·obtain ⟨x,hx,hxe⟩:=compTo_has i p hp
   exact ⟨x,compTo_mono (by omega) hx,hxe.trans (cmpRow_zero.1 e).symm⟩
  ·exact ⟨y,by rw [compTo_keep h (by rw [hk]; simpa using e)]; simp,rfl⟩
theorem compTo_strict {ys:List RX} (hs:ys.Pairwise (fun x y=>¬ cmpRow y.1 x.1 < 0)):∀ j,j<=ys.length->(compTo ys j).Pairwise (fun x y=>cmpRow x.1 y.1 < 0)
 | 0,_=>List.Pairwise.nil
 | j+1,hj=>by
  obtain ⟨y,hy⟩:∃ y,ys[j]?=some y:=⟨_,List.getElem?_eq_getElem (by omega)⟩
  have ih:=compTo_strict hs j (by omega)
  by_cases hk:keepsR ys j=true
  ·rw [compTo_keep hy hk,List.pairwise_append]
   refine ⟨ih,List.pairwise_singleton _ _,fun x hx z hz=>?_⟩
   simp only [List.mem_singleton] at hz
   subst hz
   obtain ⟨i,hi,hxi⟩:=compTo_mem hx
   have get:∀ (a b:Nat) (x y:RX),ys[a]?=some x->ys[b]?=some y->a < b->¬ cmpRow y.1 x.1 < 0:=fun a b x y ha hb hab=>by
    obtain ⟨la,ea⟩:=List.getElem?_eq_some_iff.1 ha
    obtain ⟨lb,eb⟩:=List.getElem?_eq_some_iff.1 hb
    have:=List.pairwise_iff_getElem.1 hs a b la lb hab
    rw [ea,eb] at this
    exact this
   match j,hi with
   | j+1,hi =>
    obtain ⟨p,hp⟩:∃ p,ys[j]?=some p:=⟨_,List.getElem?_eq_getElem (by omega)⟩
    rw [keepsR_is hy hp] at hk
    have hne:cmpRow z.1 p.1 ≠ 0:=by simpa using hk
    have hpz:cmpRow p.1 z.1 < 0:=by
     rcases cmpRow_swap (get j (j+1) p z hp hy (by omega)) with h | h
     ·exact h
     ·exact absurd (cmpRow_zero.2 h.symm) hne
    by_cases e:i=j
    ·subst e
     rw [hxi] at hp
     cases hp
     exact hpz
    ·rcases cmpRow_swap (get i j x p hxi hp (by omega)) with h | h
     ·rw [cmpRow_key] at *
      exact lin_key.tr _ _ _ h hpz
     ·rw [cmpRow_key] at *
      rw [h]
      exact hpz
  ·rw [compTo_drop (by simpa using hk)]
   exact ih
structure WorldIs (S:WS) (rs:List RowP):Prop where
 strict:rs.Pairwise (fun x y=>cmpRow x y < 0)
 sub:∀ r ∈ rs,r ∈ rowsTo S (placesOf S) S.shapes.length
 has:∀ r ∈ rowsTo S (placesOf S) S.shapes.length,∃ r' ∈ rs,keyR r'=keyR r
def ApartR (x y:RX):Prop:=∀ k,x.2.ownBlock=some k->y.2.ownBlock ≠ some k
theorem ApartR.symm {x y:RX} (h:ApartR x y):ApartR y x:=fun k h1 h2=>h k h2 h1
theorem compTo_sub {ys:List RX}:∀ j,j<=ys.length->(compTo ys j).Sublist (ys.take j)
 | 0,_=>by simp [compTo]
 | j+1,hj=>by
  have ih:=compTo_sub (ys:=ys) j (by omega)
  obtain ⟨y,hy⟩:∃ y,ys[j]?=some y:=⟨_,List.getElem?_eq_getElem (by omega)⟩
  have ht:ys.take (j+1)=ys.take j++[y]:=by rw [List.take_add_one,hy]; rfl
  rw [ht]
  by_cases hk:keepsR ys j=true
  ·rw [compTo_keep hy hk]
   exact ih.append (List.Sublist.refl _)
  ·rw [compTo_drop (by simpa using hk)]
   exact ih.trans (List.sublist_append_left _ _)
structure WorldAt (w w':World) (v:Value) (xs:List RX):Prop where
 sl:∃ g cap,v=.slice (some ⟨g,0,none⟩) xs.length cap/\xs.length<=cap/\cap<=maxLen/\w.heap.size<=g/\RowsAt w' g xs
 args:∀ x ∈ xs,IntsAt w' x.2 x.1.args
 own:∀ x ∈ xs,w'.ownsRow w.heap.size 3 1 x.2 x.1.args.length (intsOf x.1.args)
 apart:xs.Pairwise ApartR
 room:∀ g cap,v=.slice (some ⟨g,0,none⟩) xs.length cap->(∀ j,j < cap * 3->(w'.cell? ⟨g,j,none⟩).isSome=true/\w'.frozen? ⟨g,j,none⟩=false)/\∀ x ∈ xs,x.2.ownBlock ≠ some g
theorem WorldAt.later {w w1 w':World} {v:Value} {xs:List RX} (h:WorldAt w w1 v xs) (hu:Upd [] w1 w'):WorldAt w w' v xs:=by
 obtain ⟨g,cap,e1,e2,e3,e4,e5⟩:=h.sl
 refine ⟨⟨g,cap,e1,e2,e3,e4,e5.later hu⟩,fun x hx=>(h.args x hx).later hu (fun _ _=>by simp),fun x hx=>hu.ownsRow (h.own x hx) (fun _ _=>by simp),h.apart,fun g' cap' e'=>⟨fun j hj=>?_,(h.room g' cap' e').2⟩⟩
 obtain ⟨r1,r2⟩:=(h.room g' cap' e').1 j hj
 obtain ⟨u,hu'⟩:=Option.isSome_iff_exists.1 r1
 have hlt:=World.block_lt_of_cell? _ _ hu'
 exact ⟨by rw [hu.cell (p:=⟨g',j,none⟩) hlt (by simp)]; exact r1,(hu.frozen (p:=⟨g',j,none⟩) hlt (by simp)).trans r2⟩
theorem webWorldIs_any (w:World) (wb:Nat) (H:Hd) (Z:Nat->Prop) (S:WS) (h:WebAt w wb H Z S) (hB:Base S) (hZ:∀ k,Z k->k < w.heap.size) (hn:S.shapes.length<=1000) (hsm:∀ g j,(plainF S g j).length<=1000) :
  Calls Tryz.prog 46 #[.pointer (some ⟨wb,0,none⟩)] w fun e w'=>∃ v xs,e=.returned v/\Upd [] w w'/\WorldAt w w' v xs/\WorldIs S (xs.map (·.1)):=by
 have key:=webWorld_any w wb H Z S h hB hZ hn hsm
  (fun wr v w'=>∃ g cap ys,v=.slice (some ⟨g,0,none⟩) S.shapes.length cap/\S.shapes.length<=cap/\cap<=maxLen/\w.heap.size<=g/\Upd [] w wr/\ys.length=S.shapes.length/\(ys.map (·.1)).Perm (rowsTo S (placesOf S) S.shapes.length)/\ys.Pairwise (fun x y=>¬ cmpRow y.1 x.1 < 0)/\RowsAt w' g ys/\Upd [g] wr w'/\(∀ x ∈ ys,IntsAt w' x.2 x.1.args/\x.2.ownBlock ≠ some g)/\(∀ x ∈ ys,w'.ownsRow w.heap.size 3 1 x.2 x.1.args.length (intsOf x.1.args))/\ys.Pairwise ApartR/\∀ j,j < cap * 3->(w'.cell? ⟨g,j,none⟩).isSome=true/\w'.frozen? ⟨g,j,none⟩=false)
  (fun wr g cap hb=>?_)
  (fun _ v w'=>∃ xs,Upd [] w w'/\WorldAt w w' v xs/\WorldIs S (xs.map (·.1))) (fun wr w' v hr _=>?_)
 ·refine key.mono ?_
  rintro e w' ⟨v,wr,rfl,xs,h1,h2,h3⟩
  exact ⟨v,xs,rfl,h1,h2,h3⟩
 ·obtain ⟨w3,xs,hu,hR,hx⟩:=hb
  have hl:xs.length=S.shapes.length:=by have:=congrArg List.length hx; simpa [rowsTo] using this
  have hge:w3.heap.size<=g:=own_geT hR.row rfl
  rw [<- hl] at hR
  have hcap:S.shapes.length<=cap/\cap<=maxLen:=by
   rcases ownsRow_slice hR.row with ⟨h1,_⟩ | ⟨g',cap',h1,h2,h3⟩
   ·simp at h1
   ·cases h1
    exact ⟨by omega,h3⟩
  have hi:∀ x ∈ xs,IntsAt wr x.2 x.1.args/\x.2.ownBlock ≠ some g:=fun x hx=>by
   obtain ⟨i,hi⟩:=List.getElem?_of_mem hx
   exact ⟨intsAt_of (hR.args i x hi),fun e=>hR.out i x hi g e rfl⟩
  have hroom:∀ j,j < cap * 3->(wr.cell? ⟨g,j,none⟩).isSome=true/\wr.frozen? ⟨g,j,none⟩=false:=fun j hj=>by
   rcases hR.row.2 with ⟨e1,_⟩ | ⟨g',cap',cur,e1,_,e3,_,_,e6,_⟩
   ·cases e1
   ·cases e1
    refine ⟨by rw [cell_of_row wr g j cur _ (0,0) e3,Array.getElem?_eq_getElem (by omega)]; rfl,?_⟩
    unfold World.frozen?
    rw [e3]
    simp
  have ho:∀ x ∈ xs,wr.ownsRow w.heap.size 3 1 x.2 x.1.args.length (intsOf x.1.args):=fun x hx=>by
   obtain ⟨i,hi⟩:=List.getElem?_of_mem hx
   exact own_base (hR.args i x hi) hu.size
  have hap:xs.Pairwise ApartR:=List.pairwise_iff_getElem.2 fun i j h1 h2 hij k hk=>hR.sep i j _ _ (List.getElem?_eq_getElem h1) (List.getElem?_eq_getElem h2) (by omega) k hk
  rw [<- hl]
  refine (sortRows_any w3 wr g cap xs hR (by omega)).mono ?_
  rintro e w' ⟨rfl,ys,hp,hs,ha,hu',hst⟩
  refine ⟨rfl,g,cap,ys,rfl,by omega,hcap.2,Nat.le_trans hu.size hge,hu.trans hR.upd,hp.length_eq,?_,hs,ha,hu',fun x hx=>?_,fun x hx=>?_,(hp.pairwise_iff (fun h=>h.symm)).2 hap,fun j hj=>?_⟩
  ·rw [hl,<- hx]; exact hp.map _
  ·obtain ⟨h1,h2⟩:=hi x (hp.mem_iff.1 hx)
   exact ⟨h1.later hu' (fun k hk hm=>h2 (hk.trans (by simp at hm; rw [hm]))),h2⟩
  ·have hx':=hp.mem_iff.1 hx
   exact hu'.ownsRow (ho x hx') (fun k hk hm=>(hi x hx').2 (hk.trans (by simp at hm; rw [hm])))
  ·obtain ⟨h1,h2⟩:=hroom j hj
   exact ⟨(hst j).1 h1,by rw [(hst j).2]; exact h2⟩
 ·obtain ⟨g,cap,ys,rfl,hc1,hc2,hg,hu,hl,hp,hs,ha,hu',hi,ho,hap,hrm⟩:=hr
  refine (compact_any w' g cap S.shapes.length ys ha hl hn hc1 hc2 hi).mono ?_
  rintro e w2 ⟨rfl,hr2,hu2,hst⟩
  have hle:=compTo_length_le ys S.shapes.length
  have hgU:Upd [] w w2:=hu.trans' (hu'.trans hu2) (fun x hx hlt=>by simp at hx; omega)
  refine ⟨_,rfl,compTo ys S.shapes.length,hgU,⟨⟨g,cap,rfl,by omega,hc2,hg,hr2⟩,fun x hx=>?_,fun x hx=>?_,hap.sublist ((compTo_sub _ (by omega)).trans (List.take_sublist _ _)),fun g' cap' e'=>?_⟩,?_,fun r hr=>?_,fun r hr=>?_⟩
  ·obtain ⟨i,_,hxi⟩:=compTo_mem hx
   obtain ⟨h1,h2⟩:=hi x (List.mem_of_getElem? hxi)
   exact h1.later hu2 (fun k hk hm=>h2 (hk.trans (by simp at hm; rw [hm])))
  ·obtain ⟨i,_,hxi⟩:=compTo_mem hx
   have hm:=List.mem_of_getElem? hxi
   exact hu2.ownsRow (ho x hm) (fun k hk he=>(hi x hm).2 (hk.trans (by simp at he; rw [he])))
  ·cases e'
   refine ⟨fun j hj=>⟨(hst j).1 (hrm j hj).1,by rw [(hst j).2]; exact (hrm j hj).2⟩,fun x hx=>?_⟩
   obtain ⟨i,_,hxi⟩:=compTo_mem hx
   exact (hi x (List.mem_of_getElem? hxi)).2
  ·rw [List.pairwise_map]
   exact compTo_strict hs _ (by omega)
  ·obtain ⟨x,hx,rfl⟩:=List.mem_map.1 hr
   obtain ⟨i,_,hxi⟩:=compTo_mem hx
   exact hp.mem_iff.1 (List.mem_map_of_mem (List.mem_of_getElem? hxi))
  ·obtain ⟨y,hy,rfl⟩:=List.mem_map.1 (hp.mem_iff.2 hr)
   obtain ⟨i,hyi⟩:=List.getElem?_of_mem hy
   obtain ⟨x,hx,hxe⟩:=compTo_has i y hyi
   have hil:=(List.getElem?_eq_some_iff.1 hyi).1
   exact ⟨x.1,List.mem_map_of_mem (compTo_mono (by omega) hx),hxe⟩
theorem bookWorld_clash (w:World) (bb:Nat) (Z:Nat->Prop) (S:WS) (h:BookAt w bb Z S) (hc:clashM S=true) :
  Calls Tryz.prog 15 #[.pointer (some ⟨bb,0,none⟩)] w fun e w'=>e=.returned (.tuple #[.slice none 0 0,.int .i64 6])/\Upd [] w w':=by
 obtain ⟨wb,H,hc1,hw⟩:=h.ex
 have HCl:=hide (closed_made bb w h.self)
 have HC:=hide (webClash_any w wb H _ S hw h.fine.web.base.saidLt (by have:=h.saids; omega))
 rw [hc] at HC
 clear h hw hc
 go_enter Tryz.func15,Tryz.ntmps15
 go_wp2_with (first
  | (go_at_call 44; refine HCl.out.mono ?_; rintro e w2 ⟨rfl,hw2⟩; rw [hw2]; clear hw2 w2)
  | (go_at_call 45; refine HC.out.mono ?_; rintro e w3 ⟨rfl,hu3⟩; have Hu3:=hide hu3; clear hu3))
 go_ret2
 exact ⟨rfl,Hu3.out⟩
theorem bookWorld_any (w:World) (bb:Nat) (Z:Nat->Prop) (S:WS) (h:BookAt w bb Z S) (ht:TextOK S) (hc:clashM S=false) :
  Calls Tryz.prog 15 #[.pointer (some ⟨bb,0,none⟩)] w fun e w'=>∃ v xs,e=.returned (.tuple #[v,.int .i64 0])/\Upd [] w w'/\WorldAt w w' v xs/\WorldIs S (xs.map (·.1)):=by
 obtain ⟨wb,H,hc1,hw⟩:=h.ex
 have HCl:=hide (closed_made bb w h.self)
 have HC:=hide (webClash_any w wb H _ S hw h.fine.web.base.saidLt (by have:=h.saids; omega))
 rw [hc] at HC
 have HW:=hide (fun (w1:World) (hu:Upd [] w w1)=>webWorldIs_any w1 wb H _ S (hw.later hu (fun _ _=>by simp)) h.fine.web.base (fun k hk=>Nat.lt_of_lt_of_le (h.low k hk.1) hu.size) (by have:=h.terms; omega) ht.short)
 have hblt:=h.lt
 clear h hw hc
 go_enter Tryz.func15,Tryz.ntmps15
 go_wp2_with (first
  | (go_at_call 44; refine HCl.out.mono ?_; rintro e w2 ⟨rfl,hw2⟩; rw [hw2]; clear hw2 w2)
  | (go_at_call 45; refine HC.out.mono ?_; rintro e w3 ⟨rfl,hu3⟩; have k1:=(hu3.cell (p:=⟨bb,1,none⟩) hblt (by simp)).trans hc1; have HW3:=hide (HW.out w3 hu3); have Hu3:=hide hu3; clear hu3)
  | (go_at_call 46; refine HW3.out.mono ?_; rintro e w4 ⟨v4,xs4,rfl,hu4,ha4,hi4⟩; have Hu4:=hide hu4; have Ha4:=hide ha4; have Hi4:=hide hi4; clear hu4 ha4 hi4))
 go_ret2
 refine ⟨v4,xs4,rfl,Hu3.out.trans Hu4.out,⟨?_,Ha4.out.args,fun x hx=>own_base (Ha4.out.own x hx) Hu3.out.size,Ha4.out.apart,Ha4.out.room⟩,Hi4.out⟩
 obtain ⟨g,cap,e1,e2,e3,e4,e5⟩:=Ha4.out.sl
 exact ⟨g,cap,e1,e2,e3,Nat.le_trans Hu3.out.size e4,e5⟩
structure RowsOwn (w:World) (base:Nat) (ao:Option Addr) (g cap:Nat) (xs:List RX):Prop where
 le:xs.length<=cap
 hall:Hall w 3 ao g cap
 low:0 < cap->base<=g
 rows:0 < xs.length->RowsAt w g xs
 own:∀ x ∈ xs,w.ownsRow base 3 1 x.2 x.1.args.length (intsOf x.1.args)
 apart:xs.Pairwise ApartR
 out:0 < cap->∀ x ∈ xs,x.2.ownBlock ≠ some g
theorem src_three {w:World} {t e:TypeId} (ht:Tryz.prog.underlying t=some (.slice e)) (T:TypeId):Src Tryz.prog 3 t (.slice (some ⟨w.heap.size,0,none⟩) 1 1) 1 [.string ⟨#[]⟩,.slice none 0 0,.int .i64 0] (w.alloc (.cells #[.string ⟨#[]⟩,.slice none 0 0,.int .i64 0] T)) :=
 Src.ofSlice _ ht _ _ _ _ rfl (World.news_of_block (heap_alloc_new w (.cells #[.string ⟨#[]⟩,.slice none 0 0,.int .i64 0] T))) (fun u hu=>by
  simp only [List.mem_cons,List.not_mem_nil,or_false] at hu
  rcases hu with rfl | rfl | rfl <;> rfl)
theorem ownRows_any (w:World) (wb:Nat) (V:Nat->Value) (E:Nat->List Value) (base:Nat) (ao:Option Addr) (b cap:Nat) (xs:List RX) (h:Wrl w wb V E) (hb:∀ k,WrlB wb V k->k < base) (hL:RowsOwn w base ao b cap xs) (hln:xs.length<=1000) (hll:∀ x ∈ xs,x.1.args.length<=1000) (hE:∀ f,f < 5->(E f).length+10000<=100000000000) :
  Calls Tryz.prog 39 #[.pointer (some ⟨wb,0,none⟩),.slice ao xs.length cap] w fun e w'=>e=.returned (.tuple #[])/\TookAll w w' wb V E base:=by
 obtain ⟨i0,hi,hz0,hz1,hz2⟩:=info_parts info_apiRow
 obtain ⟨n,hn⟩:∃ n,xs.length=n:=⟨_,rfl⟩
 have hnc:=hL.le
 rw [hn] at hln hnc ⊢
 obtain ⟨rs,hrs⟩:∃ rs:List Value,xs.map (·.2)=rs:=⟨_,rfl⟩
 have hrl:rs.length=n:=by rw [<- hrs,List.length_map,hn]
 have hat:∀ (i:Nat) (r:Value),rs[i]?=some r->∃ x:RX,xs[i]?=some x/\x.2=r:=fun i r hr=>by
  rw [<- hrs,List.getElem?_map] at hr
  obtain ⟨x,hx,e⟩:=Option.map_eq_some_iff.1 hr
  exact ⟨x,hx,e⟩
 have hge:∀ (r:Value) (k:Nat),r ∈ rs->r.ownBlock=some k->base<=k/\k < w.heap.size:=fun r k hr hk=>by
  obtain ⟨i,hi⟩:=List.getElem?_of_mem hr
  obtain ⟨x,hx,rfl⟩:=hat i r hi
  have hs:=hL.own x (List.mem_of_getElem? hx)
  exact ⟨own_ge hs hk,ownsRow_lt hs hk⟩
 have hsep:∀ (i j:Nat) (r r':Value),rs[i]?=some r->rs[j]?=some r'->i ≠ j->∀ k,r.ownBlock=some k->r'.ownBlock ≠ some k:=fun i j r r' h1 h2 hne k hk hk'=>by
  obtain ⟨x,hx,rfl⟩:=hat i r h1
  obtain ⟨y,hy,rfl⟩:=hat j r' h2
  obtain ⟨li,ei⟩:=List.getElem?_eq_some_iff.1 hx
  obtain ⟨lj,ej⟩:=List.getElem?_eq_some_iff.1 hy
  rcases Nat.lt_or_gt_of_ne hne with hlt | hlt
  ·have:=List.pairwise_iff_getElem.1 hL.apart i j li lj hlt
   rw [ei,ej] at this
   exact this k hk hk'
  ·have:=List.pairwise_iff_getElem.1 hL.apart j i lj li hlt
   rw [ei,ej] at this
   exact this k hk' hk
 have hbge:0 < cap->base<=b/\b < w.heap.size:=fun h0=>⟨hL.low h0,hL.hall.lt h0⟩
 have hBge:∀ p,∀ g ∈ blocksTo rs p,base<=g/\g < w.heap.size:=fun p g hg=>by
  obtain ⟨i,r,_,hi,hr⟩:=blocksTo_mem hg
  exact hge r g (List.mem_of_getElem? hi) hr
 have hnotW:∀ k,base<=k->¬ WrlB wb V k:=fun k hk hw=>by have:=hb k hw; omega
 have hvB:0 < cap->∀ p,b ∉ blocksTo rs p:=fun h0 p hm=>by
  obtain ⟨i,r,_,hi,hr⟩:=blocksTo_mem hm
  obtain ⟨x,hx,rfl⟩:=hat i r hi
  exact hL.out h0 x (List.mem_of_getElem? hx) hr
 have hbL:0 < cap->∀ p wr V' E',Took w wr wb V V' E E' (blocksTo rs p)->∃ L,b ∉ L/\Upd L w wr:=fun h0 p wr V' E' hT=>by
  obtain ⟨L,hLm,hu⟩:=hT.upd
  refine ⟨L,fun hm=>?_,hu⟩
  rcases hLm b hm with e | e
  ·exact hnotW b (hbge h0).1 e
  ·exact hvB h0 p e
 have HAt:Hid (∀ p r wr V' E',rs[p]?=some r->Took w wr wb V V' E E' (blocksTo rs p)->wr.cell? ⟨b,p * 3+1,none⟩=some r/\(∃ l:List Nat,l.length<=1000/\wr.ownsRow base 3 1 r l.length (intsOf l))/\∀ k,r.ownBlock=some k->¬ WrlB wb V' k):=fun p r wr V' E' hr hT=>by
  have hpn:=(List.getElem?_eq_some_iff.1 hr).1
  obtain ⟨L2,hb2,hu2⟩:=hbL (by omega) p wr V' E' hT
  obtain ⟨L,hLm,hu⟩:=hT.upd
  obtain ⟨x,hx,rfl⟩:=hat p r hr
  have hxm:=List.mem_of_getElem? hx
  refine ⟨(hu2.cell (p:=⟨b,p * 3+1,none⟩) (hbge (by omega)).2 hb2).trans ((hL.rows (by omega)).cell p x hx).2.1,⟨_,hll x hxm,hu.ownsRow (hL.own x hxm) (fun k hk hm=>?_)⟩,fun k hk=>wrlB_moved hT.moved (hge _ k (List.mem_of_getElem? hr) hk).2 (hnotW k (hge _ k (List.mem_of_getElem? hr) hk).1)⟩
  rcases hLm k hm with e | e
  ·exact hnotW k (hge _ k (List.mem_of_getElem? hr) hk).1 e
  ·obtain ⟨i,r',hip,hi',hr'⟩:=blocksTo_mem e
   exact hsep i p r' _ hi' hr (by omega) k hr' hk
 have HAll:Hid (∀ wr V' E',Took w wr wb V V' E E' (blocksTo rs n)->Hall wr 3 ao b cap/\(0 < cap->¬ WrlB wb V' b)):=fun wr V' E' hT=>by
  refine ⟨?_,fun h0=>wrlB_moved hT.moved (hbge h0).2 (hnotW b (hbge h0).1)⟩
  by_cases h0:0 < cap
  ·obtain ⟨L2,hb2,hu2⟩:=hbL h0 n wr V' E' hT
   exact hL.hall.later hu2 (fun _=>hb2)
  ·obtain rfl:cap=0:=by omega
   exact ⟨hL.hall.max,fun h=>absurd h h0,fun h=>absurd h h0,fun j hj=>by simp at hj⟩
 have HOwn:Hid (∀ p r wr V' E',rs[p]?=some r->Took w wr wb V V' E E' (blocksTo rs p)->(E' 3).length=(E 3).length+5 * p->(∀ f,f ≠ 3->E' f=E f)->Calls Tryz.prog 37 #[.pointer (some ⟨wb,0,none⟩),r] wr fun e w2=>e=.returned (.tuple #[])/\∃ V'' E'',Took w w2 wb V V'' E E'' (blocksTo rs (p+1))/\(E'' 3).length=(E 3).length+5 * (p+1)/\∀ f,f ≠ 3->E'' f=E f):=fun p r wr V' E' hr hT h1 h2=>by
  have hpn:=(List.getElem?_eq_some_iff.1 hr).1
  obtain ⟨_,⟨l,hl,hs⟩,hno⟩:=HAt.out p r wr V' E' hr hT
  have hE1:=hE 3 (by omega)
  refine (ownInts_took wr wb V' E' r l.length base _ hT.wrl hs hno (by omega) (by omega)).mono fun e w2 ⟨he,V'',new,hnl,hT2⟩=>⟨he,V'',setW E' 3 (E' 3++new),?_,?_,fun f hf=>by rw [setW_other hf]; exact h2 f hf⟩
  ·rw [blocksTo_succ hr]
   refine hT.trans hT2 (fun g hg=>?_)
   have hg':r.ownBlock=some g:=by simpa using hg
   refine ⟨fun hm=>?_,(hge r g (List.mem_of_getElem? hr) hg').2⟩
   obtain ⟨i,r',hip,hi',hr'⟩:=blocksTo_mem hm
   exact hsep i p r' r hi' hr (by omega) g hr' hg'
  ·rw [setW_same,List.length_append,h1,hnl]
   omega
 have Hh:=hide h
 have HE:=hide hE
 obtain ⟨bL,hbLd⟩:∃ bL:List Nat,bL=if 0 < cap then [b] else []:=⟨_,rfl⟩
 have hbL1:0 < cap->b ∈ bL:=fun h0=>by rw [hbLd,if_pos h0]; simp
 have hbL2:∀ g ∈ bL,0 < cap/\g=b:=fun g hg=>by
  rw [hbLd] at hg
  by_cases h0:0 < cap
  ·rw [if_pos h0] at hg; exact ⟨h0,by simpa using hg⟩
  ·rw [if_neg h0] at hg; cases hg
 have hBv:∀ g ∈ bL,g ∉ blocksTo rs n/\g < w.heap.size:=fun g hg=>by
  obtain ⟨h0,rfl⟩:=hbL2 g hg
  exact ⟨hvB h0 n,(hbge h0).2⟩
 have HFin:Hid (∀ (W0:World) (V0:Nat->Value) (E0:Nat->List Value),Took w W0 wb V V0 E E0 (blocksTo rs n)->(E0 3).length=(E 3).length+5 * n->(∀ f,f ≠ 3->E0 f=E f)->∀ (w':World) (V':Nat->Value) (new:List Value),Owned 4 3 PR W0 w' wb V0 E0 bL V' new->TookAll w w' wb V E base):=fun W0 V0 E0 hT h1 h2 w' V' new hO=>by
  refine ⟨V',_,_,hT.trans (Owned.took (f:=4) (s:=3) (P:=PR) (by omega) (fun _ _ _ _ h=>h) hO) hBv,fun g hg=>?_,fun f hf=>?_,?_⟩
  ·rw [List.mem_append] at hg
   rcases hg with hg | hg
   ·exact hBge n g hg
   ·obtain ⟨h0,rfl⟩:=hbL2 g hg
    exact hbge h0
  ·by_cases e:f=4
   ·subst e
    rw [setW_same,List.length_append,hO.len,h2 4 (by omega)]
    omega
   ·rw [setW_other e]
    by_cases e1:f=3
    ·subst e1
     rw [h1]
     omega
    ·rw [h2 f e1]
     omega
  ·rw [setW_other (by omega)]
   exact h2 0 (by omega)
 have hcm:=hL.hall.max
 have Hadd:=hide hL.hall.addr
 unfold maxLen at hcm
 have Hrl:=hide hrl
 clear h hE hL hll hb hge hbge hBge hnotW hvB hBv hn hrl hat hsep hbL hbLd hbL2 hrs
 go_enter Tryz.func39,Tryz.ntmps39
 go_wp2_with fail
 go_loopw [4] (fun iv wr=>∃ (p:Nat) (V':Nat->Value) (E':Nat->List Value),p<=n/\iv=.int .i64 p/\Hid (Took w wr wb V V' E E' (blocksTo rs p))/\Hid ((E' 3).length=(E 3).length+5 * p/\∀ f,f ≠ 3->E' f=E f)) (fun iv _=>n - (intOf iv).toNat)
 case atStart=>exact ⟨0,V,E,Nat.zero_le _,rfl,Took.refl Hh.out,rfl,fun _ _=>rfl⟩
 case round =>
  obtain ⟨p,V0,E0,hp,rfl,HT,HL⟩:=hrel
  by_cases hpn:p < n
  ·have hpI:(p:Int) < (n:Int):=by omega
   obtain ⟨r,hr⟩:∃ r,rs[p]?=some r:=⟨_,List.getElem?_eq_getElem (by rw [Hrl.out]; exact hpn)⟩
   obtain ⟨c1,_,_⟩:=HAt.out p r wr V0 E0 hr HT.out
   have hao:=Hadd.out (by omega)
   subst hao
   have HO:=hide (HOwn.out p r wr V0 E0 hr HT.out HL.out.1 HL.out.2)
   clear hr
   go_wp2_with (go_at_call 37; refine HO.out.mono ?_; rintro e w2 ⟨rfl,V2,E2,hT2,hl1,hl2⟩; have HT2:=hide hT2; have HL1:=hide hl1; have HL2:=hide hl2; clear hT2 hl1 hl2)
   exact ⟨⟨p+1,V2,E2,by omega,by go_num,HT2.out,HL1.out,HL2.out⟩,by simp [intOf]; omega⟩
  ·have hpI:¬ (p:Int) < (n:Int):=by omega
   obtain rfl:p=n:=by omega
   obtain ⟨W0,hW0⟩:∃ W0,W0=wr:=⟨_,rfl⟩
   subst hW0
   obtain ⟨hH,q2⟩:=HAll.out W0 V0 E0 HT.out
   have hE0:(E0 4).length+10<=100000000000:=by
    rw [HL.out.2 4 (by omega)]
    have:=HE.out 4 (by omega)
    omega
   have HFin0:=hide (HFin.out W0 V0 E0 HT.out HL.out.1 HL.out.2)
   have HM:=hide (markRows_any W0 wb V0 E0 ao p cap b 0 HT.out.wrl (hH.may hnc q2) (by omega))
   have HSt:Hid (∀ w1,Marked2 W0 w1 wb 4 V0 E0 (.slice ao p cap) b 0 p 3 (PR (E0 4).length)->∃ V',OwnSt 4 3 PR W0 w1 wb V0 E0 bL p 0 V' ao b cap [.slice ao p cap]):=fun w1 hm=>OwnSt.start localR (by omega) hH hnc (fun h0=>⟨q2 h0,hbL1 h0⟩) hm
   clear q2 hH HT HL HFin HOwn HAt HAll HE Hh
   go_upto_region 5 with (go_at_call 74; refine HM.out.mono ?_; rintro e w1 ⟨rfl,hk1⟩; obtain ⟨V1,hS1⟩:=HSt.out w1 hk1; have HS1:=hide hS1; clear hk1 hS1)
   clear HM HSt
   go_wp2_with fail
   go_loopw [1,5] (fun lv kv wr=>∃ (q m:Nat) (V':Nat->Value) (ao':Option Addr) (b' cap':Nat) (new:List Value),q<=4/\kv=.int .i64 q/\lv=.slice ao' m cap'/\Hid (m=p+q)/\Hid (OwnSt 4 3 PR W0 wr wb V0 E0 bL p q V' ao' b' cap' new)) (fun _ kv _=>4 - (intOf kv).toNat)
   case atStart=>exact ⟨0,p,V1,ao,b,cap,_,by omega,rfl,rfl,rfl,HS1.out⟩
   case round =>
    obtain ⟨q,m,V',ao',b',cap',new,hq,rfl,rfl,Hm,HS⟩:=hrel
    by_cases hq4:q < 4
    ·have hqI:(q:Int) < 4:=by omega
     have hm:=Hm.out
     have hmc:m<=cap':=by have:=HS.out.le; omega
     have hmb:m<=1000000:=by omega
     have hcm:=HS.out.hall.max
     unfold maxLen at hcm
     have Hh3:=hide (HS.out.hall.later ((Upd.refl [] wr).alloc (.cells #[.string ⟨#[]⟩,.slice none 0 0,.int .i64 0] 88)) (fun _=>by simp))
     have Hsrc:=hide (src_three (w:=wr) Tryz.underlying46 88)
     have HMk:Hid (∀ (ao4:Option Addr) (b4 cap4:Nat) (w4:World),m+1<=cap4->Hall w4 3 ao4 b4 cap4->Painted (wr.alloc (.cells #[.string ⟨#[]⟩,.slice none 0 0,.int .i64 0] 88)) w4 b' (m * 3) 1 3 (fun _ _ _=>True)->((b4=b'/\0 < cap')\/(b4=(wr.alloc (.cells #[.string ⟨#[]⟩,.slice none 0 0,.int .i64 0] 88)).heap.size/\Upd [] (wr.alloc (.cells #[.string ⟨#[]⟩,.slice none 0 0,.int .i64 0] 88)) w4)) ->
       Calls Tryz.prog 74 #[.pointer (some ⟨wb,0,none⟩),.slice (some ⟨b4,m * 3,none⟩) 1 (cap4 - m)] w4 fun e w5=>e=.returned (.tuple #[])/\∃ V'',OwnSt 4 3 PR W0 w5 wb V0 E0 bL p (q+1) V'' ao4 b4 cap4 (new++[.slice (some ⟨b4,m * 3,none⟩) 1 (cap4 - m)])):=fun ao4 b4 cap4 w4 h1 h2 h3 h4=>by
      have hmx:=h2.max
      have h5:1<=cap4 - m/\cap4 - m<=maxLen:=⟨by omega,by omega⟩
      have hU:=(Upd.refl [] wr).alloc (.cells #[.string ⟨#[]⟩,.slice none 0 0,.int .i64 0] 88)
      rw [hm] at h1 h3 h5 ⊢
      obtain ⟨k1,_,_,_⟩:=HS.out.keep hU h3 h4
      have hmay:=HS.out.may hU h3 h4 h2 h1 h5
      refine (markRows_any w4 wb V' _ _ 1 (cap4 - (p+q)) b4 ((p+q) * 3) k1 hmay ?_).mono fun e w5 ⟨he,hk⟩=>⟨he,?_⟩
      ·rw [setW_same,List.length_append,HS.out.len]
       omega
      ·have:=HS.out.next localR (by omega) hU h3 h4 h2 h1 h5 (w5:=w5) hk
       exact this
     clear hm
     go_upto_region 10 with (at_builtin; go_must (refine wpList_append_one _ rfl _ _ 46 rfl Tryz.underlying46 hi hz0 hz1 hz2 rfl rfl rfl Hh3.out hmc Hsrc.out rfl hmb (by decide) ?_); intro ao4 b4 cap4 w4 hle4 hH4 hP4 hb4)
     have ha4:=hH4.addr (by omega)
     have hmx4:=hH4.max
     unfold maxLen at hmx4
     subst ha4
     have HMc:=hide (HMk.out _ b4 cap4 w4 hle4 hH4 hP4 hb4)
     clear HMk Hsrc Hh3 hH4 hP4 hb4
     have hleI:(m:Int)+1<=(cap4:Int):=by omega
     go_wp2_with (go_at_call 74; refine HMc.out.mono ?_; rintro e w5 ⟨rfl,V5,hS5⟩; have HS5:=hide hS5; clear hS5)
     exact ⟨⟨q+1,m+1,V5,_,b4,cap4,_,by omega,by go_num,rfl,by have:=Hm.out; show _=_; omega,HS5.out⟩,by simp [intOf]; omega⟩
    ·obtain rfl:q=4:=by omega
     have hqI:¬ ((4:Nat):Int) < 4:=by omega
     go_wp2
     go_end0
     exact ⟨rfl,HFin0.out wr V' new HS.out.owned⟩
end Go.Proofs.YtmfkpllnmmfpiaaGreatDoor
