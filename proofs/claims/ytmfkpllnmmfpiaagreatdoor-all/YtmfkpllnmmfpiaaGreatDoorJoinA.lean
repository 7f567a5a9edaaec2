/- Join -/
import Derived.Test.YtmfkpllnmmfpiaaGreatDoorJoinHeapA
import Derived.Test.YtmfkpllnmmfpiaaGreatDoorJoinLaw2A
import Derived.Deep.LoopGhost
import Derived.Deep.DeepMust
set_option maxHeartbeats 16000000
set_option maxRecDepth 100000
namespace Go.Proofs.YtmfkpllnmmfpiaaGreatDoor
open Go.RowKit
structure JoinAt (w wr:World) (wb:Nat) (H:Hd) (Z:Nat->Prop) (b:Nat) (v:Value) (ps:List (Nat × Nat)) (S:WS):Prop where
 ex:∃ H',WebAt wr wb H' (fun k=>(Z k\/w.heap.size<=k)/\k ≠ b/\k < wr.heap.size) S/\∀ k ∈ H'.blocks wb,k ∈ H.blocks wb\/w.heap.size<=k
 row:PairsAt wr b v ps
 new:w.heap.size<=b
 upd:Upd (H.blocks wb) w wr
def JoinRel (w wr:World) (wb:Nat) (H:Hd) (Z:Nat->Prop) (T:WS) (k:Nat) (v:Value):Prop :=
 ∃ b ps R,need ps R<=k/\joinF k ps R=T/\Joining ps R/\R.classes.length<=400/\R.trail.length+1000 * reps R R.classes.length<=5000000/\R.files+1000 * reps R R.classes.length<=5000000/\JoinAt w wr wb H Z b v ps R
theorem PairsAt.tail {w:World} {b:Nat} {v:Value} {p:Nat × Nat} {ps:List (Nat × Nat)} (h:PairsAt w b v (p :: ps)):∃ off cap,v=.slice (some ⟨b,off,none⟩) (ps.length+1) (cap+1)/\cap+1<=maxLen/\ps.length<=cap/\w.cell? ⟨b,off,none⟩=some (.int .i64 p.1)/\w.cell? ⟨b,off+1,none⟩=some (.int .i64 p.2)/\∃ off2,((cap=0/\off2=off)\/(∃ c,cap=c+1/\off2=off+2))/\PairsAt w b (.slice (some ⟨b,off2,none⟩) ps.length cap) ps:=by
 obtain ⟨ao,off,cap,rfl,hm,hc⟩:=h
 have hle:=hc.le
 simp only [List.length_cons] at hle
 obtain ⟨c,rfl⟩:∃ c,cap=c+1:=⟨cap - 1,by omega⟩
 have hao:=hc.addr (by omega)
 subst hao
 refine ⟨off,c,rfl,hm,by omega,hc.olds 0 _ rfl,hc.olds 1 _ rfl,?_⟩
 rcases Nat.eq_zero_or_pos c with rfl | hpos
 ·have hps:ps=[]:=List.eq_nil_of_length_eq_zero (by omega)
  subst hps
  exact ⟨off,.inl ⟨rfl,rfl⟩,_,off,0,rfl,by simp [maxLen],by simp,fun h=>by omega,fun h=>by omega,rfl,fun j u hu=>by simp [flat2] at hu,fun j hj=>by simp at hj⟩
 refine ⟨off+2,.inr ⟨c - 1,by omega,rfl⟩,_,off+2,c,rfl,by omega,by omega,fun _=>rfl,fun _=>hc.lt (by omega),flat2_length ps,fun j u hu=>?_,fun j hj=>?_⟩
 ·have:=hc.olds (j+2) u (by simpa [flat2] using hu)
  rw [show off+2+j=off+(j+2) by omega]
  exact this
 ·have:=hc.spare j (by simp only [List.length_cons]; omega)
  simp only [List.length_cons] at this
  rw [show off+2+ps.length * 2+j=off+(ps.length+1) * 2+j by omega]
  exact this
theorem JoinRel.skip {w wr:World} {wb b k off cap:Nat} {H:Hd} {Z:Nat->Prop} {T R:WS} {v:Value} {p:Nat × Nat} {ps:List (Nat × Nat)} (hA:JoinAt w wr wb H Z b v (p :: ps) R) (hJ:Joining (p :: ps) R) (hT:joinF (k+1) (p :: ps) R=T) (hneed:need (p :: ps) R<=k+1) (hn:R.classes.length<=400) (htr:R.trail.length+1000 * reps R R.classes.length<=5000000) (hfl:R.files+1000 * reps R R.classes.length<=5000000)
  (htail:PairsAt wr b (.slice (some ⟨b,off,none⟩) ps.length cap) ps) (he:classAt R p.1=classAt R p.2):JoinRel w wr.drew wb H Z T k (.slice (some ⟨b,off,none⟩) ps.length cap):=by
 obtain ⟨⟨H',hw,hH⟩,_,hnew,hu⟩:=hA
 refine ⟨b,ps,R,by unfold need at hneed ⊢; simp only [List.length_cons] at hneed; omega,by rw [joinF,if_pos he] at hT; exact hT,hJ.skip he,hn,htr,hfl,⟨H',hw.later ((Upd.refl [] wr).drew) (fun _ _=>by simp),hH⟩,htail.later ((Upd.refl [] wr).drew) (by simp),hnew,hu.drew⟩
theorem PairsAt.joined {w wr w3 w4:World} {wb b:Nat} {H' H3:Hd} {Z:Nat->Prop} {R M:WS} {v:Value} {ps:List (Nat × Nat)} (h:PairsAt wr b v ps) (hbw:b < wr.heap.size) (hw:WebAt wr wb H' (fun k=>(Z k\/w.heap.size<=k)/\k ≠ b/\k < wr.heap.size) R) (hu3:Upd (H'.blocks wb) wr.drew w3)
  (hw3:WebAt w3 wb H3 (fun k=>((Z k\/w.heap.size<=k)/\k ≠ b/\k < wr.heap.size)\/wr.drew.heap.size<=k) M) (hu4:Upd (H3.blocks wb) w3 w4):PairsAt w4 b v ps:=by
 have e:wr.drew.heap.size=wr.heap.size:=rfl
 refine ((h.later ((Upd.refl [] wr).drew) (by simp)).later hu3 (fun hm=>(hw.inZ b hm).2.1 rfl)).later hu4 (fun hm=>?_)
 rcases hw3.inZ b hm with h1 | h1
 ·exact h1.2.1 rfl
 ·omega
theorem JoinRel.go {w wr w3 w4 w5:World} {wb b b5 k:Nat} {H H' H3:Hd} {Z:Nat->Prop} {T R:WS} {p:Nat × Nat} {ps:List (Nat × Nat)} {bk v v5 v0:Value} (hA:JoinAt w wr wb H Z b v0 (p :: ps) R) (hbw:b < wr.heap.size) (hH:∀ k ∈ H'.blocks wb,k ∈ H.blocks wb\/w.heap.size<=k)
  (hT:joinF (k+1) (p :: ps) R=T) (hneed:need (p :: ps) R<=k+1) (hn:R.classes.length<=400) (htr:R.trail.length+1000 * reps R R.classes.length<=5000000) (hfl:R.files+1000 * reps R R.classes.length<=5000000) (he:¬ classAt R p.1=classAt R p.2)
  (hX:Joining (ps++(twinsM (moveM R (classAt R p.2) (classAt R p.1))).1) (twinsM (moveM R (classAt R p.2) (classAt R p.1))).2/\Joined R (twinsM (moveM R (classAt R p.2) (classAt R p.1))).2/\(twinsM (moveM R (classAt R p.2) (classAt R p.1))).1.length<=R.classes.length/\reps (twinsM (moveM R (classAt R p.2) (classAt R p.1))).2 R.classes.length+1=reps R R.classes.length/\Base (moveM R (classAt R p.2) (classAt R p.1)))
  (hu3:Upd (H'.blocks wb) wr.drew w3) (hH3:∀ k ∈ H3.blocks wb,k ∈ H'.blocks wb\/wr.drew.heap.size<=k)
  (hw4:WebAt w4 wb { H3 with backs:=bk } (fun k=>((((Z k\/w.heap.size<=k)/\k ≠ b/\k < wr.heap.size)\/wr.drew.heap.size<=k)\/w3.heap.size<=k)/\v.ownBlock ≠ some k) (twinsM (moveM R (classAt R p.2) (classAt R p.1))).2)
  (hu4:Upd (H3.blocks wb) w3 w4) (hH4:∀ k ∈ ({ H3 with backs:=bk }:Hd).blocks wb,k ∈ H3.blocks wb\/w3.heap.size<=k)
  (hp5:PairsAt w5 b5 v5 (ps++(twinsM (moveM R (classAt R p.2) (classAt R p.1))).1)) (hu5:Upd [b] w4 w5) (hb5:b5=b\/b5=w4.heap.size):JoinRel w w5 wb H Z T k v5:=by
 obtain ⟨x1,x2,x4,x5,_⟩:=hX
 have hu:=hA.upd
 have hnew:=hA.new
 have e:wr.drew.heap.size=wr.heap.size:=rfl
 have s1:=hu.size
 have s3:=hu3.size
 have s4:=hu4.size
 have s5:=hu5.size
 have hc:=x2.clen
 have hx1:=x2.trail
 have hx2:=x2.files
 have hnb:∀ k,((((Z k\/w.heap.size<=k)/\k ≠ b/\k < wr.heap.size)\/wr.drew.heap.size<=k)\/w3.heap.size<=k)->k ≠ b:=fun k hk=>by
  rcases hk with (hk | hk) | hk
  ·exact hk.2.1
  ·omega
  ·omega
 refine ⟨b5,_,_,?_,?_,x1,by omega,by omega,by omega,⟨{ H3 with backs:=bk },?_,fun k hk=>?_⟩,hp5,?_,?_⟩
 ·unfold need at hneed ⊢
  simp only [List.length_cons] at hneed
  rw [hc]
  exact need_go x4 x5 hneed
 ·rw [joinF,if_neg he] at hT
  exact hT
 ·refine ((hw4.mono (Z':=fun k=>(Z k\/w.heap.size<=k)/\k ≠ b/\k < w4.heap.size) (fun k hk hl=>⟨?_,hnb k hk.1,hl⟩)).later hu5 (fun k hk hm=>hk.2.1 (by simpa using hm))).mono (fun k hk hl=>⟨hk.1,?_,hl⟩)
  ·rcases hk.1 with (hk | hk) | hk
   ·exact hk.1
   ·exact .inr (by omega)
   ·exact .inr (by omega)
  ·rcases hb5 with rfl | rfl
   ·exact hk.2.1
   ·omega
 ·rcases hH4 k hk with h1 | h1
  ·rcases hH3 k h1 with h2 | h2
   ·exact hH k h2
   ·exact .inr (by omega)
  ·exact .inr (by omega)
 ·rcases hb5 with rfl | rfl
  ·exact hnew
  ·omega
 ·refine ((hu.drew.trans' hu3 (fun x hx hl=>?_)).trans' hu4 (fun x hx hl=>?_)).trans' hu5 (fun x hx hl=>?_)
  ·rcases hH x hx with h1 | h1
   ·exact h1
   ·omega
  ·rcases hH3 x hx with h1 | h1
   ·rcases hH x h1 with h2 | h2
    ·exact h2
    ·omega
   ·omega
  ·simp at hx; omega
theorem join_any (w:World) (wb:Nat) (H:Hd) (Z:Nat->Prop) (S:WS) (l r:Nat) (h:WebAt w wb H Z S) (hZ:∀ k,Z k->k < w.heap.size) (hJ:Joining [(l,r)] S) (hn:S.classes.length<=400) (htr:S.trail.length+1000 * reps S S.classes.length<=5000000) (hfl:S.files+1000 * reps S S.classes.length<=5000000) :
  Calls Tryz.prog 128 #[.pointer (some ⟨wb,0,none⟩),.int .i64 l,.int .i64 r] w fun e w'=>∃ H',e=.returned (.tuple #[])/\WebAt w' wb H' (fun k=>Z k\/w.heap.size<=k) (joinM S l r)/\Upd (H.blocks wb) w w'/\∀ k ∈ H'.blocks wb,k ∈ H.blocks wb\/w.heap.size<=k:=by
 have hstart:JoinRel w (w.alloc (.cells #[.int .i64 l,.int .i64 r] 231)) wb H Z (joinM S l r) (need [(l,r)] S) (.slice (some ⟨w.heap.size,0,none⟩) 1 1):=by
  have U:=(Upd.refl [] w).alloc (.cells #[.int .i64 l,.int .i64 r] 231)
  refine ⟨w.heap.size,[(l,r)],S,Nat.le_refl _,rfl,hJ,hn,htr,hfl,⟨H,(h.later U (fun _ _=>by simp)).mono (fun k hk _=>⟨.inl hk,?_,?_⟩),fun k hk=>.inl hk⟩,?_,Nat.le_refl _,U.mono (fun x hx _=>by cases hx)⟩
  ·have:=hZ k hk; omega
  ·have:=hZ k hk; simp; omega
  ·refine ⟨_,0,1,rfl,by simp [maxLen],by simp,fun _=>rfl,fun _=>by simp,rfl,fun j u hu=>?_,fun j hj=>by simp at hj⟩
   rw [(cell_new_row (w:=w) (j:=0+j) (e:=231) (arr:=#[.int .i64 l,.int .i64 r])).1,Nat.zero_add]
   simpa [flat2] using hu
 have hk0:need [(l,r)] S<=900000:=by
  unfold need
  have h1:=reps_le S S.classes.length
  have h2:reps S S.classes.length * (S.classes.length+1)<=400 * 401:=Nat.mul_le_mul (by omega) (by omega)
  simp only [List.length_singleton]
  omega
 obtain ⟨T,hTe⟩:∃ T,T=joinM S l r:=⟨_,rfl⟩
 rw [<- hTe] at hstart
 have HTe:=hide hTe
 clear hTe hJ hn htr hfl hZ h
 go_enter Tryz.func128,Tryz.ntmps128
 go_wp2
 generalize need [(l,r)] S=n0 at *
 go_loopg [6] n0 (fun k v wr=>k<=n0/\Hid (JoinRel w wr wb H Z T k v))
 case atStart=>exact ⟨Nat.le_refl _,hstart⟩
 case round =>
  obtain ⟨hk,HR⟩:=hrel
  clear hstart
  obtain ⟨b,ps,R,hneed,hT,hJ,hn,htr,hfl,hA⟩:=HR.out
  clear HR
  cases gk with
  | zero=>unfold need at hneed; omega
  | succ k =>
   cases ps with
   | nil =>
    obtain ⟨H',hw,hH⟩:=hA.ex
    obtain ⟨ao,off,cap,rfl,_,_⟩:=hA.row
    have e:R=T:=hT
    subst e
    have Hw:=hide (hw.mono (Z':=fun k=>Z k\/w.heap.size<=k) (fun k hk _=>hk.1))
    have HU:=hide hA.upd
    have HH:=hide hH
    clear hA hw hH hT hJ hneed
    go_wp2
    go_end0
    exact ⟨_,rfl,by rw [<- HTe.out]; exact Hw.out,HU.out,HH.out⟩
   | cons p ps =>
    obtain ⟨H',hw,hH⟩:=hA.ex
    obtain ⟨off,cap,rfl,hcm,hpc,q0,q1,off2,hoff,htail⟩:=hA.row.tail
    obtain ⟨hp1,hp2,_⟩:=hJ.pairs p (List.mem_cons_self ..)
    obtain ⟨g,ccap,hcl,_,_⟩:∃ g cap,H'.classes=.slice (some ⟨g,0,none⟩) R.classes.length cap/\R.classes.length<=cap/\cap<=maxLen:=by
     rcases ownsRow_slice hw.rc with ⟨_,h0⟩ | hh
     ·omega
     ·exact hh
    have c3:=hw.c3
    rw [hcl] at c3
    have hrc:=hw.rc
    rw [hcl] at hrc
    have k1:wr.cell? ⟨g,p.1,none⟩=some (.int .i64 (classAt R p.1)):=row1_cell hrc hp1
    have k2:wr.cell? ⟨g,p.2,none⟩=some (.int .i64 (classAt R p.2)):=row1_cell hrc hp2
    have hp1':(p.1:Int) < (R.classes.length:Int):=by omega
    have hp2':(p.2:Int) < (R.classes.length:Int):=by omega
    have Hw:=hide hw
    have HH:=hide hH
    have HA:=hide hA
    have HJ:=hide hJ
    have HT:=hide hT
    have Hneed:=hide hneed
    have Htail:=hide htail
    unfold maxLen at hcm
    have hps:ps.length<=900000:=by unfold need at hneed; simp at hneed; omega
    clear hw hH hA hJ hT hneed htail hrc hcl
    by_cases he:classAt R p.1=classAt R p.2
    ·have Hfin:Hid (JoinRel w wr.drew wb H Z T k (.slice (some ⟨b,off2,none⟩) ps.length cap)):=JoinRel.skip HA.out HJ.out HT.out Hneed.out hn htr hfl Htail.out he
     clear HA HJ HT Hneed Htail Hw HH
     rcases hoff with ⟨rfl,rfl⟩ | ⟨c,rfl,rfl⟩
     ·obtain rfl:ps=[]:=List.eq_nil_of_length_eq_zero (by omega)
      go_wp2
      go_region
      go_wp2
      go_roundg k
      case measure=>omega
      case rel=>exact ⟨by omega,Hfin.out⟩
     ·go_wp2
      go_region
      go_wp2
      go_roundg k
      case measure=>omega
      case rel=>exact ⟨by omega,Hfin.out⟩
    ·have he':((classAt R p.1:Int) != (classAt R p.2:Int))=true:=by simp; omega
     obtain ⟨x1,x2,x3,x4,x5,x6⟩:=HJ.out.go he hn
     have hMl:(moveM R (classAt R p.2) (classAt R p.1)).classes.length=R.classes.length:=(moveTo_rows R (classAt R p.2) (classAt R p.1) R.classes.length).1
     have hMt:(moveM R (classAt R p.2) (classAt R p.1)).trail.length<=R.trail.length+R.classes.length:=(moveTo_rows R (classAt R p.2) (classAt R p.1) R.classes.length).2.2.2.2.2.2.2
     have hMf:(moveM R (classAt R p.2) (classAt R p.1)).files=R.files:=(moveTo_rows R (classAt R p.2) (classAt R p.1) R.classes.length).2.2.2.2.2.2.1
     have HM:=hide (⟨hMl,hMt,hMf⟩:_/\_/\_)
     have HX:=hide (⟨x1,x2,x4,x5,x6⟩:_/\_/\_/\_/\_)
     have Hbw:Hid (b < wr.heap.size):=World.block_lt_of_cell? _ _ q0
     clear x1 x2 x3 x4 x5 x6 hMl hMt hMf
     rcases hoff with ⟨rfl,rfl⟩ | ⟨c,rfl,rfl⟩
     ·obtain rfl:ps=[]:=List.eq_nil_of_length_eq_zero (by omega)
      go_wp2
      go_region
      go_wp2_with (first
       | (go_at_call 155; refine (move_any wr.drew wb H' _ R (classAt R p.2) (classAt R p.1) (Hw.out.later ((Upd.refl [] wr).drew) (fun _ _=>by simp)) (by omega) (by omega)).mono ?_; rintro e w3 ⟨H3,rfl,hw3,hu3,hH3⟩; have Hw3:=hide hw3; have Hu3:=hide hu3; have HH3:=hide hH3; clear hw3 hu3 hH3)
       | (go_at_call 156; refine (twins_any w3 wb H3 _ (moveM R (classAt R p.2) (classAt R p.1)) Hw3.out (by rw [HX.out.2.2.2.2.inv.len]) (by rw [HX.out.2.2.2.2.inv.len,HM.out.1]; omega) (by rw [HX.out.2.2.2.2.inv.len,HM.out.1]; have:=HM.out.2.1; omega) (by rw [HX.out.2.2.2.2.inv.len,HM.out.1,HM.out.2.2]; omega) (HX.out.2.2.2.2.fits (by rw [HM.out.1]; exact hn)) HX.out.2.2.2.2.inv.al).mono ?_; rintro e w4 ⟨v,bk,rfl,hw4,hrow4,hu4,hH4⟩; have Hw4:=hide hw4; have Hu4:=hide hu4; have HH4:=hide hH4; have Hrow4:=hide hrow4; clear hw4 hu4 hH4 hrow4)
       | (at_builtin; go_must (refine wpList_append_pairs _ rfl _ _ rfl rfl rfl (Htail.out.joined Hbw.out Hw.out Hu3.out Hw3.out Hu4.out) Hrow4.out (by have:=HX.out.2.2.1; omega) ?_); intro v5 w5 b5 hp5 hu5 hb5; have Hp5:=hide hp5; have Hu5:=hide hu5; have Hb5:=hide hb5; clear hp5 hu5 hb5))
      go_roundg k
      case measure=>omega
      case rel=>exact ⟨by omega,JoinRel.go HA.out Hbw.out HH.out HT.out Hneed.out hn htr hfl he HX.out Hu3.out HH3.out Hw4.out Hu4.out HH4.out Hp5.out Hu5.out Hb5.out⟩
     ·go_wp2
      go_region
      go_wp2_with (first
       | (go_at_call 155; refine (move_any wr.drew wb H' _ R (classAt R p.2) (classAt R p.1) (Hw.out.later ((Upd.refl [] wr).drew) (fun _ _=>by simp)) (by omega) (by omega)).mono ?_; rintro e w3 ⟨H3,rfl,hw3,hu3,hH3⟩; have Hw3:=hide hw3; have Hu3:=hide hu3; have HH3:=hide hH3; clear hw3 hu3 hH3)
       | (go_at_call 156; refine (twins_any w3 wb H3 _ (moveM R (classAt R p.2) (classAt R p.1)) Hw3.out (by rw [HX.out.2.2.2.2.inv.len]) (by rw [HX.out.2.2.2.2.inv.len,HM.out.1]; omega) (by rw [HX.out.2.2.2.2.inv.len,HM.out.1]; have:=HM.out.2.1; omega) (by rw [HX.out.2.2.2.2.inv.len,HM.out.1,HM.out.2.2]; omega) (HX.out.2.2.2.2.fits (by rw [HM.out.1]; exact hn)) HX.out.2.2.2.2.inv.al).mono ?_; rintro e w4 ⟨v,bk,rfl,hw4,hrow4,hu4,hH4⟩; have Hw4:=hide hw4; have Hu4:=hide hu4; have HH4:=hide hH4; have Hrow4:=hide hrow4; clear hw4 hu4 hH4 hrow4)
       | (at_builtin; refine wpList_append_pairs _ rfl _ _ rfl rfl rfl (Htail.out.joined Hbw.out Hw.out Hu3.out Hw3.out Hu4.out) Hrow4.out (by have:=HX.out.2.2.1; omega) ?_; intro v5 w5 b5 hp5 hu5 hb5; have Hp5:=hide hp5; have Hu5:=hide hu5; have Hb5:=hide hb5; clear hp5 hu5 hb5))
      go_roundg k
      case measure=>omega
      case rel=>exact ⟨by omega,JoinRel.go HA.out Hbw.out HH.out HT.out Hneed.out hn htr hfl he HX.out Hu3.out HH3.out Hw4.out Hu4.out HH4.out Hp5.out Hu5.out Hb5.out⟩
end Go.Proofs.YtmfkpllnmmfpiaaGreatDoor
