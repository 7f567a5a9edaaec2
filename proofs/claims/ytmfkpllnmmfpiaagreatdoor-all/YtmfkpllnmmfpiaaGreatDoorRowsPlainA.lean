/- BookWhy, LawWhy, RefOf, RowsPlain -/
import Derived.Test.YtmfkpllnmmfpiaaGreatDoorWebWhyA
import Derived.Test.YtmfkpllnmmfpiaaGreatDoorRefHoldA
import Derived.Test.YtmfkpllnmmfpiaaGreatDoorRefWhyWalkA
import Derived.Test.YtmfkpllnmmfpiaaGreatDoorLawSinceA
import Derived.Test.YtmfkpllnmmfpiaaGreatDoorRowCmpA
import Derived.Test.YtmfkpllnmmfpiaaGreatDoorRowCompA
import Derived.Test.YtmfkpllnmmfpiaaGreatDoorAllOwn3A
import Derived.Test.YtmfkpllnmmfpiaaGreatDoorRefPosA
import Derived.Test.YtmfkpllnmmfpiaaGreatDoorPlainTextA
set_option maxHeartbeats 16000000
set_option maxRecDepth 100000
namespace Go.Proofs.YtmfkpllnmmfpiaaGreatDoor
open Go.RowKit
theorem webWhy_no (w:World) (wb n:Nat) (H:Hd) (Z F:Nat->Prop) (S:WS) (l r:V3) (k:Int) (x:Snt n) (h:WebAt w wb H Z S) (hs:IsSnt w F n l k r x) (hFZ:∀ k,F k->¬ Z k) (hZ:∀ k,Z k->k < w.heap.size)
  (hF:Fine S) (hx:NarrowS x) (hn:S.shapes.length+sizeS x<=400) (hsd:S.said.length+1<=900) (hfo:followsM S x=false) :
  Calls Tryz.prog 61 #[.pointer (some ⟨wb,0,none⟩),.agg #[l.1,l.2.1,l.2.2,.int .i64 k,r.1,r.2.1,r.2.2]] w fun e w'=>e=.returned (.tuple #[.slice none 0 0,.bool false])/\∃ H',WebAt w' wb H' (fun k=>Z k\/w.heap.size<=k) S/\Upd (H.blocks wb) w w'/\∀ k ∈ H'.blocks wb,k ∈ H.blocks wb\/w.heap.size<=k:=by
 obtain ⟨hl,hk,hr⟩:=hs
 obtain ⟨a,p,g,ll,cap,rfl⟩:=hl.form
 obtain ⟨a',p',g',ll',cap',rfl⟩:=hr.form
 simp only
 subst hk
 have HFo:=hide (fun (X:Obj)=>webFollows_any (w.alloc X) wb n H Z (fun k=>F k/\k < w.heap.size) S (.string a,.int .i64 p,.slice g ll cap) (.string a',.int .i64 p',.slice g' ll' cap') (signInt x.eq) x (h.later ((Upd.refl [] w).alloc X) (fun _ _=>by simp)) ⟨(hl.mono (F':=fun k=>F k/\k < w.heap.size) fun k hk hl=>⟨hk,hl⟩).later ((Upd.refl [] w).alloc X) (fun _ _=>by simp),rfl,(hr.mono (F':=fun k=>F k/\k < w.heap.size) fun k hk hl=>⟨hk,hl⟩).later ((Upd.refl [] w).alloc X) (fun _ _=>by simp)⟩ (fun k hk=>hFZ k hk.1) (fun k hk=>by have:=hZ k hk; simp; omega) hF hx hn hsd)
 rw [hfo] at HFo
 clear h hl hr hF hx hfo hFZ hZ
 simp only at HFo
 go_enter Tryz.func61,Tryz.ntmps61
 go_wp2_with (go_at_call 60; refine (HFo.out _).mono ?_; rintro e w2 ⟨rfl,H2,hw2,hu2,hH2⟩; have Hw2:=hide hw2; have Hu2:=hide hu2; have HH2:=hide hH2; clear hw2 hu2 hH2)
 go_ret2
 exact ⟨rfl,H2,Hw2.out.mono (fun k hk _=>hk.imp id (fun h=>by simp at h; omega)),(((Upd.refl [] w).alloc _).mono (fun x hx _=>by cases hx)).trans Hu2.out,fun k hk=>(HH2.out k hk).imp id (fun h=>by simp at h; omega)⟩
def WhyDone (w:World) (bb:Nat) (Z:Nat->Prop) (S:WS) (l:List Nat) (e:Ending) (w':World):Prop :=
 ∃ v m,e=.returned (.tuple #[v,.int .i64 0,.int .i64 0])/\w.heap.size<=m/\BookAt w' bb (fun k=>(Z k\/w.heap.size<=k)/\k < m/\k < w'.heap.size) S/\(∃ L,(∀ k ∈ L,Z k)/\Upd L w w')/\w'.ownsRow m 3 1 v l.length (intsOf l)
structure BookOK (S:WS) (L:List ST):Prop where
 holds:Holds S L
 small:SmallL L
 tag:TagOK S
theorem bookWhy_yes (s:ByteArray) (w:World) (bb:Nat) (Z:Nat->Prop) (S:WS) (L:List ST) (hmax:s.size<=maxLen) (h:BookAt w bb Z S) (hE:ErrTab w) (hK:BookOK S L) {x:Snt (fuelOf s)} (hr:(readOf s).1=some x) (hfo:followsM S x=true) :
  Calls Tryz.prog 27 #[.pointer (some ⟨bb,0,none⟩),.string s] w (WhyDone w bb Z S (whyL (otherM ⟨_,contra x⟩ (sentsX S)) (sentsX S))):=by
 obtain ⟨hnar,hsz,_⟩:=readOf_small hr
 have HRd:=hide (bookRead_fine s w bb hmax h.self hE hr)
 obtain ⟨wb,H,hc1,hw⟩:=h.ex
 have hlt:=h.lt
 have ht:=h.terms
 have hs:=h.saids
 have Hh:=hide h
 have Hw:=hide hw
 obtain ⟨hu,hsub⟩:=hK.holds.under hnar hsz ht
 have hO:=hu.other hsub (hK.holds.subs hK.small (fun t ht=>known_append.2 (.inl ht)))
 have HC:=hide (fun (w2:World) (X:Obj) (hu:Upd [] w w2) a p g l c k a' p' g' l' c' (hx2:IsSnt w2 (fun k=>w.heap.size<=k) (fuelOf s) (.string a,.int .i64 p,.slice g l c) k (.string a',.int .i64 p',.slice g' l' c') x) =>
  webWhy_yes (w2.alloc X).drew wb (fuelOf s) H (fun k=>Z k/\k ≠ bb) (fun k=>w.heap.size<=k) S (.string a,.int .i64 p,.slice g l c) (.string a',.int .i64 p',.slice g' l' c') k x (hw.later (hu.alloc X).drew (fun _ _=>by simp))
   ⟨hx2.1.later ((Upd.refl [] w2).alloc X).drew (fun _ _=>by simp),hx2.2.1,hx2.2.2.later ((Upd.refl [] w2).alloc X).drew (fun _ _=>by simp)⟩ (fun k hk hz=>by have:=h.low k hz.1; omega) (fun k hk=>Nat.lt_of_lt_of_le (h.low k hk.1) (hu.alloc X).size) h.fine hnar hsz ht hs hK.tag hO hfo)
 clear h hE hr hw hnar hK hO hu hsub hfo
 generalize whyL (otherM ⟨_,contra x⟩ (sentsX S)) (sentsX S)=l at *
 go_enter Tryz.func27,Tryz.ntmps27
 go_wp2_with (go_at_call 54; refine HRd.out.mono ?_; rintro e w2 ⟨a,p,g,l,c,k,a',p',g',l',c',rfl,hu2,hx2⟩; have Hu2:=hide hu2; have Hx2:=hide hx2; clear hu2 hx2)
 have U:=Hu2.out.alloc (.cells #[.string a,.int .i64 p,.slice g l c,.int .i64 k,.string a',.int .i64 p',.slice g' l' c'] 101)
 have c1:=(U.cell (p:=⟨bb,1,none⟩) hlt (by simp)).trans hc1
 have HU:=hide U
 clear U
 go_region_with (go_at_call 61; refine (HC.out w2 _ Hu2.out a p g l c k a' p' g' l' c' Hx2.out).mono ?_; rintro e w3 ⟨v3,m3,H3,rfl,hm3,hw3,hu3,hH3,hr3⟩; have Hm3:=hide hm3; have Hw3:=hide hw3; have Hu3:=hide hu3; have HH3:=hide hH3; have Hr3:=hide hr3; clear hm3 hw3 hu3 hH3 hr3)
 all_goals (
  go_wp2
  go_ret3
  have U3:=(HU.out.drew.mono (L':=H.blocks wb) (fun x hx _=>by cases hx)).trans Hu3.out
  have s2:=HU.out.size
  have s3:w.heap.size<=m3:=Nat.le_trans s2 Hm3.out
  have hb:bb ∉ H.blocks wb:=fun hm=>(Hw.out.inZ bb hm).2 rfl
  have s4:=U3.size
  refine ⟨v3,m3,rfl,s3,⟨by omega,(U3.cell (p:=⟨bb,0,none⟩) hlt hb).trans Hh.out.self,⟨wb,H3,(U3.cell (p:=⟨bb,1,none⟩) hlt hb).trans hc1,Hw3.out.mono (fun k hk hl=>?_)⟩,⟨.inl Hh.out.own,by omega,by omega⟩,fun k hk=>hk.2.2,Hh.out.fine,ht,hs⟩,⟨H.blocks wb,fun k hk=>(Hw.out.inZ k hk).1,U3⟩,Hr3.out⟩
  rcases hk with hk | hk
  ·have:=Hh.out.low k hk.1
   exact ⟨⟨.inl hk.1,by omega,hl⟩,hk.2⟩
  ·have h9:w.heap.size<=k:=Nat.le_trans s2 hk.1
   exact ⟨⟨.inr h9,hk.2,hl⟩,by omega⟩)
theorem bookWhy_no (s:ByteArray) (w:World) (bb:Nat) (Z:Nat->Prop) (S:WS) (hmax:s.size<=maxLen) (h:BookAt w bb Z S) (hE:ErrTab w) {x:Snt (fuelOf s)} (hr:(readOf s).1=some x) (hfo:followsM S x=false) :
  Calls Tryz.prog 27 #[.pointer (some ⟨bb,0,none⟩),.string s] w fun e w'=>e=.returned (.tuple #[.slice none 0 0,.int .i64 5,.int .i64 0])/\BookAt w' bb (fun k=>(Z k\/w.heap.size<=k)/\k < w'.heap.size) S/\∃ L,(∀ k ∈ L,Z k)/\Upd L w w':=by
 obtain ⟨hnar,hsz,_⟩:=readOf_small hr
 have HRd:=hide (bookRead_fine s w bb hmax h.self hE hr)
 obtain ⟨wb,H,hc1,hw⟩:=h.ex
 have hlt:=h.lt
 have ht:=h.terms
 have hs:=h.saids
 have Hh:=hide h
 have Hw:=hide hw
 have HC:=hide (fun (w2:World) (X:Obj) (hu:Upd [] w w2) a p g l c k a' p' g' l' c' (hx2:IsSnt w2 (fun k=>w.heap.size<=k) (fuelOf s) (.string a,.int .i64 p,.slice g l c) k (.string a',.int .i64 p',.slice g' l' c') x) =>
  webWhy_no (w2.alloc X).drew wb (fuelOf s) H (fun k=>Z k/\k ≠ bb) (fun k=>w.heap.size<=k) S (.string a,.int .i64 p,.slice g l c) (.string a',.int .i64 p',.slice g' l' c') k x (hw.later (hu.alloc X).drew (fun _ _=>by simp))
   ⟨hx2.1.later ((Upd.refl [] w2).alloc X).drew (fun _ _=>by simp),hx2.2.1,hx2.2.2.later ((Upd.refl [] w2).alloc X).drew (fun _ _=>by simp)⟩ (fun k hk hz=>by have:=h.low k hz.1; omega) (fun k hk=>Nat.lt_of_lt_of_le (h.low k hk.1) (hu.alloc X).size) h.fine hnar (by omega) (by omega) hfo)
 clear h hE hr hw hnar hfo
 go_enter Tryz.func27,Tryz.ntmps27
 go_wp2_with (go_at_call 54; refine HRd.out.mono ?_; rintro e w2 ⟨a,p,g,l,c,k,a',p',g',l',c',rfl,hu2,hx2⟩; have Hu2:=hide hu2; have Hx2:=hide hx2; clear hu2 hx2)
 have U:=Hu2.out.alloc (.cells #[.string a,.int .i64 p,.slice g l c,.int .i64 k,.string a',.int .i64 p',.slice g' l' c'] 101)
 have c1:=(U.cell (p:=⟨bb,1,none⟩) hlt (by simp)).trans hc1
 have HU:=hide U
 clear U
 go_region_with (go_at_call 61; refine (HC.out w2 _ Hu2.out a p g l c k a' p' g' l' c' Hx2.out).mono ?_; rintro e w3 ⟨rfl,H3,hw3,hu3,hH3⟩; have Hw3:=hide hw3; have Hu3:=hide hu3; clear hw3 hu3 hH3)
 all_goals (
  go_wp2
  go_ret3
  have U3:=(HU.out.drew.mono (L':=H.blocks wb) (fun x hx _=>by cases hx)).trans Hu3.out
  have s2:=HU.out.size
  refine ⟨rfl,?_,H.blocks wb,fun k hk=>(Hw.out.inZ k hk).1,U3⟩
  exact WebAt.book Hh.out hc1 Hw.out.inZ U3 (Hw3.out.mono (fun k hk _=>hk.imp id (fun h=>Nat.le_trans s2 h))) Hh.out.fine ht hs)
theorem bookWhy_bad (s:ByteArray) (w:World) (bb:Nat) (Z:Nat->Prop) (S:WS) (hmax:s.size<=maxLen) (h:BookAt w bb Z S) (hE:ErrTab w) (hr:(readOf s).1=none) :
  Calls Tryz.prog 27 #[.pointer (some ⟨bb,0,none⟩),.string s] w fun e w'=>e=.returned (.tuple #[.slice none 0 0,.int .i64 (errOf (readOf s).2.1),.int .i64 (readOf s).2.2])/\BookAt w' bb (fun k=>(Z k\/w.heap.size<=k)/\k < w'.heap.size) S/\∃ L,(∀ k ∈ L,Z k)/\Upd L w w':=by
 have HRd:=hide (bookRead_any s w bb hmax h.self hE)
 have HB:=hide (fun (w':World) (U:Upd [] w w')=>h.wider U)
 have hne:(errOf (readOf s).2.1 != 0)=true:=errOf_ne hr
 clear h hE hr
 go_enter Tryz.func27,Tryz.ntmps27
 go_wp2_with (go_at_call 54; refine HRd.out.mono ?_; rintro e w2 ⟨a,p,g,l,c,k,a',p',g',l',c',rfl,hu2,_⟩; have Hu2:=hide hu2; clear hu2)
 go_ret3
 have U:=Hu2.out.alloc (.cells #[.string a,.int .i64 p,.slice g l c,.int .i64 k,.string a',.int .i64 p',.slice g' l' c'] 101)
 exact ⟨rfl,HB.out _ U,[],fun k hk=>(by cases hk),U⟩
theorem intRow_form {w:World} {base:Nat} {v:Value} {l:List Nat} (h:w.ownsRow base 3 1 v l.length (intsOf l)):∃ a cap,v=.slice a l.length cap/\l.length<=cap/\cap<=maxLen/\(0 < l.length->∃ g,a=some ⟨g,0,none⟩/\g < w.heap.size/\∀ (i t:Nat),l[i]?=some t->w.cell? ⟨g,i,none⟩=some (.int .i64 t)):=by
 rcases ownsRow_slice h with ⟨h1,h2⟩ | ⟨g,cap,h1,h2,h3⟩
 ·rw [h2]
  exact ⟨none,0,h1,Nat.le_refl _,by simp [maxLen],fun h=>absurd h (Nat.lt_irrefl _)⟩
 ·subst h1
  refine ⟨_,cap,rfl,h2,h3,fun _=>⟨g,rfl,ownsRow_lt h rfl,fun i t ht=>?_⟩⟩
  have hi:=(List.getElem?_eq_some_iff.1 ht).1
  have:=h.cellAt i (by omega)
  rw [this]
  simp [intsOf,ht]
theorem sameInts_form (w:World) (v1 v2:Value) (l1 l2:List Nat) (h1:∃ a cap,v1=.slice a l1.length cap/\l1.length<=cap/\cap<=maxLen/\(0 < l1.length->∃ g,a=some ⟨g,0,none⟩/\g < w.heap.size/\∀ (i t:Nat),l1[i]?=some t->w.cell? ⟨g,i,none⟩=some (.int .i64 t))) (h2:∃ a cap,v2=.slice a l2.length cap/\l2.length<=cap/\cap<=maxLen/\(0 < l2.length->∃ g,a=some ⟨g,0,none⟩/\g < w.heap.size/\∀ (i t:Nat),l2[i]?=some t->w.cell? ⟨g,i,none⟩=some (.int .i64 t))) :
  Calls Tryz.prog 71 #[v1,v2] w fun e w'=>e=.returned (.bool (decide (l1=l2)))/\∃ n,w'=w.drewN n:=by
 obtain ⟨a1,cap1,hv1,c11,c12,f1⟩:=h1
 obtain ⟨a2,cap2,hv2,c21,c22,f2⟩:=h2
 subst hv1 hv2
 unfold maxLen at c12 c22
 by_cases hl:l1.length=l2.length
 ·obtain ⟨n,hn⟩:∃ n,l1.length=n:=⟨_,rfl⟩
  have hn2:l2.length=n:=by rw [<- hl,hn]
  rw [hn] at c11 f1 ⊢
  rw [hn2] at c21 f2 ⊢
  have F1:=hide f1
  have F2:=hide f2
  have Hn:=hide hn
  have Hn2:=hide hn2
  clear f1 f2 hn hn2 hl
  go_enter Tryz.func71,Tryz.ntmps71
  go_wp2
  go_loopw [5] (fun i wr=>∃ j m:Nat,j<=n/\i=.int .i64 j/\wr=w.drewN m/\Hid (∀ q,q < j->l1[q]?=l2[q]?)) (fun i _=>n - (intOf i).toNat)
  case atStart=>exact ⟨0,0,Nat.zero_le _,rfl,rfl,fun q hq=>by omega⟩
  case round =>
   obtain ⟨j,m,hj,rfl,rfl,HJ⟩:=hrel
   by_cases hjn:j < n
   ·have hjI:(j:Int) < (n:Int):=by omega
    obtain ⟨x,hx⟩:∃ x,l1[j]?=some x:=⟨_,List.getElem?_eq_getElem (by rw [Hn.out]; exact hjn)⟩
    obtain ⟨y,hy⟩:∃ y,l2[j]?=some y:=⟨_,List.getElem?_eq_getElem (by rw [Hn2.out]; exact hjn)⟩
    obtain ⟨g1,rfl,_,k1⟩:=F1.out (by omega)
    obtain ⟨g2,rfl,_,k2⟩:=F2.out (by omega)
    have q1:=k1 j x hx
    have q2:=k2 j y hy
    have Hx:=hide hx
    have Hy:=hide hy
    clear k1 k2 hx hy
    by_cases he:x=y
    ·subst he
     go_wp2_with fail
     go_quiet (fail)
     go_wp2
     refine ⟨⟨j+1,_,by omega,by simp,rfl,fun q hq=>?_⟩,by simp [intOf]; omega⟩
     by_cases e:q < j
     ·exact HJ.out q e
     ·obtain rfl:q=j:=by omega
      rw [Hx.out,Hy.out]
    ·have he2:¬ (x:Int)=(y:Int):=by omega
     have he3:((x:Int) == (y:Int))=false:=by simp; omega
     have HF:Hid (decide (l1=l2)=false):=by
      show _=_
      rw [decide_eq_false_iff_not]
      rintro rfl
      have:=Hx.out
      rw [Hy.out] at this
      exact he (Option.some.inj this).symm
     go_wp2_with fail
     go_quiet (fail)
     go_wp2
     go_ret
     exact ⟨by rw [HF.out]; rfl,m+nq,by simp⟩
   ·have hjI:¬ (j:Int) < (n:Int):=by omega
    have HF:Hid (decide (l1=l2)=true):=by
     show _=_
     rw [decide_eq_true_eq]
     refine List.ext_getElem? fun q=>?_
     by_cases e:q < j
     ·exact HJ.out q e
     ·rw [List.getElem?_eq_none (by rw [Hn.out]; omega),List.getElem?_eq_none (by rw [Hn2.out]; omega)]
    go_wp2
    go_ret
    exact ⟨by rw [HF.out]; rfl,m,rfl⟩
 ·have hl2:¬ (l1.length:Int)=(l2.length:Int):=by omega
  have hl3:((l1.length:Int) == (l2.length:Int))=false:=by simp; omega
  have HF:Hid (decide (l1=l2)=false):=by
   show _=_
   rw [decide_eq_false_iff_not]
   rintro rfl
   exact hl rfl
  clear f1 f2 hl
  go_enter Tryz.func71,Tryz.ntmps71
  go_wp2
  go_ret
  exact ⟨by rw [HF.out]; rfl,0,rfl⟩
theorem sameInts_any (w:World) (B1 B2:Nat) (v1 v2:Value) (l1 l2:List Nat) (h1:w.ownsRow B1 3 1 v1 l1.length (intsOf l1)) (h2:w.ownsRow B2 3 1 v2 l2.length (intsOf l2)) :
  Calls Tryz.prog 71 #[v1,v2] w fun e w'=>e=.returned (.bool (decide (l1=l2)))/\∃ n,w'=w.drewN n:=sameInts_form w v1 v2 l1 l2 (intRow_form h1) (intRow_form h2)
theorem BookAt.monoZ {w:World} {bb:Nat} {Z Z':Nat->Prop} {S:WS} (h:BookAt w bb Z S) (hm:∀ k,Z k->Z' k) (hl:∀ k,Z' k->k < w.heap.size):BookAt w bb Z' S:=by
 obtain ⟨wb,H,hc,hw⟩:=h.ex
 exact ⟨h.lt,h.self,⟨wb,H,hc,hw.mono fun k hk _=>⟨hm k hk.1,hk.2⟩⟩,hm _ h.own,hl,h.fine,h.terms,h.saids⟩
theorem bookWhy_any (s:ByteArray) (w:World) (bb:Nat) (Z:Nat->Prop) (S:WS) (L:List ST) (hmax:s.size<=maxLen) (h:BookAt w bb Z S) (hE:ErrTab w) (hK:Both S L) :
  Calls Tryz.prog 27 #[.pointer (some ⟨bb,0,none⟩),.string s] w fun e w'=>∃ v m,e=.returned (.tuple #[v,.int .i64 (whyRB L s).2.1,.int .i64 (whyRB L s).2.2])/\w.heap.size<=m/\BookAt w' bb (fun k=>(Z k\/w.heap.size<=k)/\k < m/\k < w'.heap.size) S/\(∃ K,(∀ k ∈ K,Z k)/\Upd K w w')/\w'.ownsRow m 3 1 v (whyRB L s).1.length (intsOf (whyRB L s).1):=by
 obtain ⟨r1,r2⟩:=refRead_eq s
 cases hr:(readOf s).1 with
 | none =>
  have HF:whyRB L s=([],errOf (readOf s).2.1,(((readOf s).2.2:Nat):Int)):=by unfold whyRB; rw [r2 hr]
  rw [HF]
  refine (bookWhy_bad s w bb Z S hmax h hE hr).mono ?_
  rintro e w' ⟨he,hb,K,hK',U⟩
  exact ⟨.slice none 0 0,w'.heap.size,he,U.size,hb.monoZ (fun k hk=>⟨hk.1,hk.2,hk.2⟩) (fun k hk=>hk.2.2),⟨K,hK',U⟩,⟨rfl,.inl ⟨rfl,rfl⟩⟩⟩
 | some x =>
  obtain ⟨hn,hz,_⟩:=readOf_small hr
  obtain ⟨o1,_,_⟩:=readOf_ok hr
  have ht:=h.terms
  have e1:=hK.holds.follows_iff hn (by omega)
  have e2:=clashR_iff (L:=L++[contraT (eraseS x)]) (fun t ht=>by
   simp only [List.mem_append,List.mem_singleton] at ht
   rcases ht with ht | rfl
   ·exact hK.ok t ht
   ·exact o1)
  cases hf:followsM S x with
  | false =>
   have hc:clashR (L++[contraT (eraseS x)])=false:=by
    cases hcc:clashR (L++[contraT (eraseS x)]) with
    | false=>rfl
    | true=>have:=e1.2 (e2.1 hcc); rw [hf] at this; cases this
   have HF:whyRB L s=([],5,0):=by unfold whyRB; rw [r1 x hr]; simp only [hc]; rfl
   rw [HF]
   refine (bookWhy_no s w bb Z S hmax h hE hr hf).mono ?_
   rintro e w' ⟨he,hb,K,hK',U⟩
   exact ⟨.slice none 0 0,w'.heap.size,he,U.size,hb.monoZ (fun k hk=>⟨hk.1,hk.2,hk.2⟩) (fun k hk=>hk.2.2),⟨K,hK',U⟩,⟨rfl,.inl ⟨rfl,rfl⟩⟩⟩
  | true =>
   have hc:clashR (L++[contraT (eraseS x)])=true:=e2.2 (e1.1 hf)
   have hw1:=hK.holds.why_is hK.small hn hz ht
   have hw2:=whyDoc_is (L:=L) (c:=contraT (eraseS x)) hK.ok o1
   have HF:whyRB L s=(whyL (otherM ⟨_,contra x⟩ (sentsX S)) (sentsX S),0,0):=by
    unfold whyRB
    rw [r1 x hr]
    simp only [hc,if_true]
    rw [hw1.unique hw2]
   rw [HF]
   exact bookWhy_yes s w bb Z S L hmax h hE ⟨hK.holds,hK.small,hK.holds.tags⟩ hr hf
def WhyTold (w w':World) (xb:Nat) (Z:Nat->Prop) (S:WS) (L:List ST) (M:List Nat) (v:Value):Prop :=
 ∃ Z' l,BothAt w' xb Z' S L M/\(∀ k,Z' k->(Z k\/w.heap.size<=k)/\v.ownBlock ≠ some k)/\(∃ K,(∀ k ∈ K,Z k)/\Upd K w w')/\w'.ownsRow w.heap.size 3 1 v l.length (intsOf l)/\l.length<=1000
theorem whyRB_len {L:List ST} (hok:∀ s ∈ L,STOK s) {s:ByteArray}:(whyRB L s).1.length<=L.length:=by
 obtain ⟨r1,r2⟩:=refRead_eq s
 cases hr:(readOf s).1 with
 | none =>
  unfold whyRB
  rw [r2 hr]
  exact Nat.zero_le _
 | some x =>
  obtain ⟨o1,_,_⟩:=readOf_ok hr
  have hw:=whyDoc_is (L:=L) (c:=contraT (eraseS x)) hok o1
  unfold whyRB
  rw [r1 x hr]
  simp only
  split
  ·exact nodup_below _ _ (hw.rise.imp (fun h=>Nat.ne_of_lt h)) hw.lt
  ·exact Nat.zero_le _
theorem BothAt.why_left {w w1 w2:World} {xb bb rb m:Nat} {Z Zb Zr:Nat->Prop} {S:WS} {L:List ST} {M:List Nat} {K1:List Nat} {v:Value} {l:List Nat} (h:BothAt w xb Z S L M) (c0:w.cell? ⟨xb,0,none⟩=some (.pointer (some ⟨bb,0,none⟩))) (c1:w.cell? ⟨xb,1,none⟩=some (.pointer (some ⟨rb,0,none⟩)))
  (hr:RBAt w rb Zr L M) (z1:∀ k,Zb k->Z k/\¬ Zr k/\k ≠ xb) (z2:∀ k,Zr k->Z k/\k ≠ xb) (hm:w.heap.size<=m)
  (hb1:BookAt w1 bb (fun k=>(Zb k\/w.heap.size<=k)/\k < m/\k < w1.heap.size) S) (hK1:∀ k ∈ K1,Zb k) (U1:Upd K1 w w1) (U2:Upd [] w1 w2) (hr1:w1.ownsRow m 3 1 v l.length (intsOf l)) (hl:l.length<=1000):WhyTold w w2 xb Z S L M v:=by
 have s1:=U1.size
 have s2:=U2.size
 have hp:0 < w.heap.size:=h.err.1
 have hlt:=h.lt
 have U:Upd K1 w w2:=U1.trans' U2 (fun x hx _=>(by cases hx))
 have hKx:xb ∉ K1:=fun hm=>(z1 _ (hK1 _ hm)).2.2 rfl
 have hvb:∀ k,v.ownBlock=some k->m<=k:=fun k hk=>own_geT hr1 hk
 refine ⟨fun k=>Z k\/(w.heap.size<=k/\k < m/\k < w2.heap.size),l,⟨by omega,.inl h.own,fun k hk=>?_,⟨bb,rb,fun k=>(Zb k\/w.heap.size<=k)/\k < m/\k < w1.heap.size,Zr,(U.cell (p:=⟨xb,0,none⟩) hlt hKx).trans c0,(U.cell (p:=⟨xb,1,none⟩) hlt hKx).trans c1,hb1.later U2 (fun _ _=>by simp),(hr.later U1 (fun k hk hm=>(z1 k (hK1 k hm)).2.1 hk)).later U2 (fun _ _=>by simp),fun k hk=>?_,fun k hk=>⟨.inl (z2 k hk).1,(z2 k hk).2⟩⟩,h.err.later U (fun hm=>by have:=(h.low 0 (z1 _ (hK1 _ hm)).1).1; omega),h.both⟩,fun k hk=>⟨?_,fun e=>?_⟩,⟨K1,fun k hk=>(z1 k (hK1 k hk)).1,U⟩,own_base (U2.ownsRow hr1 (fun _ _=>by simp)) hm,hl⟩
 ·rcases hk with h1 | h1
  ·have:=h.low k h1; omega
  ·omega
 ·rcases hk.1 with h5 | h5
  ·exact ⟨.inl (z1 k h5).1,(z1 k h5).2⟩
  ·exact ⟨.inr ⟨h5,hk.2.1,by omega⟩,fun h6=>by have:=hr.low k h6; omega,by omega⟩
 ·rcases hk with h1 | h1
  ·exact .inl h1
  ·exact .inr h1.1
 ·have:=hvb k e
  rcases hk with h1 | h1
  ·have:=(h.low k h1).2; omega
  ·omega
theorem whyL_own (s:ByteArray) (hmax:s.size<=maxLen) (w:World) (xb:Nat) (Z:Nat->Prop) (S:WS) (L:List ST) (M:List Nat) (h:BothAt w xb Z S L M) :
  Calls Tryz.prog 36 #[.pointer (some ⟨xb,0,none⟩),.string s] w fun e w'=>∃ v,e=.returned (.tuple #[v,.bool true])/\WhyTold w w' xb Z S L M v:=by
 obtain ⟨bb,rb,Zb,Zr,c0,c1,hb,hr,z1,z2⟩:=h.ex
 have HS:=hide (bookWhy_any s w bb Zb S L hmax hb h.err h.both)
 have HR:=hide (fun (w1:World) (K:List Nat) (hK:∀ k ∈ K,Zb k) (U:Upd K w w1)=>refWhy_any s w1 rb Zr L M (hr.later U (fun k hk hm=>(z1 k (hK k hm)).2.1 hk)) h.both.ok h.both.small (by have:=h.both.length; have:=h.both.saids; omega))
 have Hfin:=hide (fun (w1 w2:World) (K1:List Nat) (v:Value) (m:Nat) (l:List Nat) hm hb1 (hK1:∀ k ∈ K1,Zb k) (U1:Upd K1 w w1) (U2:Upd [] w1 w2) hr1 hl=>h.why_left (w1:=w1) (w2:=w2) (K1:=K1) (v:=v) (m:=m) (l:=l) c0 c1 hr z1 z2 hm hb1 hK1 U1 U2 hr1 hl)
 have hlw:=whyRB_len h.both.ok (s:=s)
 have hls:L.length<=40:=by rw [<- h.both.length]; exact h.both.saids
 have Hc1:Hid (∀ (w1:World) (K:List Nat),(∀ k ∈ K,Zb k)->Upd K w w1->w1.cell? ⟨xb,1,none⟩=some (.pointer (some ⟨rb,0,none⟩))):=fun w1 K hK U=>(U.cell (p:=⟨xb,1,none⟩) h.lt (fun hm=>(z1 _ (hK _ hm)).2.2 rfl)).trans c1
 clear h hb hr z1 z2
 obtain ⟨⟨l,r2,r3⟩,hr⟩:∃ r,whyRB L s=r:=⟨_,rfl⟩
 rw [hr] at HS HR hlw
 simp only at HS HR hlw
 clear hr c1
 go_enter Tryz.func36,Tryz.ntmps36
 go_wp2_with (first
  | (go_at_call 27; refine HS.out.mono ?_; rintro e w1 ⟨v1,m1,rfl,hm1,hb1,⟨K1,hK1,U1⟩,hr1⟩; have k1:=Hc1.out w1 K1 hK1 U1; have HR1:=hide (HR.out w1 K1 hK1 U1); have Hb1:=hide hb1; have HK1:=hide hK1; have HU1:=hide U1; have Hr1:=hide hr1; have Hm1:=hide hm1; clear hb1 hK1 U1 hr1 hm1)
  | (go_at_call 70; refine HR1.out.mono ?_; rintro e w2 ⟨v2,rfl,hu2,hr2⟩; have HU2:=hide hu2; have Hsi:=hide (sameInts_any w2 _ _ v1 v2 l l (hu2.ownsRow Hr1.out (fun _ _=>by simp)) hr2); rw [decide_eq_true rfl] at Hsi; clear hu2 hr2)
  | (go_at_call 71; refine Hsi.out.mono ?_; rintro e w4 ⟨rfl,m,hw4⟩; rw [hw4]; clear hw4 w4)
  | (go_at_call 30; refine (numL_any _ _).mono ?_; rintro e w3 ⟨rfl,hw3⟩; rw [hw3]; clear hw3 w3))
 go_ret2
 exact ⟨v1,by simp,Hfin.out w1 (w2.drewN m) K1 v1 m1 l Hm1.out Hb1.out HK1.out HU1.out (HU2.out.drewN m) Hr1.out (by omega)⟩
theorem refOf_any (w:World) (B:Nat) (v:Value) (rs:List Value) (ls:List (List ByteArray)) (t:ByteArray) (i:Nat) (l:List ByteArray) (h:LRead w B v rs ls) (hi:ls[i]?=some l) (ht:t ∈ l) (hno:∀ i' l',i' < i->ls[i']?=some l'->t ∉ l') (hls:ls.length<=100000) (hle:∀ l' ∈ ls,l'.length<=100000) :
  Calls Tryz.prog 105 #[v,.string t] w fun e w'=>e=.returned (.int .i64 i)/\w'=w:=by
 obtain ⟨n,hn⟩:∃ n,ls.length=n:=⟨_,rfl⟩
 have hr:=h.row
 rw [hn] at hr hls
 obtain ⟨a,cap,hv,p1,p2,f1⟩:=rows_form hr (by rw [h.len,hn])
 subst hv
 have hin:=(List.getElem?_eq_some_iff.1 hi).1
 rw [hn] at hin
 obtain ⟨g,rfl,_,q1⟩:=f1 (by omega)
 have HF:=hide q1
 have HL:=hide h
 have Hn:=hide hn
 have Hi:=hide hi
 have Ht:=hide ht
 have Hno:=hide hno
 have Hle:=hide hle
 unfold maxLen at p2
 clear h hn hi ht hno q1 hr f1 hle
 go_enter Tryz.func105,Tryz.ntmps105
 go_wp2
 go_loopw [5] (fun c wr=>∃ j:Nat,j<=i/\c=.int .i64 j/\wr=w) (fun c _=>n - (intOf c).toNat)
 case atStart=>exact ⟨0,Nat.zero_le _,rfl,rfl⟩
 case round =>
  obtain ⟨j,hj,rfl,hwr⟩:=hrel
  rw [hwr]
  clear hwr wr
  have hjI:(j:Int) < (n:Int):=by omega
  have hjc:(j:Int) < (cap:Int):=by omega
  obtain ⟨r1,hr1⟩:∃ r,rs[j]?=some r:=⟨_,List.getElem?_eq_getElem (by rw [HL.out.len,Hn.out]; omega)⟩
  obtain ⟨l1,hl1⟩:∃ l,ls[j]?=some l:=⟨_,List.getElem?_eq_getElem (by rw [Hn.out]; omega)⟩
  have z1:=HF.out j r1 hr1
  have hS:=HL.out.all j r1 l1 hr1 hl1
  have hm:=Hle.out l1 (List.mem_of_getElem? hl1)
  obtain ⟨b,cb,hv1,s1,s2,s3,s4⟩:=strRow_form2 hS
  obtain ⟨m,hm'⟩:∃ m,l1.length=m:=⟨_,rfl⟩
  rw [hm'] at hv1 s1 s4 hm
  subst hv1
  have Hm:=hide hm'
  have H4:=hide s4
  unfold maxLen at s2
  have HJ:Hid (j < i->t ∉ l1):=fun hlt=>Hno.out j l1 hlt hl1
  have HE:Hid (j=i->t ∈ l1):=fun e=>by
   have h2:=Hi.out
   rw [<- e,hl1] at h2
   cases h2
   exact Ht.out
  clear hr1 hl1 hS hm' s4 s3
  go_wp2
  go_loopw [6] (fun c wr=>∃ q:Nat,q<=m/\c=.int .i64 q/\wr=w/\Hid (∀ (q':Nat) (x:ByteArray),q' < q->l1[q']?=some x->x ≠ t)) (fun c _=>m - (intOf c).toNat)
  case atStart=>exact ⟨0,Nat.zero_le _,rfl,rfl,fun q' x h=>by omega⟩
  case round =>
   obtain ⟨q,hq,rfl,hwr,HQ⟩:=hrel
   rw [hwr]
   clear hwr wr
   by_cases hqm:q < m
   ·have hqI:(q:Int) < (m:Int):=by omega
    have hqc:(q:Int) < (cb:Int):=by omega
    obtain ⟨gb,rfl,_,k4⟩:=H4.out (by omega)
    obtain ⟨x,hx⟩:∃ x,l1[q]?=some x:=⟨_,List.getElem?_eq_getElem (by rw [Hm.out]; exact hqm)⟩
    have z2:=k4 q x hx
    have Hx:=hide hx
    clear k4 hx
    by_cases e:x=t
    ·subst e
     have hji:Hid (j=i):=by
      show _=_
      by_cases hlt:j < i
      ·exact absurd (List.mem_of_getElem? Hx.out) (HJ.out hlt)
      ·omega
     go_wp2
     go_ret
     rw [hji.out]
     exact ⟨rfl,rfl⟩
    ·have he:=toList_ne e
     have HN:Hid (∀ (q':Nat) (y:ByteArray),q' < q+1->l1[q']?=some y->y ≠ t):=fun q' y hq' hy=>by
      by_cases e2:q' < q
      ·exact HQ.out q' y e2 hy
      ·obtain rfl:q'=q:=(by omega)
       rw [Hx.out] at hy
       cases hy
       exact e
     go_wp2
     refine ⟨⟨q+1,by omega,by simp,trivial,HN⟩,?_⟩
     simp [intOf]
     omega
   ·have hqI:¬ (q:Int) < (m:Int):=by omega
    have hji:j < i:=by
     by_cases e:j=i
     ·obtain ⟨q',hq'⟩:=List.getElem?_of_mem (HE.out e)
      have:=(List.getElem?_eq_some_iff.1 hq').1
      have hm2:=Hm.out
      exact absurd rfl (HQ.out q' t (by omega) hq')
     ·omega
    go_wp2
    refine ⟨⟨j+1,by omega,by simp,trivial⟩,?_⟩
    simp [intOf]
    omega
def aheadR (x y:RowP):Bool:=decide (cmpRow x y < 0)
def alikeR (x y:RowP):Bool:=decide (cmpRow x y=0)
theorem ahead_name {x y:RowP} (h:x.name ≠ y.name):aheadR x y=Op.bytesLess x.name.toList y.name.toList/\alikeR x y=false:=by
 have h1:Lib.compareBytes x.name.data.toList y.name.data.toList ≠ 0:=fun e=>h (ByteArray.ext (Array.ext' ((lin_bytes.eq _ _).1 e)))
 have h2:cmpRow x y=Lib.compareBytes x.name.data.toList y.name.data.toList:=by
  unfold cmpRow firstNZ
  rw [if_pos h1]
 refine ⟨?_,by unfold alikeR; rw [h2]; simpa using h1⟩
 rw [bytesLess_eq]
 unfold aheadR
 rw [h2]
 simp only [ByteArray.toList_eq]
 exact decide_eq_decide.2 (cmpB_lt _ _).1
theorem ahead_len {x y:RowP} (hn:x.name=y.name) (h:x.args.length ≠ y.args.length):aheadR x y=decide (x.args.length < y.args.length)/\alikeR x y=false:=by
 have h1:cmpI x.args.length y.args.length ≠ 0:=fun e=>h (cmpI_zero.1 e)
 have h0:Lib.compareBytes x.name.data.toList y.name.data.toList=0:=(lin_bytes.eq _ _).2 (by rw [hn])
 have h2:cmpRow x y=cmpI x.args.length y.args.length:=by
  simp only [cmpRow,firstNZ,h0]
  simp [h1]
 refine ⟨?_,by unfold alikeR; rw [h2]; simpa using h1⟩
 unfold aheadR
 rw [h2]
 exact decide_eq_decide.2 cmpI_lt
theorem ahead_args {x y:RowP} (hn:x.name=y.name) (h:x.args.length=y.args.length):cmpRow x y=cmpArgs x.args y.args:=by
 have h1:cmpI x.args.length y.args.length=0:=cmpI_zero.2 h
 have h0:Lib.compareBytes x.name.data.toList y.name.data.toList=0:=(lin_bytes.eq _ _).2 (by rw [hn])
 simp only [cmpRow,firstNZ,h0,h1]
 by_cases h2:cmpArgs x.args y.args=0
 ·simp [h2]
 ·simp [h2]
theorem refAhead_any (x y:RowP) (vx vy:Value) (W:World) (hx:IntsAt W vx x.args) (hy:IntsAt W vy y.args) :
  Calls Tryz.prog 106 #[.agg #[.string x.name,vx,.int .i64 x.value],.agg #[.string y.name,vy,.int .i64 y.value]] W fun e w'=>e=.returned (.tuple #[.bool (aheadR x y),.bool (alikeR x y)])/\Upd [] W w':=by
 obtain ⟨W1,hW1⟩:∃ W1,W1=(W.alloc (.cells #[.string x.name,vx,.int .i64 x.value] 88)).alloc (.cells #[.string y.name,vy,.int .i64 y.value] 88):=⟨_,rfl⟩
 have hU1:Upd [] W W1:=by rw [hW1]; exact ((Upd.refl [] W).alloc _).alloc _
 have hx1:=hx.later hU1 (fun _ _=>by simp)
 have hy1:=hy.later hU1 (fun _ _=>by simp)
 obtain ⟨ax,capx,hvx,lx1,lx2,fx⟩:=hx1
 obtain ⟨ay,capy,hvy,ly1,ly2,fy⟩:=hy1
 obtain ⟨nx,hnx⟩:∃ nx,x.args.length=nx:=⟨_,rfl⟩
 obtain ⟨ny,hny⟩:∃ ny,y.args.length=ny:=⟨_,rfl⟩
 rw [hnx] at hvx lx1 fx
 rw [hny] at hvy ly1 fy
 subst hvx hvy
 have e0:W1.cell? ⟨W.heap.size,0,none⟩=some (.string x.name):=by rw [hW1]; go_simp
 have e1:W1.cell? ⟨W.heap.size,1,none⟩=some (.slice ax nx capx):=by rw [hW1]; go_simp
 have d0:W1.cell? ⟨W.heap.size+1,0,none⟩=some (.string y.name):=by rw [hW1]; go_simp
 have d1:W1.cell? ⟨W.heap.size+1,1,none⟩=some (.slice ay ny capy):=by rw [hW1]; go_simp
 have HU:=hide hU1
 have Fx:=hide fx
 have Fy:=hide fy
 have Hnx:=hide hnx
 have Hny:=hide hny
 unfold maxLen at lx2 ly2
 clear hx hy hU1 fx fy hnx hny
 obtain ⟨A,hA⟩:∃ A,aheadR x y=A:=⟨_,rfl⟩
 obtain ⟨E,hE⟩:∃ E,alikeR x y=E:=⟨_,rfl⟩
 rw [hA,hE]
 have HA:=hide hA
 have HE:=hide hE
 clear hA hE
 by_cases hn:x.name=y.name
 ·have Hnm:=hide hn
  rw [<- hn] at d0
  rw [<- hn] at hW1 ⊢
  clear hn
  by_cases hl:nx=ny
  ·have hCA:Hid (cmpRow x y=cmpArgs x.args y.args):=ahead_args Hnm.out (by rw [Hnx.out,Hny.out]; exact hl)
   subst hl
   go_enter Tryz.func106,Tryz.ntmps106
   go_upto_region 1 with fail
   rw [<- hW1]
   clear hW1
   go_wp2
   go_loopw [6] (fun i wr=>∃ j m:Nat,j<=nx/\i=.int .i64 j/\wr=W1.drewN m/\Hid (cmpArgs x.args y.args=cmpArgs (x.args.drop j) (y.args.drop j))) (fun i _=>nx - (intOf i).toNat)
   case atStart=>exact ⟨0,0,Nat.zero_le _,rfl,rfl,rfl⟩
   case round =>
    obtain ⟨j,m,hj,rfl,hwr,HJ⟩:=hrel
    rw [hwr]
    clear hwr wr
    by_cases hjn:j < nx
    ·have hjI:(j:Int) < (nx:Int):=by omega
     obtain ⟨a,ha⟩:∃ a,x.args[j]?=some a:=⟨_,List.getElem?_eq_getElem (by rw [Hnx.out]; exact hjn)⟩
     obtain ⟨b,hb⟩:∃ b,y.args[j]?=some b:=⟨_,List.getElem?_eq_getElem (by rw [Hny.out]; exact hjn)⟩
     obtain ⟨g1,rfl,_,k1⟩:=Fx.out (by omega)
     obtain ⟨g2,rfl,_,k2⟩:=Fy.out (by omega)
     have q1:=k1 j a ha
     have q2:=k2 j b hb
     have hst:=cmpArgs_step ha hb
     have HST:=hide hst
     clear k1 k2 ha hb hst
     by_cases hab:a=b
     ·have HN:Hid (cmpArgs x.args y.args=cmpArgs (x.args.drop (j+1)) (y.args.drop (j+1))):=by show _=_; rw [HJ.out,HST.out,if_neg (by simp [cmpI_zero.2 hab])]
      subst hab
      go_wp2_with fail
      go_quiet (fail)
      go_wp2
      refine ⟨⟨j+1,_,by omega,by simp,rfl,HN⟩,?_⟩
      simp [intOf]
      omega
     ·have hc0:cmpI a b ≠ 0:=fun e=>hab (cmpI_zero.1 e)
      have HN:Hid (cmpRow x y=cmpI a b):=by show _=_; rw [hCA.out,HJ.out,HST.out,if_pos hc0]
      have HA1:Hid (A=decide (a < b)):=by
       show _=_
       rw [<- HA.out]
       unfold aheadR
       rw [HN.out]
       exact decide_eq_decide.2 cmpI_lt
      have HE1:Hid (E=false):=by
       show _=_
       rw [<- HE.out]
       unfold alikeR
       rw [HN.out]
       simpa using hc0
      have habI:((a:Int) != (b:Int))=true:=by simp; omega
      clear hc0
      go_wp2_with fail
      go_quiet (fail)
      go_wp2_with fail
      go_quiet (fail)
      go_wp2
      go_ret2
      exact ⟨by rw [HA1.out,HE1.out]; rfl,((HU.out.drewN m).drewN _).drewN _⟩
    ·have hjI:¬ (j:Int) < (nx:Int):=by omega
     have HN:Hid (cmpRow x y=0):=by
      show _=_
      rw [hCA.out,HJ.out,List.drop_eq_nil_of_le (by rw [Hnx.out]; omega),List.drop_eq_nil_of_le (by rw [Hny.out]; omega)]
      rfl
     have HA1:Hid (A=false):=by show _=_; rw [<- HA.out]; unfold aheadR; rw [HN.out]; rfl
     have HE1:Hid (E=true):=by show _=_; rw [<- HE.out]; unfold alikeR; rw [HN.out]; rfl
     go_wp2
     go_ret2
     exact ⟨by rw [HA1.out,HE1.out]; rfl,HU.out.drewN m⟩
  ·have h1:=ahead_len Hnm.out (by rw [Hnx.out,Hny.out]; exact hl)
   have HA1:Hid (A=decide (nx < ny)):=by
    show _=_
    rw [<- HA.out,h1.1,Hnx.out,Hny.out]
   have HE1:Hid (E=false):=by show _=_; rw [<- HE.out]; exact h1.2
   have hlI:((nx:Int) != (ny:Int))=true:=by simp; omega
   clear h1
   go_enter Tryz.func106,Tryz.ntmps106
   go_upto_region 1 with fail
   rw [<- hW1]
   clear hW1
   go_wp2
   go_ret2
   exact ⟨by rw [HA1.out,HE1.out]; rfl,HU.out⟩
 ·have hb:=toList_ne hn
  have h1:=ahead_name hn
  have HA1:Hid (A=Op.bytesLess x.name.toList y.name.toList):=by show _=_; rw [<- HA.out]; exact h1.1
  have HE1:Hid (E=false):=by show _=_; rw [<- HE.out]; exact h1.2
  clear h1 hn
  go_enter Tryz.func106,Tryz.ntmps106
  go_upto_region 1 with fail
  rw [<- hW1]
  clear hW1
  go_wp2
  go_ret2
  exact ⟨by rw [HA1.out,HE1.out]; rfl,HU.out⟩
noncomputable def isIn (t:ByteArray) (l:List ByteArray):Bool:=@decide (t ∈ l) (Classical.propDecidable _)
theorem isIn_iff {t:ByteArray} {l:List ByteArray}:isIn t l=true ↔ t ∈ l:=@decide_eq_true_iff (t ∈ l) (Classical.propDecidable _)
noncomputable def ofP (ls:List (List ByteArray)) (t:ByteArray):Nat:=ls.findIdx (isIn t)
theorem ofP_is {ls:List (List ByteArray)} {t:ByteArray} (h:∃ l ∈ ls,t ∈ l):∃ l,ls[ofP ls t]?=some l/\t ∈ l/\∀ i' l',i' < ofP ls t->ls[i']?=some l'->t ∉ l':=by
 obtain ⟨l,hl,ht⟩:=h
 have hlt:ofP ls t < ls.length:=List.findIdx_lt_length_of_exists ⟨l,hl,isIn_iff.2 ht⟩
 refine ⟨ls[ofP ls t],List.getElem?_eq_getElem hlt,?_,fun i' l' hi hl' hm=>?_⟩
 ·exact isIn_iff.1 (List.findIdx_getElem (xs:=ls) (p:=isIn t) (w:=hlt))
 ·have:=List.not_of_lt_findIdx (xs:=ls) (p:=isIn t) hi
  obtain ⟨hb,e⟩:=List.getElem?_eq_some_iff.1 hl'
  rw [e,isIn_iff.2 hm] at this
  simp at this
theorem ofP_unique {ls:List (List ByteArray)} {t:ByteArray} {i:Nat} {l:List ByteArray} (hi:ls[i]?=some l) (ht:t ∈ l) (hu:∀ j l',ls[j]?=some l'->t ∈ l'->j=i):ofP ls t=i:=by
 obtain ⟨m,h1,h2,_⟩:=ofP_is ⟨l,List.mem_of_getElem? hi,ht⟩
 exact hu _ m h1 h2
noncomputable def rowT (ls:List (List ByteArray)):Trm->RowP
 | .node nm ps=>⟨nm,ps.map fun p=>ofP ls p.text,ofP ls (Trm.node nm ps).text⟩
theorem nodup_idx {l:List Nat} (h:l.Nodup) {j c:Nat} (hj:l[j]?=some c):l.idxOf c=j:=by
 have hm:=List.mem_of_getElem? hj
 have hlt:=List.idxOf_lt_length_iff.2 hm
 have h1:l[l.idxOf c]?=some c:=by rw [List.getElem?_eq_getElem hlt,List.getElem_idxOf hlt]
 exact nodup_at h h1 hj
theorem placesTo_at {S:WS} {ts:List TN} (hnd:(ts.map (·.2)).Nodup) (hlt:∀ t ∈ ts,t.2 < ts.length):∀ (i p:Nat) (t:TN),i<=ts.length->p < i->ts[p]?=some t->(placesTo S ts i).getD t.2 0=placeIn (clsTo S ts i) (classAt S t.2)
 | 0,p,t,_,hp,_=>by omega
 | i+1,p,t,hi,hp,ht=>by
  obtain ⟨u,hu⟩:∃ u,ts[i]?=some u:=⟨_,List.getElem?_eq_getElem (by omega)⟩
  rw [placesTo_succ hu,clsTo_succ hu]
  have hul:=hlt u (List.mem_of_getElem? hu)
  by_cases e:p=i
  ·subst e
   rw [ht] at hu
   cases hu
   rw [List.getD_eq_getElem?_getD,List.getElem?_set_self (by rw [placesTo_length]; exact hul)]
   rfl
  ·have hne:u.2 ≠ t.2:=fun e2=>e (nodup_at hnd (x:=t.2) (by rw [List.getElem?_map,ht]; rfl) (by rw [List.getElem?_map,hu]; simp [e2]))
   rw [List.getD_eq_getElem?_getD,List.getElem?_set_ne hne,<- List.getD_eq_getElem?_getD,placesTo_at hnd hlt i p t (by omega) (by omega) ht]
   have hc:classAt S t.2 ∈ clsTo S ts i:=by
    unfold clsTo
    exact List.mem_map.2 ⟨t,List.mem_of_getElem? (i:=p) (by rw [List.getElem?_take_of_lt (by omega)]; exact ht),rfl⟩
   exact (idx_prefix _ _ hc).symm
theorem sortedT_mem (S:WS) (t:TN):t ∈ sortedT S ↔ t.2 < S.shapes.length/\t.1=plainT S t.2:=by
 rw [(sortedT_permL S).mem_iff]
 unfold textsTo
 simp only [List.mem_map,List.mem_range]
 constructor
 ·rintro ⟨q,hq,rfl⟩
  exact ⟨hq,rfl⟩
 ·rintro ⟨h1,h2⟩
  exact ⟨t.2,h1,by rw [<- h2]⟩
def allCls (S:WS):List Nat:=clsTo S (sortedT S) (sortedT S).length
theorem allCls_has {S:WS} {i:Nat} (hi:i < S.shapes.length):classAt S i ∈ allCls S:=by
 unfold allCls clsTo
 rw [List.take_of_length_le (Nat.le_refl _)]
 exact List.mem_map.2 ⟨(plainT S i,i),(sortedT_mem S _).2 ⟨hi,rfl⟩,rfl⟩
theorem placesOf_at {S:WS} {i:Nat} (hi:i < S.shapes.length):(placesOf S).getD i 0=placeIn (allCls S) (classAt S i):=by
 obtain ⟨p,hp⟩:=List.getElem?_of_mem ((sortedT_mem S (plainT S i,i)).2 ⟨hi,rfl⟩)
 have:=placesTo_at (sortedT_nums S).1 (sortedT_nums S).2 (sortedT S).length p _ (Nat.le_refl _) (List.getElem?_eq_some_iff.1 hp).1 hp (S:=S)
 exact this
theorem ofP_place {S:WS} (hd:∀ i j,i < S.shapes.length->j < S.shapes.length->plainT S i=plainT S j->i=j) {i:Nat} (hi:i < S.shapes.length):ofP (classesOf S) (plainT S i)=placeIn (allCls S) (classAt S i):=by
 have hmem:∀ c y,y ∈ ofClass S (sortedT S) (sortedT S).length c ↔ ∃ i,i < S.shapes.length/\plainT S i=y/\classAt S i=c:=fun c y=>by
  unfold ofClass
  rw [List.take_of_length_le (Nat.le_refl _)]
  constructor
  ·intro h
   obtain ⟨t,h1,h2⟩:=List.mem_map.1 h
   obtain ⟨h3,h4⟩:=List.mem_filter.1 h1
   obtain ⟨a,b⟩:=(sortedT_mem S t).1 h3
   exact ⟨t.2,a,by rw [<- b]; exact h2,by simpa using h4⟩
  ·rintro ⟨q,h1,h2,h3⟩
   exact List.mem_map.2 ⟨(plainT S q,q),List.mem_filter.2 ⟨(sortedT_mem S _).2 ⟨h1,rfl⟩,by simpa using h3⟩,h2⟩
 have hc:=allCls_has hi
 have hlt:=idx_lt _ hc
 have hg:(firstsOf (allCls S))[(firstsOf (allCls S)).idxOf (classAt S i)]?=some (classAt S i):=by rw [List.getElem?_eq_getElem hlt,List.getElem_idxOf hlt]
 refine ofP_unique (l:=ofClass S (sortedT S) (sortedT S).length (classAt S i)) ?_ ((hmem _ _).2 ⟨i,hi,rfl,rfl⟩) fun j l' hj hm=>?_
 ·unfold classesOf listsTo
  rw [List.getElem?_map]
  show Option.map _ ((firstsOf (allCls S))[(firstsOf (allCls S)).idxOf (classAt S i)]?)=_
  rw [hg]
  rfl
 ·unfold classesOf listsTo at hj
  rw [List.getElem?_map] at hj
  obtain ⟨c,h1,rfl⟩:=Option.map_eq_some_iff.1 hj
  obtain ⟨q,q1,q2,q3⟩:=(hmem c _).1 hm
  have:=hd q i q1 hi q2
  subst this
  subst q3
  exact (nodup_idx (firsts_nodup (allCls S)) h1).symm
theorem place_inj {S:WS} {i j:Nat} (hi:i < S.shapes.length) (hj:j < S.shapes.length) (h:placeIn (allCls S) (classAt S i)=placeIn (allCls S) (classAt S j)):classAt S i=classAt S j:=by
 have h1:=idx_lt _ (allCls_has hi)
 have h2:=idx_lt _ (allCls_has hj)
 have e1:=List.getElem_idxOf h1
 have e2:=List.getElem_idxOf h2
 unfold placeIn at h
 rw [<- e1,<- e2]
 congr 1
theorem partsL_shapeOf {nm:ByteArray} {ks:List Nat} (h:ks.length<=3):partsL (shapeOf nm ks)=ks:=by
 match ks,h with
 | [],_=>rfl
 | [a],_=>rfl
 | [a,b],_=>rfl
 | [a,b,c],_=>rfl
theorem Both.distinct {S:WS} {L:List ST} (h:Both S L):∀ i j,i < S.shapes.length->j < S.shapes.length->plainT S i=plainT S j->i=j:=fun i j hi hj e=>by
 obtain ⟨hT,hk⟩:=termsR_ok h.ok
 have hB:=h.holds.fine.web.base
 obtain ⟨t,kt,dt⟩:=h.holds.term i hi
 obtain ⟨u,ku,du⟩:=h.holds.term j hj
 rw [den_text hB dt,den_text hB du] at e
 have:=text_inj (hT.ok t ((hk t).2 kt)) (hT.ok u ((hk u).2 ku)) e
 subst this
 exact dt.inj hB du
theorem Both.place {S:WS} {L:List ST} (h:Both S L) {t:Trm} {i:Nat} (d:DenE S t i):ofP (classesOf S) t.text=placeIn (allCls S) (classAt S i):=by
 rw [<- den_text h.holds.fine.web.base d]
 exact ofP_place h.distinct d.lt
theorem Both.row {S:WS} {L:List ST} (h:Both S L) {t:Trm} {i:Nat} (d:DenE S t i):rowOf S (placesOf S) i=rowT (classesOf S) t:=by
 have hp:=h.place d
 have hpl:=placesOf_at (S:=S) d.lt
 cases d with
 | @mk nm ps ks _ h1 h2 h3 h4 =>
  have hs:shapeAt S i=shapeOf nm ks:=by unfold shapeAt; rw [List.getD_eq_getElem?_getD,h1]; rfl
  unfold rowOf rowT
  rw [hs,partsL_shapeOf h3,hpl,<- hp]
  have e:ks.map (fun k=>(placesOf S).getD k 0)=ps.map (fun p=>ofP (classesOf S) p.text):=by
   refine list_ext (by simp [h2]) fun n a b ha hb=>?_
   rw [List.getElem?_map] at ha hb
   obtain ⟨k,hk,rfl⟩:=Option.map_eq_some_iff.1 ha
   obtain ⟨p,hp',rfl⟩:=Option.map_eq_some_iff.1 hb
   have dp:=h4 n p k hp' hk
   rw [placesOf_at dp.lt,h.place dp]
  rw [e]
  rfl
theorem Both.row_fn {S:WS} {L:List ST} (h:Both S L) {t u:Trm} (kt:known L t) (ku:known L u) (e:keyR (rowT (classesOf S) t)=keyR (rowT (classesOf S) u)):rowT (classesOf S) t=rowT (classesOf S) u:=by
 obtain ⟨i,di⟩:=h.holds.num t kt
 obtain ⟨j,dj⟩:=h.holds.num u ku
 have hval:ofP (classesOf S) t.text=ofP (classesOf S) u.text:=by
  rw [h.place di,h.place dj]
  congr 1
  refine (h.holds.eq_iff di dj).2 fun R hR=>?_
  obtain ⟨nm,ps⟩:=t
  obtain ⟨nm',qs⟩:=u
  obtain ⟨e1,e2⟩:=keyR_eq.1 e
  simp only [rowT] at e1 e2
  subst e1
  have hl:ps.length=qs.length:=by have:=congrArg List.length e2; simpa using this
  refine hR.cong nm ps qs kt ku hl fun n p q hp hq=>?_
  have hpq:ofP (classesOf S) p.text=ofP (classesOf S) q.text:=by
   have:=congrArg (fun l=>l[n]?) e2
   simp only [List.getElem?_map,hp,hq,Option.map_some,Option.some.injEq] at this
   exact this
  have kp:Part p (.node nm ps):=.within (List.mem_of_getElem? hp) (.self p)
  have kq:Part q (.node nm qs):=.within (List.mem_of_getElem? hq) (.self q)
  obtain ⟨a,da⟩:=DenE.part kp di
  obtain ⟨b,db⟩:=DenE.part kq dj
  rw [h.place da,h.place db] at hpq
  exact (h.holds.eq_iff da db).1 (place_inj da.lt db.lt hpq) R hR
 obtain ⟨e1,e2⟩:=keyR_eq.1 e
 obtain ⟨nm,ps⟩:=t
 obtain ⟨nm',qs⟩:=u
 simp only [rowT] at e1 e2 ⊢
 rw [hval,e2,e1]
theorem cmpRow_tr {x y z:RowP} (h1:cmpRow x y < 0) (h2:cmpRow y z < 0):cmpRow x z < 0:=by
 rw [cmpRow_key] at *
 exact lin_key.tr _ _ _ h1 h2
theorem cmpRow_irr (x:RowP):¬ cmpRow x x < 0:=by rw [cmpRow_key]; exact lin_key.irr _
end Go.Proofs.YtmfkpllnmmfpiaaGreatDoor
