/- Mark, BookMark, T3, S3Count, Texts, BookTell, RefHold -/
import Derived.Test.YtmfkpllnmmfpiaaGreatDoorBackA
import Derived.Test.YtmfkpllnmmfpiaaGreatDoorJoinLaw2A
import Derived.Test.YtmfkpllnmmfpiaaGreatDoorBookAskA
import Derived.Test.YtmfkpllnmmfpiaaGreatDoorRangeA
import Derived.Test.YtmfkpllnmmfpiaaGreatDoorRefLawA
import Derived.Test.YtmfkpllnmmfpiaaGreatDoorRefScanA
import Derived.Test.YtmfkpllnmmfpiaaGreatDoorPlainTextA
import Derived.Test.YtmfkpllnmmfpiaaGreatDoorSaidA
import Derived.Test.YtmfkpllnmmfpiaaGreatDoorPlainA
set_option maxHeartbeats 16000000
set_option maxRecDepth 100000
namespace Go.Proofs.YtmfkpllnmmfpiaaGreatDoor
open Go.RowKit Go.Sort
def markM (S:WS):WS:={ S with marks:=S.marks++[S.trail.length] }
theorem undo1_marks (S:WS) (u:Un):(undo1 S u).marks=S.marks:=by
 unfold undo1
 repeat' split
 all_goals rfl
theorem CanBack.marks:∀ {n:Nat} {S S0:WS},CanBack n S S0->S.marks=S0.marks
 | 0,_,_,h=>by have e:_=_:=h; rw [e]
 | n+1,S,S0,⟨us,u,_,_,hc⟩=>by
  have h1:=CanBack.marks hc
  rw [undo1_marks] at h1
  exact h1
theorem Goes.marks {S0 S:WS} (h:Goes S0 S):S.marks=S0.marks:=by
 obtain ⟨n,_,hc⟩:=h
 exact hc.marks
theorem WebAt.grow_marks {w w1 w2:World} {wb g cap:Nat} {H:Hd} {Z:Nat->Prop} {S:WS} {x:Nat} (h:WebAt w wb H Z S)
  (hu1:Upd [] w w1) (hgrow:w1.grownBy w2 H.marks.ownBlock) (hat:H.marks.ownBlock=some g\/g=w1.heap.size)
  (hown:w2.ownsRow 0 3 1 (.slice (some ⟨g,0,none⟩) (S.marks.length+1) cap) (S.marks.length+1) (intsOf S.marks++intsOf [x])) :
  WebAt (w2.setCell ⟨wb,1,none⟩ (.slice (some ⟨g,0,none⟩) (S.marks.length+1) cap)) wb { H with marks:=.slice (some ⟨g,0,none⟩) (S.marks.length+1) cap } (fun k=>Z k\/w.heap.size<=k) { S with marks:=S.marks++[x] } /\
   Upd (H.blocks wb) w (w2.setCell ⟨wb,1,none⟩ (.slice (some ⟨g,0,none⟩) (S.marks.length+1) cap)) /\
   ∀ k ∈ ({ H with marks:=.slice (some ⟨g,0,none⟩) (S.marks.length+1) cap }:Hd).blocks wb,k ∈ H.blocks wb\/w.heap.size<=k:=by
 have hA:=Hd.parts h.apart
 have hsz1:=hu1.size
 have U2:Upd H.marks.ownBlock.toList w w2:=(hu1.mono (fun x hx _=>by cases hx)).trans (Upd.of_grown hgrow)
 have hwb2:wb ∉ H.marks.ownBlock.toList:=fun hm=>(hA.m wb (by simpa using hm)).1 rfl
 have cm:w2.cell? ⟨wb,1,none⟩=some H.marks:=(U2.cell h.lt hwb2).trans h.cm
 have U:Upd (wb :: H.marks.ownBlock.toList) w (w2.setCell ⟨wb,1,none⟩ (.slice (some ⟨g,0,none⟩) (S.marks.length+1) cap)):=(U2.mono (fun x hx _=>by simp at hx ⊢; exact .inr hx)).setCell (by simp) _
 have hsub:∀ k,k ∈ wb :: H.marks.ownBlock.toList->k ∈ H.blocks wb:=fun k hk=>by
  simp at hk
  rcases hk with rfl | hk
  ·exact H.mem_wb _
  ·exact Hd.mem_marks hk
 have hgf:H.marks.ownBlock=some g\/w.heap.size<=g:=hat.imp id (fun e=>by omega)
 have hgn:H.marks.ownBlock=some g\/g ∉ H.blocks wb:=hgf.imp id (fun e hm=>by have:=h.mem_lt g hm; omega)
 have hgw:g ≠ wb:=fun e=>by
  subst e
  rcases hgf with hg | hg
  ·exact (hA.m g hg).1 rfl
  ·have:=h.lt; omega
 have hH:∀ k ∈ ({ H with marks:=.slice (some ⟨g,0,none⟩) (S.marks.length+1) cap }:Hd).blocks wb,k ∈ H.blocks wb\/w.heap.size<=k:=fun k hk=>by
  rw [Hd.mem_iff] at hk
  rcases hk with h1 | h1 | h1 | h1 | h1 | h1 | h1 | h1
  ·exact .inl (Hd.mem_iff.2 (.inl h1))
  ·exact .inl (Hd.mem_iff.2 (.inr (.inl h1)))
  ·exact .inl (Hd.mem_iff.2 (.inr (.inr (.inl h1))))
  ·exact .inl (Hd.mem_backs h1)
  ·exact .inl (Hd.mem_shapes h1)
  ·exact .inl (Hd.mem_classes h1)
  ·exact .inl (Hd.mem_said h1)
  ·simp only [own_slice,Option.some.injEq] at h1
   subst h1
   exact hgf.imp (fun e=>Hd.mem_marks e) id
 obtain ⟨cls,hrow,hall⟩:=h.rb
 have nobacks:∀ k,H.backs.ownBlock=some k->k ∉ wb :: H.marks.ownBlock.toList:=fun k hk hm=>by simp at hm; rcases hm with hm | hm; exact (hA.b k hk).1 hm; exact (hA.m k hm).2.2.2.1 hk
 have noshapes:∀ k,H.shapes.ownBlock=some k->k ∉ wb :: H.marks.ownBlock.toList:=fun k hk hm=>by simp at hm; rcases hm with hm | hm; exact (hA.s k hk).1 hm; exact (hA.m k hm).2.2.2.2.1 hk
 have noclasses:∀ k,H.classes.ownBlock=some k->k ∉ wb :: H.marks.ownBlock.toList:=fun k hk hm=>by simp at hm; rcases hm with hm | hm; exact (hA.c k hk).1 hm; exact (hA.m k hm).2.2.2.2.2.1 hk
 have nosaid:∀ k,H.said.ownBlock=some k->k ∉ wb :: H.marks.ownBlock.toList:=fun k hk hm=>by simp at hm; rcases hm with hm | hm; exact (hA.d k hk).1 hm; exact (hA.m k hm).2.2.2.2.2.2 hk
 have nonb:H.nb ∉ wb :: H.marks.ownBlock.toList:=fun hm=>by simp at hm; rcases hm with hm | hm; exact hA.wn hm.symm; exact (hA.m _ hm).2.1 rfl
 have noab:H.ab ∉ wb :: H.marks.ownBlock.toList:=fun hm=>by simp at hm; rcases hm with hm | hm; exact hA.wa hm.symm; exact (hA.m _ hm).2.2.1 rfl
 refine ⟨{
  lt:=Nat.lt_of_lt_of_le h.lt U.size
  free:=fun o=>by rw [World.frozen?_setCell]; exact (U2.frozen (p:=⟨wb,o,none⟩) h.lt hwb2).trans (h.free o)
  c0:=by have:=(U2.cell (p:=⟨wb,0,none⟩) h.lt hwb2).trans h.c0; go_simp
  c1:=by have:=(U2.cell (p:=⟨wb,2,none⟩) h.lt hwb2).trans h.c1; go_simp
  c2:=by have:=(U2.cell (p:=⟨wb,3,none⟩) h.lt hwb2).trans h.c2; go_simp
  c3:=by have:=(U2.cell (p:=⟨wb,4,none⟩) h.lt hwb2).trans h.c3; go_simp
  c4:=by have:=(U2.cell (p:=⟨wb,5,none⟩) h.lt hwb2).trans h.c4; go_simp
  c5:=by have:=(U2.cell (p:=⟨wb,6,none⟩) h.lt hwb2).trans h.c5; go_simp
  cm:=by go_simp
  rs:=U.ownsRow h.rs noshapes
  rc:=U.ownsRow h.rc noclasses
  rd:=U.ownsRow h.rd nosaid
  rm:=?_
  mn:=h.mn.later U nonb
  ma:=h.ma.later U noab
  apart:=Hd.apart_marks h.apart hgn
  rb:=⟨cls,U.ownsRow hrow nobacks,hall.mono fun _ _ hi=>hi.closures U (fun k hk _=>hsub k hk) hH⟩
  inZ:=fun k hk=>(hH k hk).imp (h.inZ k) id },U.mono fun x hx _=>hsub x hx,hH⟩
 have:=((Upd.refl [wb] w2).setCell (p:=⟨wb,1,none⟩) (by simp) (.slice (some ⟨g,0,none⟩) (S.marks.length+1) cap)).ownsRow hown (fun k hk hm=>by simp [Value.ownBlock] at hk hm; omega)
 show World.ownsRow _ _ _ _ _ (S.marks++[x]).length (intsOf (S.marks++[x]))
 rw [intsOf_append]
 simpa using this
theorem marks_any (w:World) (wb:Nat) (H:Hd) (Z:Nat->Prop) (S:WS) (h:WebAt w wb H Z S) :
  Calls Tryz.prog 62 #[.pointer (some ⟨wb,0,none⟩)] w fun e w'=>e=.returned (.int .i64 S.marks.length)/\w'=w:=by
 obtain ⟨g,cap,hv⟩:=slice_len h.rm
 have cm:=h.cm
 rw [hv] at cm
 clear hv
 go_enter Tryz.func62,Tryz.ntmps62
 go_wp2
 go_ret
 exact ⟨rfl,rfl⟩
theorem marks_slice {w:World} {wb:Nat} {H:Hd} {Z:Nat->Prop} {S:WS} (h:WebAt w wb H Z S):∃ g cap,H.marks=.slice g S.marks.length cap/\S.marks.length<=cap/\cap<=maxLen/\(0 < S.marks.length->∃ b,g=some ⟨b,0,none⟩):=by
 rcases ownsRow_slice h.rm with ⟨h1,h2⟩ | ⟨g,cap,h1,h2,h3⟩
 ·exact ⟨none,0,by rw [h1,h2],by omega,by simp [maxLen],fun e=>by omega⟩
 ·exact ⟨_,cap,h1,h2,h3,fun _=>⟨g,rfl⟩⟩
theorem trailMark_any (w:World) (wb:Nat) (H:Hd) (Z:Nat->Prop) (S:WS) (h:WebAt w wb H Z S) (hm:S.marks.length<=1000) :
  Calls Tryz.prog 63 #[.pointer (some ⟨wb,0,none⟩)] w fun e w'=>∃ mk,e=.returned (.tuple #[])/\WebAt w' wb { H with marks:=mk } (fun k=>Z k\/w.heap.size<=k) (markM S)/\Upd (H.blocks wb) w w'/\∀ k ∈ ({ H with marks:=mk }:Hd).blocks wb,k ∈ H.blocks wb\/w.heap.size<=k:=by
 obtain ⟨i0,hi,hz0,hz1,hz2⟩:=info_parts info_int
 have cm:=h.cm
 have hlt:=h.lt
 have hfr:=h.free
 have hA:=Hd.parts h.apart
 have HHere:=hide (fun (W:World) (hU:Upd [] w W)=>here_any W wb H Z S (h.later hU (fun _ _=>by simp)))
 have hrow1:=(((Upd.refl [] w).alloc (.cells #[.int .i64 S.trail.length] 3)).drew).ownsRow h.rm (fun _ _=>by simp)
 have Hc:Hid (∀ w3,(w.alloc (.cells #[.int .i64 S.trail.length] 3)).drew.grownBy w3 H.marks.ownBlock->w3.cell? ⟨wb,1,none⟩=some H.marks/\∀ o,w3.frozen? ⟨wb,o,none⟩=false):=fun w3 hg=>by
  have hn:wb ∉ H.marks.ownBlock.toList:=fun hm=>(hA.m wb (by simpa using hm)).1 rfl
  have U:=(((Upd.refl H.marks.ownBlock.toList w).alloc (.cells #[.int .i64 S.trail.length] 3)).drew).trans (Upd.of_grown hg)
  exact ⟨(U.cell h.lt hn).trans h.cm,fun o=>(U.frozen (p:=⟨wb,o,none⟩) h.lt hn).trans (h.free o)⟩
 have Hfin:Hid (∀ g cap w3,(w.alloc (.cells #[.int .i64 S.trail.length] 3)).drew.grownBy w3 H.marks.ownBlock->(H.marks.ownBlock=some g\/g=(w.alloc (.cells #[.int .i64 S.trail.length] 3)).drew.heap.size)->w3.ownsRow 0 3 1 (.slice (some ⟨g,0,none⟩) (S.marks.length+1) cap) (S.marks.length+1) (intsOf S.marks++[.int .i64 S.trail.length])->_) :=
  fun g cap w3 hg hat hown=>WebAt.grow_marks (x:=S.trail.length) h (((Upd.refl [] w).alloc _).drew) hg hat hown
 have hnews:∀ j u,[Value.int .i64 S.trail.length][j]?=some u->(w.alloc (.cells #[.int .i64 S.trail.length] 3)).drew.cell? ((⟨w.heap.size,0,none⟩:Addr).add j)=some u:=World.news_of_block (heap_alloc_new w _)
 have hone:∀ u ∈ [Value.int .i64 S.trail.length],u.oneCell'=true:=by intro u hu'; simp at hu'; subst hu'; rfl
 have hcm2:((Upd.refl [] w).alloc (.cells #[.int .i64 S.trail.length] 3)).size=((Upd.refl [] w).alloc (.cells #[.int .i64 S.trail.length] 3)).size:=rfl
 have am:=(((Upd.refl [] w).alloc (.cells #[.int .i64 S.trail.length] 3)).cell (p:=⟨wb,1,none⟩) hlt (by simp)).trans cm
 have hn1:wb ≠ w.heap.size:=by omega
 clear hA h hcm2
 go_enter Tryz.func63,Tryz.ntmps63
 go_wp2_with fail
 go_region_law (first
  | (refine step_append_lies _ (by rfl) _ _ 44 (by rfl) 0 3 i0 (.int .i64 0) 1 8 Tryz.underlying44 hi hz0 hz1 hz2 (by rfl) (by decide) H.marks S.marks.length (intsOf S.marks) (by rfl) hrow1 ⟨w.heap.size,0,none⟩ 1 1 [Value.int .i64 S.trail.length] (by rfl) (by rfl) hnews hone (by decide) (by unfold maxLen; omega) (by omega) (Nat.zero_le _) _ (by rfl) ?_; intro g cap w3 hown' hgrow hat hlt3; obtain ⟨k0,kf⟩:=Hc.out w3 hgrow)
  | (go_simp; go_at_call 56; refine (HHere.out _ (Upd.refl [] w).drew).mono ?_; rintro e w2 ⟨rfl,hw2⟩; rw [hw2]; clear hw2 w2))
 all_goals (
  go_wp2
  go_end0
  have:=Hfin.out g cap w3 hgrow hat hown'
  exact ⟨_,rfl,this.1,this.2.1,this.2.2⟩)
theorem backToMark_none (w:World) (wb:Nat) (H:Hd) (Z:Nat->Prop) (S:WS) (h:WebAt w wb H Z S) (hm:S.marks=[]) :
  Calls Tryz.prog 64 #[.pointer (some ⟨wb,0,none⟩)] w fun e w'=>e=.returned (.bool false)/\w'=w:=by
 obtain ⟨g,cap,hd,_⟩:=marks_slice h
 have cm:=h.cm
 rw [hd,hm] at cm
 clear hd h
 go_enter Tryz.func64,Tryz.ntmps64
 go_wp2
 go_ret
 exact ⟨rfl,rfl⟩
theorem backToMark_some (w:World) (wb:Nat) (H:Hd) (Z:Nat->Prop) (S S0:WS) (ms:List Nat) (h:WebAt w wb H Z S) (hg:Goes S0 S) (hm:S0.marks=ms++[S0.trail.length]) (hb:S.trail.length<=9000000) (hl:ms.length<=1000) :
  Calls Tryz.prog 64 #[.pointer (some ⟨wb,0,none⟩)] w fun e w'=>e=.returned (.bool true)/\∃ H',WebAt w' wb H' Z { S0 with marks:=ms }/\Upd (H.blocks wb) w w'/\H'.blocks wb=H.blocks wb:=by
 have hms:=hg.marks
 have hlen:S.marks.length=ms.length+1:=by rw [hms,hm]; simp
 have HB:=hide (backTo_any w wb H Z S S0 h hg hb)
 have htl:S0.trail.length<=9000000:=by
  obtain ⟨n,hn,_⟩:=hg
  omega
 obtain ⟨g,cap,hd,hc1,hc2,hgs⟩:=marks_slice h
 rw [hlen] at hd hc1 hgs
 obtain ⟨b,rfl⟩:=hgs (by omega)
 have cm:=h.cm
 rw [hd] at cm
 have hrow:=h.rm
 rw [hd,hlen,hms,hm] at hrow
 have hcell:w.cell? ⟨b,ms.length,none⟩=some (.int .i64 S0.trail.length):=by
  have:=hrow.cellAt ms.length (by omega)
  rw [this]
  simp [intsOf]
 unfold maxLen at hc2
 clear hrow hd hms hg
 have HF:=hide (fun (w2:World) (H2:Hd) (hw2:WebAt w2 wb H2 Z S0)=>marks_slice hw2)
 have HCut:=hide (fun (w2:World) (H2:Hd) (hw2:WebAt w2 wb H2 Z S0) (g2 cap2:Nat) (hd2:H2.marks=.slice (some ⟨g2,0,none⟩) S0.marks.length cap2)=>hw2.cut_marks (m:=ms.length) hd2 (by rw [hm]; simp))
 have Htake:Hid (S0.marks.take ms.length=ms):=by show _=_; rw [hm]; simp
 have Hl0:Hid (S0.marks.length=ms.length+1):=by show _=_; rw [hm]; simp
 have Hh:=hide h
 clear h hm
 go_enter Tryz.func64,Tryz.ntmps64
 go_upto_region 5 with (go_at_call 59; refine HB.out.mono ?_; rintro e w2 ⟨rfl,H2,hw2,hu2,hH2⟩; have Hw2:=hide hw2; have Hu2:=hide hu2; have HH2:=hide hH2; clear hw2 hu2 hH2)
 obtain ⟨g2,cap2,hd2,hc3,hc4,hgs2⟩:=HF.out w2 H2 Hw2.out
 have hl0:=Hl0.out
 obtain ⟨b2,rfl⟩:=hgs2 (by omega)
 have cm2:=Hw2.out.cm
 have hf2:=Hw2.out.free
 have hlt2:=Hw2.out.lt
 have HC2:=hide (HCut.out w2 H2 Hw2.out b2 cap2 hd2)
 have HHd:=hide hd2
 rw [hd2,hl0] at cm2
 unfold maxLen at hc4
 have hcap2:(ms.length:Int) < (cap2:Int):=by omega
 clear hd2 hl0 hgs2 hc3 HF HCut
 go_wp2
 go_ret
 refine ⟨rfl,_,by have:=HC2.out; rw [Htake.out] at this; exact this,(Hu2.out.setCell (p:=⟨wb,1,none⟩) (.inl (H.mem_wb wb)) _),?_⟩
 rw [blocks_marks (g:=b2) (by rw [HHd.out]; rfl)]
 exact HH2.out
theorem Fine.marks {S:WS} (h:Fine S) (m:List Nat):Fine { S with marks:=m }:=by
 have hr:∀ k,reps { S with marks:=m } k=reps S k:=fun k=>reps_congr k fun _ _=>Iff.rfl
 refine ⟨⟨⟨⟨h.web.base.inv.len,h.web.base.inv.nums,h.web.base.inv.cl,h.web.base.inv.al,h.web.base.inv.nu⟩,h.web.base.good,h.web.base.num,h.web.base.rep,h.web.base.saidLt,fun R hR=>h.web.base.cls R ⟨hR.refl,hR.symm,hR.trans,hR.said,hR.cong⟩,fun R hR=>h.web.base.alk R ⟨hR.refl,hR.symm,hR.trans,hR.said,hR.cong⟩⟩,h.web.eqs,fun i s hi=>?_⟩,⟨?_,?_⟩⟩
 ·rw [key_same (S:={ S with marks:=m }) (T:=S) rfl]
  exact h.web.stable i s hi
 ·rw [hr]
  exact h.pot.trail
 ·rw [hr]
  exact h.pot.files
theorem bookMark_any (w:World) (bb:Nat) (Z:Nat->Prop) (S:WS) (h:BookAt w bb Z S) (hm:S.marks.length < 10) :
  Calls Tryz.prog 28 #[.pointer (some ⟨bb,0,none⟩)] w fun e w'=>e=.returned (.int .i64 0)/\BookAt w' bb (fun k=>(Z k\/w.heap.size<=k)/\k < w'.heap.size) (markM S)/\∃ L,(∀ k ∈ L,Z k)/\Upd L w w':=by
 obtain ⟨wb,H,hc1,hw⟩:=h.ex
 have HCl:=hide (closed_made bb w h.self)
 have HMs:=hide (marks_any w wb H _ S hw)
 have HM:=hide (trailMark_any w wb H _ S hw (by omega))
 have hmI:(S.marks.length:Int) < 10:=by omega
 have Hh:=hide h
 have Hw:=hide hw
 clear h hw hm
 go_enter Tryz.func28,Tryz.ntmps28
 go_wp2_with (first
  | (go_at_call 44; refine HCl.out.mono ?_; rintro e w2 ⟨rfl,hw2⟩; rw [hw2]; clear hw2 w2)
  | (go_at_call 62; refine HMs.out.mono ?_; rintro e w2 ⟨rfl,hw2⟩; rw [hw2]; clear hw2 w2)
  | (go_at_call 63; refine HM.out.mono ?_; rintro e w3 ⟨mk,rfl,hw3,hu3,hH3⟩; have Hw3:=hide hw3; have Hu3:=hide hu3; clear hw3 hu3 hH3))
 go_ret
 exact ⟨rfl,WebAt.book Hh.out hc1 Hw.out.inZ Hu3.out Hw3.out (Hh.out.fine.marks _) Hh.out.terms Hh.out.saids,H.blocks wb,fun k hk=>(Hw.out.inZ k hk).1,Hu3.out⟩
theorem bookMark_many (w:World) (bb:Nat) (Z:Nat->Prop) (S:WS) (h:BookAt w bb Z S) (hm:10<=S.marks.length) :
  Calls Tryz.prog 28 #[.pointer (some ⟨bb,0,none⟩)] w fun e w'=>e=.returned (.int .i64 4)/\w'=w:=by
 obtain ⟨wb,H,hc1,hw⟩:=h.ex
 have HCl:=hide (closed_made bb w h.self)
 have HMs:=hide (marks_any w wb H _ S hw)
 have hmI:(10:Int)<=(S.marks.length:Int):=by omega
 clear h hw hm
 go_enter Tryz.func28,Tryz.ntmps28
 go_wp2_with (first
  | (go_at_call 44; refine HCl.out.mono ?_; rintro e w2 ⟨rfl,hw2⟩; rw [hw2]; clear hw2 w2)
  | (go_at_call 62; refine HMs.out.mono ?_; rintro e w2 ⟨rfl,hw2⟩; rw [hw2]; clear hw2 w2))
 go_ret
 exact ⟨rfl,rfl⟩
theorem bookBack_none (w:World) (bb:Nat) (Z:Nat->Prop) (S:WS) (h:BookAt w bb Z S) (hm:S.marks=[]) :
  Calls Tryz.prog 29 #[.pointer (some ⟨bb,0,none⟩)] w fun e w'=>e=.returned (.int .i64 5)/\w'=w:=by
 obtain ⟨wb,H,hc1,hw⟩:=h.ex
 have HCl:=hide (closed_made bb w h.self)
 have HB:=hide (backToMark_none w wb H _ S hw hm)
 clear h hw hm
 go_enter Tryz.func29,Tryz.ntmps29
 go_wp2_with (first
  | (go_at_call 44; refine HCl.out.mono ?_; rintro e w2 ⟨rfl,hw2⟩; rw [hw2]; clear hw2 w2)
  | (go_at_call 64; refine HB.out.mono ?_; rintro e w2 ⟨rfl,hw2⟩; rw [hw2]; clear hw2 w2))
 go_ret
 exact ⟨rfl,rfl⟩
theorem bookBack_some (w:World) (bb:Nat) (Z:Nat->Prop) (S S0:WS) (ms:List Nat) (h:BookAt w bb Z S) (hg:Goes S0 S) (hm:S0.marks=ms++[S0.trail.length]) (hl:ms.length<=1000) (hf:Fine S0) (ht:S0.shapes.length<=100) (hs:S0.said.length<=40) :
  Calls Tryz.prog 29 #[.pointer (some ⟨bb,0,none⟩)] w fun e w'=>e=.returned (.int .i64 0)/\BookAt w' bb (fun k=>(Z k\/w.heap.size<=k)/\k < w'.heap.size) { S0 with marks:=ms }/\∃ L,(∀ k ∈ L,Z k)/\Upd L w w':=by
 obtain ⟨wb,H,hc1,hw⟩:=h.ex
 have htr:=(h.fine.trail (by have:=h.terms; omega) (by have:=h.saids; omega)).1
 have HCl:=hide (closed_made bb w h.self)
 have HB:=hide (backToMark_some w wb H _ S S0 ms hw hg hm (by omega) hl)
 have Hh:=hide h
 have Hw:=hide hw
 have Hf:=hide (hf.marks ms)
 clear h hw hm hg hf htr
 go_enter Tryz.func29,Tryz.ntmps29
 go_wp2_with (first
  | (go_at_call 44; refine HCl.out.mono ?_; rintro e w2 ⟨rfl,hw2⟩; rw [hw2]; clear hw2 w2)
  | (go_at_call 64; refine HB.out.mono ?_; rintro e w3 ⟨rfl,H3,hw3,hu3,hH3⟩; have Hw3:=hide hw3; have Hu3:=hide hu3; clear hw3 hu3 hH3))
 go_ret
 exact ⟨rfl,WebAt.book Hh.out hc1 Hw.out.inZ Hu3.out (Hw3.out.mono fun k hk _=>.inl hk) Hf.out ht hs,H.blocks wb,fun k hk=>(Hw.out.inZ k hk).1,Hu3.out⟩
inductive T3 where
 | v (i:Nat):T3
 | f (t:T3):T3
 | g (t:T3) (i:Nat):T3
namespace T3
def txt:T3->List UInt8
 | .v i=>[UInt8.ofNat (97+i)]
 | .f t=>102 :: 40 :: (t.txt++[41])
 | .g t i=>103 :: 40 :: (t.txt++[44,32,UInt8.ofNat (97+i),41])
def ok:T3->Prop
 | .v i=>i < 3
 | .f t=>t.ok
 | .g t i=>t.ok/\i < 3
end T3
section
variable {s:ByteArray} {A R:List UInt8} {c:UInt8}
end
def nc (S:WS):Nat:=(S.shapes.filter (fun s=>s.2.1 != 0)).length
theorem addM_of (n:Nat) (S:WS) (t:Tm (n+1)):∃ s:Sh,s.2.1=t.parts.length/\((addM (n+1) S t).2=(addAll (addM n) S t.parts).2\/(addM (n+1) S t).2=(enterM (addAll (addM n) S t.parts).2 s).2):=by
 refine ⟨shapeOf t.name (addAll (addM n) S t.parts).1,by show (addAll _ _ _).1.length=_; rw [addAll_length],?_⟩
 unfold addM
 simp only
 split
 ·exact .inl rfl
 ·exact .inr rfl
def vB (i:Nat):ByteArray:=⟨#[UInt8.ofNat (97+i)]⟩
def only3 (a:ByteArray) (k:Nat):Prop:=k=0->a=vB 0\/a=vB 1\/a=vB 2
structure W3 (S:WS) (k:Nat):Prop where
 fine:Fine S
 only:Only only3 S
 nc:nc S<=4 * k
 said:S.said.length=k
structure S3 where
 l:T3
 b:Bool
 r:T3
def lenTm:(n:Nat)->Tm n->Nat
 | 0,_=>0
 | n+1,t=>t.name.size+(sumOf (fun p=>2+lenTm n p) t.parts+1)
theorem sumOf_append {α:Type} (f:α->Nat):∀ (l m:List α),sumOf f (l++m)=sumOf f l+sumOf f m
 | [],m=>by simp [sumOf]
 | a :: l,m=>by simp [sumOf,sumOf_append f l m]; omega
theorem sumOf_mem {α:Type} (f:α->Nat):∀ {l:List α} {a:α},a ∈ l->f a<=sumOf f l
 | b :: l,a,h=>by
  simp only [List.mem_cons] at h
  rcases h with rfl | h
  ·simp only [sumOf]; omega
  ·have:=sumOf_mem f h
   simp only [sumOf]; omega
theorem sumOf_takeLe {α:Type} (f:α->Nat) (l:List α) (q:Nat):sumOf f (l.take q)<=sumOf f l:=by
 have:=sumOf_append f (l.take q) (l.drop q)
 rw [List.take_append_drop] at this
 omega
theorem partAt_of {nm:ByteArray} {ks:List Nat} (h3:ks.length<=3) {j k:Nat} (hj:ks[j]?=some k):partAt (shapeOf nm ks) j=k:=by
 have hlt:=(List.getElem?_eq_some_iff.1 hj).1
 match j,hj,hlt with
 | 0,hj,_=>show ks.getD 0 0=k; rw [List.getD_eq_getElem?_getD,hj]; rfl
 | 1,hj,_=>show ks.getD 1 0=k; rw [List.getD_eq_getElem?_getD,hj]; rfl
 | 2,hj,_=>show ks.getD 2 0=k; rw [List.getD_eq_getElem?_getD,hj]; rfl
 | j+3,_,hlt=>omega
theorem AllIs.getBoth {α β:Type} {R:α->β->Prop}:∀ {xs:List α} {ys:List β},AllIs R xs ys->∀ (j:Nat) (a:α) (b:β),xs[j]?=some a->ys[j]?=some b->R a b
 | x :: _,y :: _,h,0,a,b,ha,hb=>by
  simp only [List.getElem?_cons_zero,Option.some.injEq] at ha hb
  subst ha hb
  exact h.1
 | _ :: _,_ :: _,h,j+1,a,b,ha,hb=>AllIs.getBoth h.2 j a b (by simpa using ha) (by simpa using hb)
 | [],[],_,j,_,_,ha,_=>by simp at ha
 | [],_ :: _,h,_,_,_,_,_=>h.elim
 | _ :: _,[],h,_,_,_,_,_=>h.elim
theorem plainF_le {S:WS}:∀ (g n:Nat) (t:Tm n) (i:Nat),Narrow n t->Den S n t i->(plainF S g i).length<=lenTm n t
 | 0,_,_,_,_,_=>by simp [plainF]
 | _+1,0,_,_,_,h=>h.elim
 | g+1,n+1,t,i,hn,⟨ks,h1,h2⟩=>by
  have hl:=h2.length
  have h3:ks.length<=3:=by rw [<- hl]; exact hn.2.1
  have hs:shapeAt S i=shapeOf t.name ks:=by unfold shapeAt; rw [List.getD_eq_getElem?_getD,h1]; rfl
  have hp:∀ q,q<=ks.length->(partsTo (plainF S g) (shapeOf t.name ks) q).length<=sumOf (fun p=>2+lenTm n p) (t.parts.take q):=fun q=>by
   induction q with
   | zero=>intro _; simp [partsTo,sumOf]
   | succ q ih =>
    intro hq
    have h4:=ih (by omega)
    have e1:=List.getElem?_eq_getElem (show q < ks.length by omega)
    have e2:=List.getElem?_eq_getElem (show q < t.parts.length by omega)
    have h5:=plainF_le g n _ _ (allOf_mem hn.2.2 (List.mem_of_getElem? e2)) (h2.getBoth q _ _ e2 e1)
    rw [List.take_succ_eq_append_getElem (show q < t.parts.length by omega),sumOf_append]
    simp only [partsTo,partAt_of h3 e1,List.length_append,sumOf]
    have h6:(if q=0 then [40] else [44,32]:List UInt8).length<=2:=by split <;> simp
    omega
  have h7:=hp ks.length (Nat.le_refl _)
  have h8:=sumOf_takeLe (fun p=>2+lenTm n p) t.parts ks.length
  have hz:t.name.data.toList.length=t.name.size:=by simp
  unfold plainF lenTm
  rw [hs]
  have e9:(shapeOf t.name ks).2.1=ks.length:=rfl
  have e10:(shapeOf t.name ks).1=t.name:=rfl
  rw [e9,e10]
  split
  ·simp only [List.append_nil]; omega
  ·simp only [List.length_append,List.length_singleton]; omega
def TextOK (S:WS):Prop:=∀ i,i < S.shapes.length->∃ n,∃ t:Tm n,Narrow n t/\Den S n t i/\lenTm n t<=1000
theorem TextOK.none:TextOK noWS:=fun i hi=>by simp [noWS] at hi
theorem TextOK.same {S T:WS} (h:TextOK S) (e:T.shapes=S.shapes):TextOK T:=fun i hi=>by
 obtain ⟨n,t,h1,h2,h3⟩:=h i (by rw [<- e]; exact hi)
 exact ⟨n,t,h1,h2.same e,h3⟩
theorem TextOK.addAll {α:Type} {f:WS->α->Nat × WS} {ok:α->Prop} (hf:∀ S x,Web S->ok x->TextOK S->TextOK (f S x).2/\Web (f S x).2):∀ (l:List α) (S:WS),Web S->allOf ok l->TextOK S->TextOK (addAll f S l).2/\Web (addAll f S l).2
 | [],_,hw,_,h=>⟨h,hw⟩
 | x :: l,S,hw,hok,h=>by
  obtain ⟨h1,h2⟩:=hf S x hw hok.1 h
  exact TextOK.addAll hf l _ h2 hok.2 h1
theorem TextOK.addM:∀ (n:Nat) (S:WS) (t:Tm n),Web S->Narrow n t/\lenTm n t<=1000->TextOK S->TextOK (addM n S t).2/\Web (addM n S t).2
 | 0,_,_,_,h,_=>h.1.elim
 | n+1,S,t,hw,⟨hn,hl⟩,h=>by
  obtain ⟨⟨e1,e2⟩,e3⟩:=addM_end (n+1) S t hw hn
  refine ⟨?_,e1⟩
  have hparts:allOf (fun p=>Narrow n p/\lenTm n p<=1000) t.parts:=allOf_of fun p hp=>⟨allOf_mem hn.2.2 hp,by
   have:=sumOf_mem (fun p=>2+lenTm n p) hp
   simp only [lenTm] at hl
   omega⟩
  have h1:=(TextOK.addAll (fun S x hw hx=>TextOK.addM n S x hw hx) t.parts S hw hparts h)
  obtain ⟨s,hs,hc⟩:=addM_of n S t
  rcases hc with hc | hc
  ·rw [hc]; exact h1.1
  ·have hsh:(Go.Proofs.YtmfkpllnmmfpiaaGreatDoor.addM (n+1) S t).2.shapes=(Go.Proofs.YtmfkpllnmmfpiaaGreatDoor.addAll (Go.Proofs.YtmfkpllnmmfpiaaGreatDoor.addM n) S t.parts).2.shapes++[s]:=by
    rw [hc]
    show (fileM _ s _).2.shapes++[s]=_
    rw [(fileM_rows _ s _).1]
   have hpre:∀ (i:Nat) (u:Sh),(Go.Proofs.YtmfkpllnmmfpiaaGreatDoor.addAll (Go.Proofs.YtmfkpllnmmfpiaaGreatDoor.addM n) S t.parts).2.shapes[i]?=some u->(Go.Proofs.YtmfkpllnmmfpiaaGreatDoor.addM (n+1) S t).2.shapes[i]?=some u:=fun i u hu=>by
    rw [hsh,List.getElem?_append_left (List.getElem?_eq_some_iff.1 hu).1]
    exact hu
   intro i hi
   by_cases hlt:i < (Go.Proofs.YtmfkpllnmmfpiaaGreatDoor.addAll (Go.Proofs.YtmfkpllnmmfpiaaGreatDoor.addM n) S t.parts).2.shapes.length
   ·obtain ⟨m,u,g1,g2,g3⟩:=h1.1 i hlt
    exact ⟨m,u,g1,g2.mono hpre,g3⟩
   ·refine ⟨n+1,t,hn,?_,hl⟩
    have hk:(Go.Proofs.YtmfkpllnmmfpiaaGreatDoor.addM (n+1) S t).1=i:=by
     have hd:=e3
     obtain ⟨ks,g1,_⟩:=e3
     have hii:i=(Go.Proofs.YtmfkpllnmmfpiaaGreatDoor.addAll (Go.Proofs.YtmfkpllnmmfpiaaGreatDoor.addM n) S t.parts).2.shapes.length:=by
      rw [hsh] at hi
      simp at hi
      omega
     have hkk:(Go.Proofs.YtmfkpllnmmfpiaaGreatDoor.addM (n+1) S t).2=(Go.Proofs.YtmfkpllnmmfpiaaGreatDoor.addAll (Go.Proofs.YtmfkpllnmmfpiaaGreatDoor.addM n) S t.parts).2\/(Go.Proofs.YtmfkpllnmmfpiaaGreatDoor.addM (n+1) S t).1=(Go.Proofs.YtmfkpllnmmfpiaaGreatDoor.addAll (Go.Proofs.YtmfkpllnmmfpiaaGreatDoor.addM n) S t.parts).2.shapes.length:=by
      unfold Go.Proofs.YtmfkpllnmmfpiaaGreatDoor.addM
      simp only
      split
      ·exact .inl rfl
      ·exact .inr (h1.2.base.inv.enter _).2.1
     rcases hkk with hkk | hkk
     ·rw [hkk] at hi
      omega
     ·omega
    rw [<- hk]
    exact e3
theorem TextOK.say {n:Nat} {S:WS} (ho:TextOK S) (h:Web S) {x:Snt n} (hx:NarrowS x) (hr:S.shapes.length+sizeS x<=400) (hl:lenTm n x.left<=1000) (hrr:lenTm n x.right<=1000):TextOK (sayM S x):=by
 obtain ⟨h1,h2⟩:=TextOK.addM n S x.left h ⟨hx.1,hl⟩ ho
 obtain ⟨h3,_⟩:=TextOK.addM n _ x.right h2 ⟨hx.2,hrr⟩ h1
 exact h3.same (sayM_shapes h hx hr)
theorem TextOK.short {S:WS} (h:TextOK S) (g j:Nat):(plainF S g j).length<=1000:=by
 by_cases hj:j < S.shapes.length
 ·obtain ⟨n,t,h1,h2,h3⟩:=h j hj
  exact Nat.le_trans (plainF_le g n t j h1 h2) h3
 ·have hs:shapeAt S j=noSh:=by unfold shapeAt; rw [List.getD_eq_getElem?_getD,List.getElem?_eq_none (by omega)]; rfl
  cases g with
  | zero=>simp [plainF]
  | succ g =>
   unfold plainF
   rw [hs]
   simp [noSh]
theorem TextOK.marks {S:WS} (h:TextOK S) (m:List Nat):TextOK { S with marks:=m }:=h.same rfl
theorem sortedT_permL (S:WS):(sortedT S).Perm (textsTo S S.shapes.length):=by
 have h:=(sortedT_perm S).1.2.2
 have hl:=sortedT_length S
 have hl2:=textsTo_length S S.shapes.length
 have e1:((sortedT S).toArray.extract 0 S.shapes.length).toList=sortedT S:=by
  rw [Array.toList_extract]
  simp [List.extract,List.take_of_length_le (Nat.le_of_eq hl)]
 have e2:((textsTo S S.shapes.length).toArray.extract 0 S.shapes.length).toList=textsTo S S.shapes.length:=by
  rw [Array.toList_extract]
  simp [List.extract,List.take_of_length_le (Nat.le_of_eq hl2)]
 rw [e1,e2] at h
 exact h
theorem sortedT_nums (S:WS):((sortedT S).map (·.2)).Nodup/\∀ t ∈ sortedT S,t.2 < (sortedT S).length:=by
 have hp:=sortedT_permL S
 have e:(textsTo S S.shapes.length).map (·.2)=List.range S.shapes.length:=by
  unfold textsTo
  rw [List.map_map]
  exact List.map_id'' (fun _=>rfl) _
 refine ⟨(hp.map (·.2)).nodup_iff.2 (by rw [e]; exact List.nodup_range),fun t ht=>?_⟩
 have h1:=(hp.mem_iff).1 ht
 rw [sortedT_length]
 unfold textsTo at h1
 obtain ⟨i,hi,rfl⟩:=List.mem_map.1 h1
 exact List.mem_range.1 hi
def TagOK (S:WS):Prop:=∀ x ∈ S.said,x.1<=1
theorem bookSaid_any (w:World) (bb:Nat) (Z:Nat->Prop) (S:WS) (h:BookAt w bb Z S) (hg:TagOK S) (ht:TextOK S) :
  Calls Tryz.prog 17 #[.pointer (some ⟨bb,0,none⟩)] w fun e w'=>∃ v,e=.returned v/\Upd [] w w'/\StrRow w' w.heap.size v (saidOf S):=by
 obtain ⟨wb,H,hc1,hw⟩:=h.ex
 have HCl:=hide (closed_made bb w h.self)
 have HC:=hide (webSaid_any w wb H _ S hw h.fine.web.base (fun k hk=>h.low k hk.1) (by have:=h.terms; omega) (by have:=h.saids; omega) hg ht.short)
 clear h hw
 go_enter Tryz.func17,Tryz.ntmps17
 go_wp2_with (first
  | (go_at_call 44; refine HCl.out.mono ?_; rintro e w2 ⟨rfl,hw2⟩; rw [hw2]; clear hw2 w2)
  | (go_at_call 47; refine HC.out.mono ?_; rintro e w3 ⟨v,rfl,hu3,hr3⟩; have Hu3:=hide hu3; have Hr3:=hide hr3; clear hu3 hr3))
 go_ret
 exact ⟨_,rfl,Hu3.out,Hr3.out⟩
theorem bookClasses_any (w:World) (bb:Nat) (Z:Nat->Prop) (S:WS) (h:BookAt w bb Z S) (ht:TextOK S) :
  Calls Tryz.prog 20 #[.pointer (some ⟨bb,0,none⟩)] w fun e w'=>∃ v rs,e=.returned v/\Upd [] w w'/\ListsAt w' w.heap.size v rs (classesOf S):=by
 obtain ⟨wb,H,hc1,hw⟩:=h.ex
 have HCl:=hide (closed_made bb w h.self)
 have HC:=hide (webClasses_any w wb H _ S hw h.fine.web.base (fun k hk=>h.low k hk.1) (by have:=h.terms; omega) ht.short (sortedT_nums S).1 (sortedT_nums S).2)
 clear h hw
 go_enter Tryz.func20,Tryz.ntmps20
 go_wp2_with (first
  | (go_at_call 44; refine HCl.out.mono ?_; rintro e w2 ⟨rfl,hw2⟩; rw [hw2]; clear hw2 w2)
  | (go_at_call 48; refine HC.out.mono ?_; rintro e w3 ⟨v,rs,rfl,hu3,hr3⟩; have Hu3:=hide hu3; have Hr3:=hide hr3; clear hu3 hr3))
 go_ret
 exact ⟨_,rs,rfl,Hu3.out,Hr3.out⟩
theorem runTo_all (p:Int->Bool) (s:ByteArray):∀ n i j,i<=j->j < runTo p s n i->j < s.size/\p (byteAt s j)=true
 | 0,i,j,h1,h2=>by simp only [runTo] at h2; omega
 | n+1,i,j,h1,h2=>by
  unfold runTo at h2
  split at h2
  ·rename_i hc
   by_cases e:j=i
   ·subst e; exact hc
   ·exact runTo_all p s n (i+1) j (by omega) h2
  ·omega
theorem name_ok {s:ByteArray} {a b:Nat} (hab:a < b) (hb:b<=s.size) (h:∀ j,a<=j->j < b->wordB (byteAt s j)=true):NameOK (s.extract a b):=by
 have e:(s.extract a b).data.toList=(s.data.toList.drop a).take (b - a):=by simp [List.extract_eq_take_drop]
 have hl:s.data.toList.length=s.size:=by simp
 refine ⟨fun h0=>?_,fun c hc=>?_⟩
 ·rw [e] at h0
  have h1:=congrArg List.length h0
  simp only [List.length_take,List.length_drop,List.length_nil,hl] at h1
  omega
 ·rw [e] at hc
  obtain ⟨i,hi⟩:=List.getElem?_of_mem hc
  have hlt:=(List.getElem?_eq_some_iff.1 hi).1
  simp only [List.length_take,List.length_drop,hl] at hlt
  rw [List.getElem?_take_of_lt (by omega),List.getElem?_drop] at hi
  have h2:=h (a+i) (by omega) (by omega)
  unfold byteAt at h2
  rw [List.getD_eq_getElem?_getD,hi] at h2
  exact h2
def Tok (s:ByteArray) (st:Wd):Prop:=st.1=0->NameOK (s.extract st.2.1 st.2.2)
theorem tok_at (s:ByteArray) (t:Nat):Tok s (wordAt s t):=fun h=>by
 obtain ⟨h1,h2,h3⟩:=word_name h
 rw [wordAt_from,h3]
 have hw:wordB (byteAt s (endOf blankB s t))=true:=by unfold wordB; rw [h2]; rfl
 have h4:=endOf_step h1 hw
 have h5:=endOf_le wordB s (endOf blankB s t+1) (by omega)
 refine name_ok (by omega) (by omega) fun j hj1 hj2=>?_
 exact (runTo_all wordB s _ _ j hj1 hj2).2
theorem partsOf_ok {s:ByteArray} {n:Nat} (ht:∀ (st:Wd) (t:Tm n) (st2:Wd),Tok s st->termOf s n st=(some t,st2)->TrmOK (erase n t)) :
  ∀ (m:Nat) (st:Wd) (ps:List (Tm n)) (st2:Wd),partsOf s (termOf s n) m st=(some ps,st2)->∀ p ∈ ps,TrmOK (erase n p)
 | 0,_,_,_,h=>by simp [partsOf] at h
 | m+1,st,ps,st2,h=>by
  unfold partsOf at h
  cases hpp:termOf s n (wordAt s st.2.2) with
  | mk o stx =>
   rw [hpp] at h
   cases o with
   | none=>simp at h
   | some x =>
    have h2:=ht _ x stx (tok_at s _) hpp
    simp only at h
    split at h
    ·cases h
     intro p hp
     simp only [List.mem_singleton] at hp
     subst hp
     exact h2
    ·split at h
     ·cases hq:partsOf s (termOf s n) m stx with
      | mk o3 st3 =>
       rw [hq] at h
       cases o3 with
       | none=>simp at h
       | some xs =>
        simp only [Prod.mk.injEq,Option.some.injEq] at h
        obtain ⟨rfl,rfl⟩:=h
        have h8:=partsOf_ok ht m stx xs _ hq
        intro p hp
        simp only [List.mem_cons] at hp
        rcases hp with rfl | hp
        ·exact h2
        ·exact h8 p hp
     ·simp at h
theorem termOf_ok {s:ByteArray}:∀ (n:Nat) (st:Wd) (t:Tm n) (st2:Wd),Tok s st->termOf s n st=(some t,st2)->TrmOK (erase n t)
 | 0,_,t,_,_,_=>t.elim
 | n+1,st,t,st2,hf,h=>by
  by_cases hk:st.1=0
  ·by_cases h1':(wordAt s st.2.2).1=1
   ·cases hq:partsOf s (termOf s n) (s.size+1) (wordAt s st.2.2) with
    | mk o st3 =>
     cases o with
     | none=>rw [termOf_fails hk h1' hq] at h; simp at h
     | some ps =>
      rw [termOf_parts hk h1' hq] at h
      simp only [Prod.mk.injEq,Option.some.injEq] at h
      obtain ⟨rfl,rfl⟩:=h
      have h2:=partsOf_ok (termOf_ok n) _ _ ps _ hq
      refine TrmOK.mk (hf hk) fun p hp=>?_
      obtain ⟨q,hq,rfl⟩:=List.mem_map.1 hp
      exact h2 q hq
   ·rw [termOf_bare hk h1'] at h
    simp only [Prod.mk.injEq,Option.some.injEq] at h
    obtain ⟨rfl,rfl⟩:=h
    exact TrmOK.mk (hf hk) fun p hp=>by cases hp
  ·rw [termOf_no hk] at h; simp at h
theorem partsOf_len {s:ByteArray} {n:Nat} (ht:∀ (st:Wd) (t:Tm n) (st2:Wd),Fit s st->termOf s n st=(some t,st2)->lenTm n t+2 * st.2.1<=2 * st2.2.1) :
  ∀ (m:Nat) (st:Wd) (ps:List (Tm n)) (st2:Wd),Fit s st->partsOf s (termOf s n) m st=(some ps,st2)->sumOf (fun p=>2+lenTm n p) ps+2 * st.2.2<=2 * st2.2.1
 | 0,_,_,_,_,h=>by simp [partsOf] at h
 | m+1,st,ps,st2,hf,h=>by
  have h1:=Fit.next s st.2.2 hf.size
  have hw:=wordAt_le s st.2.2 hf.size
  unfold partsOf at h
  cases hpp:termOf s n (wordAt s st.2.2) with
  | mk o stx =>
   rw [hpp] at h
   cases o with
   | none=>simp at h
   | some x =>
    have h2:=ht _ x stx h1 hpp
    have h3:=(termOf_fit n (wordAt s st.2.2) h1).1
    rw [hpp] at h3
    have h4:=h3.le
    have h5:=wordAt_le s stx.2.2 h3.size
    have h6:=h3.lt
    simp only at h h3 h4 h5 h6
    split at h
    ·rename_i hk
     have h7:=h6 (by omega)
     cases h
     simp only [sumOf]
     omega
    ·split at h
     ·rename_i hk
      have h7:=h6 (by omega)
      cases hq:partsOf s (termOf s n) m stx with
      | mk o3 st3 =>
       rw [hq] at h
       cases o3 with
       | none=>simp at h
       | some xs =>
        simp only [Prod.mk.injEq,Option.some.injEq] at h
        obtain ⟨rfl,rfl⟩:=h
        have h8:=partsOf_len ht m stx xs _ h3 hq
        simp only [sumOf]
        omega
     ·simp at h
theorem termOf_len {s:ByteArray}:∀ (n:Nat) (st:Wd) (t:Tm n) (st2:Wd),Fit s st->termOf s n st=(some t,st2)->lenTm n t+2 * st.2.1<=2 * st2.2.1
 | 0,_,t,_,_,_=>t.elim
 | n+1,st,t,st2,hf,h=>by
  by_cases hk:st.1=0
  ·have h1:=Fit.next s st.2.2 hf.size
   have hw:=wordAt_le s st.2.2 hf.size
   have hlt:=hf.lt (by omega)
   have hsz:(s.extract st.2.1 st.2.2).size=st.2.2 - st.2.1:=by
    have:=hf.size
    simp only [ByteArray.size_extract]
    omega
   by_cases h1':(wordAt s st.2.2).1=1
   ·cases hq:partsOf s (termOf s n) (s.size+1) (wordAt s st.2.2) with
    | mk o st3 =>
     cases o with
     | none=>rw [termOf_fails hk h1' hq] at h; simp at h
     | some ps =>
      rw [termOf_parts hk h1' hq] at h
      simp only [Prod.mk.injEq,Option.some.injEq] at h
      obtain ⟨rfl,rfl⟩:=h
      have h2:=partsOf_len (termOf_len n) _ _ ps _ h1 hq
      have h3:=h1.lt (by omega)
      show (s.extract st.2.1 st.2.2).size+(sumOf (fun p=>2+lenTm n p) ps+1)+2 * st.2.1<=_
      omega
   ·rw [termOf_bare hk h1'] at h
    simp only [Prod.mk.injEq,Option.some.injEq] at h
    obtain ⟨rfl,rfl⟩:=h
    show (s.extract st.2.1 st.2.2).size+(0+1)+2 * st.2.1<=_
    omega
  ·rw [termOf_no hk] at h; simp at h
theorem readOf_ok {s:ByteArray} {x:Snt (fuelOf s)} (h:(readOf s).1=some x):STOK (eraseS x)/\lenTm _ x.left<=400/\lenTm _ x.right<=400:=by
 unfold readOf at h
 split at h
 ·simp at h
 ·rename_i hl
  split at h
  ·simp at h
  ·rename_i y st hs
   have hyx:y=x:=by
    split at h
    ·simp at h
    ·split at h
     ·simp at h
     ·simpa using h
   subst hyx
   clear h
   have f0:=Fit.next s 0 (Nat.zero_le _)
   unfold sentOf at hs
   cases h1:termOf s (fuelOf s) (wordAt s 0) with
   | mk o st1 =>
    rw [h1] at hs
    cases o with
    | none=>simp at hs
    | some l =>
     have e1:=termOf_len _ _ l _ f0 h1
     have o1:=termOf_ok _ _ l _ (tok_at s 0) h1
     have f1:=(termOf_fit (fuelOf s) (wordAt s 0) f0).1
     rw [h1] at f1
     simp only at hs f1
     cases h2:signOf s st1 with
     | mk o2 st2 =>
      rw [h2] at hs
      cases o2 with
      | none=>simp at hs
      | some g =>
       have e2:Fit s st2/\Tok s st2:=by
        unfold signOf at h2
        split at h2
        ·cases h2; exact ⟨Fit.next s _ f1.size,tok_at s _⟩
        ·split at h2
         ·cases h2; exact ⟨Fit.next s _ f1.size,tok_at s _⟩
         ·split at h2 <;> simp at h2
       simp only at hs
       cases h3:termOf s (fuelOf s) st2 with
       | mk o3 st3 =>
        rw [h3] at hs
        cases o3 with
        | none=>simp at hs
        | some r =>
         have e3:=termOf_len _ _ r _ e2.1 h3
         have o3:=termOf_ok _ _ r _ e2.2 h3
         have f3:=(termOf_fit (fuelOf s) st2 e2.1).1
         rw [h3] at f3
         simp only at hs f3
         have g1:=f1.le
         have g2:=f1.size
         have g3:=f3.le
         have g4:=f3.size
         split at hs
         ·simp only [Prod.mk.injEq,Option.some.injEq] at hs
          obtain ⟨rfl,rfl⟩:=hs
          exact ⟨⟨o1,o3⟩,by show lenTm _ l<=400; omega,by show lenTm _ r<=400; omega⟩
         ·simp at hs
theorem den_plain {S:WS} (hB:Base S) {t:Trm} {i:Nat} (h:DenE S t i):∀ g,i < g->plainF S g i=t.txt:=by
 induction h with
 | @mk nm ps ks i h1 h2 h3 _ ih =>
  intro g hg
  obtain ⟨f,rfl⟩:∃ f,g=f+1:=⟨g - 1,by omega⟩
  have hS:=hB.good i _ h1
  have hs:shapeAt S i=shapeOf nm ks:=by unfold shapeAt; rw [List.getD_eq_getElem?_getD,h1]; rfl
  have hp:∀ (j:Nat) (p:Trm) (k:Nat),ps[j]?=some p->ks[j]?=some k->plainF S f (partAt (shapeOf nm ks) j)=p.txt:=fun j p k e1 e2=>by
   have hj:=(List.getElem?_eq_some_iff.1 e2).1
   have hk:=hS.part j (show j < (shapeOf nm ks).2.1 from hj)
   rw [partAt_shapeOf h3 e2] at hk ⊢
   exact ih j p k e1 e2 f (by omega)
  unfold plainF
  rw [hs]
  have e9:(shapeOf nm ks).2.1=ks.length:=rfl
  have e10:(shapeOf nm ks).1=nm:=rfl
  rw [e9,e10]
  match ps,ks,h2,h3,hp with
  | [],[],_,_,_=>simp [Trm.txt]
  | [p],[a],_,_,hp =>
   simp only [List.length_cons,List.length_nil,partsTo,hp 0 p a rfl rfl,Trm.txt,Trm.txtR]
   simp
  | [p,q],[a,b],_,_,hp =>
   simp only [List.length_cons,List.length_nil,partsTo,hp 0 p a rfl rfl,hp 1 q b rfl rfl,Trm.txt,Trm.txtR]
   simp
  | [p,q,r],[a,b,c],_,_,hp =>
   simp only [List.length_cons,List.length_nil,partsTo,hp 0 p a rfl rfl,hp 1 q b rfl rfl,hp 2 r c rfl rfl,Trm.txt,Trm.txtR]
   simp
  | _ :: _,[],h2,_,_=>simp at h2
  | [],_ :: _,h2,_,_=>simp at h2
  | [_],_ :: _ :: _,h2,_,_=>simp at h2
  | _ :: _ :: _,[_],h2,_,_=>simp at h2
  | [_,_],_ :: _ :: _ :: _,h2,_,_=>simp at h2
  | _ :: _ :: _ :: _,[_,_],h2,_,_=>simp at h2
  | [_,_,_],_ :: _ :: _ :: _ :: _,h2,_,_=>simp at h2
  | _ :: _ :: _ :: _ :: _,[_,_,_],h2,_,_=>simp at h2
  | _ :: _ :: _ :: _ :: _,_ :: _ :: _ :: _ :: _,_,h3,_=>simp at h3
theorem den_text {S:WS} (hB:Base S) {t:Trm} {i:Nat} (h:DenE S t i):plainT S i=t.text:=by
 unfold plainT Trm.text
 rw [den_plain hB h (i+1) (by omega)]
def ST.text (s:ST):ByteArray:=if s.eq then s.l.text++(⟨#[32,61,32]⟩:ByteArray)++s.r.text else s.l.text++(⟨#[32,33,61,32]⟩:ByteArray)++s.r.text
theorem Holds.texts {S:WS} {L:List ST} (h:Holds S L):saidOf S=L.map ST.text:=by
 have key:∀ (xs:List (Nat × Nat × Nat)) (l:List ST),AllIs (fun (x:Nat × Nat × Nat) (s:ST)=>x.1=(if s.eq then 0 else 1)/\DenE S s.l x.2.1/\DenE S s.r x.2.2) xs l->xs.map (sayT S)=l.map ST.text:=by
  intro xs
  induction xs with
  | nil =>
   intro l hl
   cases l with
   | nil=>rfl
   | cons=>exact hl.elim
  | cons x xs ih =>
   intro l hl
   cases l with
   | nil=>exact hl.elim
   | cons s l =>
    obtain ⟨⟨h1,h2,h3⟩,h4⟩:=hl
    rw [List.map_cons,List.map_cons,ih l h4]
    congr 1
    unfold sayT ST.text
    rw [den_text h.fine.web.base h2,den_text h.fine.web.base h3,h1]
    cases hs:s.eq <;> (apply ByteArray.ext; apply Array.ext'; simp [signB])
 exact key _ _ h.said
theorem Holds.tags {S:WS} {L:List ST} (h:Holds S L):TagOK S:=fun x hx=>by
 obtain ⟨s,_,h1,_⟩:=h.left hx
 rw [h1]
 split <;> omega
def sayR (L:List ST) (s:ByteArray):(Int × Int × Int) × List ST :=
 match (refRead s).1 with
 | none=>((0,(refRead s).2.1,(refRead s).2.2),L)
 | some x=>if 40<=L.length\/100 < (termsR (L++[x])).length then ((0,4,0),L) else (((L.length:Nat),0,0),L++[x])
def followsR (L:List ST) (s:ByteArray):Bool × Int × Int :=
 match (refRead s).1 with
 | none=>(false,(refRead s).2.1,(refRead s).2.2)
 | some x=>(clashR (L++[contraT x]),0,0)
structure Both (S:WS) (L:List ST):Prop where
 holds:Holds S L
 ok:∀ s ∈ L,STOK s
 small:SmallL L
 text:TextOK S
 terms:S.shapes.length<=100
 saids:S.said.length<=40
theorem Both.none:Both noWS []:=⟨Holds.none,fun s hs=>(by cases hs),fun s hs=>(by cases hs),TextOK.none,by simp [noWS],by simp [noWS]⟩
theorem Both.length {S:WS} {L:List ST} (h:Both S L):S.said.length=L.length:=h.holds.said.length
theorem Both.follows {S:WS} {L:List ST} (h:Both S L) (s:ByteArray):(followsOf S s).1=(followsR L s).1/\(followsOf S s).2.1=(followsR L s).2.1/\((followsOf S s).2.2:Int)=(followsR L s).2.2:=by
 obtain ⟨r1,r2⟩:=refRead_eq s
 unfold followsOf followsR
 cases hr:(readOf s).1 with
 | none =>
  rw [r2 hr]
  exact ⟨rfl,rfl,rfl⟩
 | some x =>
  rw [r1 x hr]
  obtain ⟨hn,hz,_⟩:=readOf_small hr
  obtain ⟨o1,_,_⟩:=readOf_ok hr
  refine ⟨?_,rfl,rfl⟩
  have ht:=h.terms
  have e1:=h.holds.follows_iff hn (by omega)
  have e2:=clashR_iff (L:=L++[contraT (eraseS x)]) (fun t ht=>by
   simp only [List.mem_append,List.mem_singleton] at ht
   rcases ht with ht | rfl
   ·exact h.ok t ht
   ·exact o1)
  show followsM S x=clashR (L++[contraT (eraseS x)])
  rw [Bool.eq_iff_iff,e1,e2]
theorem Both.say {S:WS} {L:List ST} (h:Both S L) (s:ByteArray):((sayOf S s).1.1:Int)=(sayR L s).1.1/\(sayOf S s).1.2.1=(sayR L s).1.2.1/\((sayOf S s).1.2.2:Int)=(sayR L s).1.2.2/\Both (sayOf S s).2 (sayR L s).2:=by
 obtain ⟨r1,r2⟩:=refRead_eq s
 unfold sayOf sayR
 cases hr:(readOf s).1 with
 | none =>
  rw [r2 hr]
  exact ⟨rfl,rfl,rfl,h⟩
 | some x =>
  rw [r1 x hr]
  obtain ⟨hn,hz,_⟩:=readOf_small hr
  obtain ⟨o1,o2,o3⟩:=readOf_ok hr
  have ht:=h.terms
  have hl:=h.length
  have hok:∀ t ∈ L++[eraseS x],STOK t:=fun t ht=>by
   simp only [List.mem_append,List.mem_singleton] at ht
   rcases ht with ht | rfl
   ·exact h.ok t ht
   ·exact o1
  have H1:=h.holds.say hn (by omega)
  have hc:=H1.count hok
  simp only
  rw [hl,hc]
  by_cases h40:40<=L.length
  ·rw [if_pos h40,if_pos (.inl h40)]
   exact ⟨rfl,rfl,rfl,h⟩
  ·rw [if_neg h40]
   by_cases h100:100 < (termsR (L++[eraseS x])).length
   ·rw [if_pos h100,if_pos (.inr h100)]
    exact ⟨rfl,rfl,rfl,h⟩
   ·rw [if_neg h100,if_neg (by omega)]
    refine ⟨rfl,rfl,rfl,H1,hok,fun t ht=>?_,h.text.say h.holds.fine.web hn (by omega) (by omega) (by omega),by show (sayM S x).shapes.length<=100; omega,?_⟩
    ·simp only [List.mem_append,List.mem_singleton] at ht
     rcases ht with ht | rfl
     ·exact h.small t ht
     ·rw [sizeS_erase]; exact hz
    ·have e:=H1.said.length
     simp only [List.length_append,List.length_singleton] at e
     show (sayM S x).said.length<=40
     omega
end Go.Proofs.YtmfkpllnmmfpiaaGreatDoor
