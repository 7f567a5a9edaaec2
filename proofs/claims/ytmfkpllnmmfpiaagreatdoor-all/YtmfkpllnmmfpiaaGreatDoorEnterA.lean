/- Enter -/
import Derived.Test.YtmfkpllnmmfpiaaGreatDoorGrowA
import Derived.Deep.RegionLaw
set_option maxHeartbeats 16000000
set_option maxRecDepth 100000
namespace Go.Proofs.YtmfkpllnmmfpiaaGreatDoor
open Go.RowKit
def enterM (S:WS) (s:Sh):Nat × WS :=
 let n:=S.shapes.length
 let r:=fileM S s n
 let c:=if r.1=n then n else classAt r.2 r.1
 (n,{ r.2 with shapes:=r.2.shapes++[s],classes:=r.2.classes++[c],numbers:=setF r.2.numbers s (some n),nums:=r.2.nums+1,trail:=r.2.trail++[⟨1,s,n,0⟩] })
structure Mid (w wc:World) (wb:Nat) (H:Hd) (Z:Nat->Prop) (s:Sh) (n:Nat) (S:WS):Prop where
 ex:∃ H',WebAt wc wb H' (fun k=>Z k\/w.heap.size<=k) S/\∀ k ∈ H'.blocks wb,k ∈ H.blocks wb\/w.heap.size+3<=k
 bw:wc.cell? ⟨w.heap.size,0,none⟩=some (.pointer (some ⟨wb,0,none⟩))
 bs:BoxSh wc (w.heap.size+1) s
 bn:wc.cell? ⟨w.heap.size+2,0,none⟩=some (.int .i64 n)
 upd:Upd (H.blocks wb) w wc
 size:w.heap.size+3<=wc.heap.size
theorem Mid.next {w wc wd:World} {wb:Nat} {H:Hd} {Z:Nat->Prop} {s:Sh} {n:Nat} {S S':WS} {H':Hd} {L:List Nat} (h:Mid w wc wb H Z s n S) (hlt:∀ k ∈ H.blocks wb,k < w.heap.size)
  (hw:WebAt wd wb H' (fun k=>Z k\/w.heap.size<=k) S') (hb:∀ k ∈ H'.blocks wb,k ∈ H.blocks wb\/w.heap.size+3<=k) (U:Upd L wc wd) (hL:∀ k ∈ L,k ∈ H.blocks wb\/w.heap.size+3<=k):Mid w wd wb H Z s n S':=by
 have hsz:=h.size
 have no:∀ j,w.heap.size<=j->j < w.heap.size+3->j ∉ L:=fun j h1 h2 hm=>by
  rcases hL j hm with h3 | h3
  ·have:=hlt j h3; omega
  ·omega
 exact ⟨⟨H',hw,hb⟩,(U.cell (p:=⟨w.heap.size,0,none⟩) (by show w.heap.size < _; omega) (no w.heap.size (Nat.le_refl _) (by omega))).trans h.bw,h.bs.later U (no (w.heap.size+1) (by omega) (by omega)),(U.cell (p:=⟨w.heap.size+2,0,none⟩) (by show w.heap.size+2 < _; omega) (no (w.heap.size+2) (by omega) (by omega))).trans h.bn,
  h.upd.trans' U (fun x hx hl=>by rcases hL x hx with h3 | h3; exact h3; omega),Nat.le_trans hsz U.size⟩
theorem blocks_grown {w:World} {wb g n c:Nat} {H H':Hd} {B:Nat} (hb:∀ k ∈ H'.blocks wb,k ∈ H.blocks wb\/B<=k) (hs:H'.shapes.ownBlock=some g\/g=w.heap.size) (hB:B<=w.heap.size) :
  ∀ k ∈ ({ H' with shapes:=.slice (some ⟨g,0,none⟩) n c }:Hd).blocks wb,k ∈ H.blocks wb\/B<=k:=fun k hk=>by
 rw [Hd.mem_iff] at hk
 rcases hk with h1 | h1 | h1 | h1 | h1 | h1 | h1 | h1
 ·exact hb k (Hd.mem_iff.2 (.inl h1))
 ·exact hb k (Hd.mem_iff.2 (.inr (.inl h1)))
 ·exact hb k (Hd.mem_iff.2 (.inr (.inr (.inl h1))))
 ·exact hb k (Hd.mem_backs h1)
 ·simp only [own_slice,Option.some.injEq] at h1
  subst h1
  rcases hs with hs | hs
  ·exact hb _ (Hd.mem_shapes hs)
  ·exact .inr (by omega)
 ·exact hb k (Hd.mem_classes h1)
 ·exact hb k (Hd.mem_said h1)
 ·exact hb k (Hd.mem_marks h1)
theorem blocks_grown' {w:World} {wb g n c:Nat} {H H':Hd} {B:Nat} (hb:∀ k ∈ H'.blocks wb,k ∈ H.blocks wb\/B<=k) (hs:H'.classes.ownBlock=some g\/g=w.heap.size) (hB:B<=w.heap.size) :
  ∀ k ∈ ({ H' with classes:=.slice (some ⟨g,0,none⟩) n c }:Hd).blocks wb,k ∈ H.blocks wb\/B<=k:=fun k hk=>by
 rw [Hd.mem_iff] at hk
 rcases hk with h1 | h1 | h1 | h1 | h1 | h1 | h1 | h1
 ·exact hb k (Hd.mem_iff.2 (.inl h1))
 ·exact hb k (Hd.mem_iff.2 (.inr (.inl h1)))
 ·exact hb k (Hd.mem_iff.2 (.inr (.inr (.inl h1))))
 ·exact hb k (Hd.mem_backs h1)
 ·exact hb k (Hd.mem_shapes h1)
 ·simp only [own_slice,Option.some.injEq] at h1
  subst h1
  rcases hs with hs | hs
  ·exact hb _ (Hd.mem_classes hs)
  ·exact .inr (by omega)
 ·exact hb k (Hd.mem_said h1)
 ·exact hb k (Hd.mem_marks h1)
abbrev cellsSh (s:Sh):Obj:=.cells #[.string s.1,.int .i64 s.2.1,.int .i64 s.2.2.1,.int .i64 s.2.2.2.1,.int .i64 s.2.2.2.2] 141
theorem Mid.shapes {w wc w3:World} {wb g cap:Nat} {H H':Hd} {Z:Nat->Prop} {s:Sh} {n:Nat} {S:WS} (h:Mid w wc wb H Z s n S) (hlt:∀ k ∈ H.blocks wb,k < w.heap.size)
  (hw:WebAt wc wb H' (fun k=>Z k\/w.heap.size<=k) S) (hb:∀ k ∈ H'.blocks wb,k ∈ H.blocks wb\/w.heap.size+3<=k)
  (hg:(wc.alloc (cellsSh s)).drew.grownBy w3 H'.shapes.ownBlock) (hat:H'.shapes.ownBlock=some g\/g=(wc.alloc (cellsSh s)).drew.heap.size)
  (hown:w3.ownsRow 0 141 5 (.slice (some ⟨g,0,none⟩) (S.shapes.length+1) cap) (S.shapes.length+1) (flatSh S.shapes++[.string s.1,.int .i64 s.2.1,.int .i64 s.2.2.1,.int .i64 s.2.2.2.1,.int .i64 s.2.2.2.2])) :
  Mid w (w3.setCell ⟨wb,2,none⟩ (.slice (some ⟨g,0,none⟩) (S.shapes.length+1) cap)) wb H Z s n { S with shapes:=S.shapes++[s] }:=by
 have h1:=WebAt.grow_shapes (x:=s) hw (((Upd.refl [] wc).alloc (cellsSh s)).drew) hg hat hown
 have hsz:=h.size
 refine h.next hlt (h1.1.mono (fun k hk _=>by rcases hk with hk | hk; exact hk; exact .inr (by omega))) (blocks_grown (w:=(wc.alloc (cellsSh s)).drew) hb hat (by simp; omega)) h1.2 hb
theorem Mid.classes {w wc w3:World} {wb g cap c:Nat} {H H':Hd} {Z:Nat->Prop} {s:Sh} {n:Nat} {S:WS} (h:Mid w wc wb H Z s n S) (hlt:∀ k ∈ H.blocks wb,k < w.heap.size)
  (hw:WebAt wc wb H' (fun k=>Z k\/w.heap.size<=k) S) (hb:∀ k ∈ H'.blocks wb,k ∈ H.blocks wb\/w.heap.size+3<=k)
  (hg:(wc.alloc (.cells #[.int .i64 c] 3)).drew.grownBy w3 H'.classes.ownBlock) (hat:H'.classes.ownBlock=some g\/g=(wc.alloc (.cells #[.int .i64 c] 3)).drew.heap.size)
  (hown:w3.ownsRow 0 3 1 (.slice (some ⟨g,0,none⟩) (S.classes.length+1) cap) (S.classes.length+1) (intsOf S.classes++[.int .i64 c])) :
  Mid w (w3.setCell ⟨wb,4,none⟩ (.slice (some ⟨g,0,none⟩) (S.classes.length+1) cap)) wb H Z s n { S with classes:=S.classes++[c] }:=by
 have h1:=WebAt.grow_classes (x:=c) hw (((Upd.refl [] wc).alloc (.cells #[.int .i64 c] 3)).drew) hg hat hown
 have hsz:=h.size
 refine h.next hlt (h1.1.mono (fun k hk _=>by rcases hk with hk | hk; exact hk; exact .inr (by omega))) (blocks_grown' (w:=(wc.alloc (.cells #[.int .i64 c] 3)).drew) hb hat (by simp; omega)) h1.2 hb
theorem fileM_rows (S:WS) (s:Sh) (n:Nat):(fileM S s n).2.shapes=S.shapes/\(fileM S s n).2.classes=S.classes/\(fileM S s n).2.numbers=S.numbers/\(fileM S s n).2.nums=S.nums/\(fileM S s n).2.said=S.said/\(fileM S s n).2.trail.length<=S.trail.length+1/\(fileM S s n).2.files<=S.files+1:=by
 unfold fileM
 split <;> simp
theorem enter_any (w:World) (wb:Nat) (H:Hd) (Z:Nat->Prop) (S:WS) (s:Sh) (h:WebAt w wb H Z S) (hs:Fits S s) (hgs:GoodSh s) (hb:S.trail.length<=9000000) (hfl:S.files<=10000000) (hnm:S.nums<=1000000) (hlen:S.shapes.length=S.classes.length) (hsm:S.shapes.length<=100000)
  (hal:∀ t,S.alike (keyOfSh S s)=some t->t < S.classes.length) (hZ:∀ k,Z k->k < w.heap.size) :
  Calls Tryz.prog 129 #[.pointer (some ⟨wb,0,none⟩),shV s] w fun e w'=>∃ H',e=.returned (.int .i64 (enterM S s).1)/\WebAt w' wb H' (fun k=>Z k\/w.heap.size<=k) (enterM S s).2/\Upd (H.blocks wb) w w'/\∀ k ∈ H'.blocks wb,k ∈ H.blocks wb\/w.heap.size<=k:=by
 have hltb:=h.mem_lt
 obtain ⟨W3,hW3⟩:∃ W3,W3=((w.alloc (.cells #[.pointer (some ⟨wb,0,none⟩)] 27)).alloc (cellsSh s)).alloc (.cells #[.int .i64 S.shapes.length] 3):=⟨_,rfl⟩
 have U3:Upd [] w W3:=hW3 ▸ (((Upd.refl [] w).alloc _).alloc _).alloc _
 have hs3:W3.heap.size=w.heap.size+3:=by rw [hW3]; simp
 have hM:Mid w W3 wb H Z s S.shapes.length S:=⟨⟨H,(h.later U3 (fun _ _=>by simp)).mono (fun k hk _=>.inl hk),fun k hk=>.inl hk⟩,by rw [hW3]; go_simp,by rw [hW3]; exact ⟨by simp,by go_simp,by go_simp,by go_simp,by go_simp,by go_simp⟩,by rw [hW3]; go_simp,U3.mono (fun x hx _=>by cases hx),by omega⟩
 have hw3:=h.later U3 (fun _ _=>by simp)
 have hd:∃ (g:Option Addr) (cap:Nat),H.shapes=.slice g S.shapes.length cap:=by
  rcases ownsRow_slice h.rs with ⟨h1,h2⟩ | ⟨g,cap,h1,_⟩
  ·exact ⟨none,0,by rw [h1,h2]⟩
  ·exact ⟨_,cap,h1⟩
 obtain ⟨g1,cap1,hsh⟩:=hd
 have c1:=((((Upd.refl [] w).alloc (.cells #[.pointer (some ⟨wb,0,none⟩)] 27)).alloc (.cells #[.string s.1,.int .i64 s.2.1,.int .i64 s.2.2.1,.int .i64 s.2.2.2.1,.int .i64 s.2.2.2.2] 141)).cell (p:=⟨wb,2,none⟩) h.lt (by simp)).trans h.c1
 rw [hsh] at c1
 have Hlen:Hid (S.shapes.length=S.classes.length):=hlen
 have Hfr:=hide (fileM_rows S s S.shapes.length)
 have Hs3:Hid (W3.heap.size=w.heap.size+3):=hs3
 have hs3':w.heap.size+3<=W3.heap.size:=by omega
 obtain ⟨Hx,_,_⟩:=hM.ex
 have f1:=hM.bw
 have f2:=hM.bn
 obtain ⟨f3,f4,f5,f6,f7,f8⟩:=hM.bs
 have hfit:Fits S s:=hs
 clear hlen hs3 hsh
 unfold shV
 go_enter Tryz.func129,Tryz.ntmps129
 go_wp2_with fail
 rw [<- hW3]
 refine (file_any W3 wb H Z S s S.shapes.length hw3 hs (by omega) (by omega) (by unfold maxLen; omega) (fun k hk=>by have:=hZ k hk; omega)).mono ?_
 rintro e w4 ⟨H4,rfl,hw4,hu4,hH4⟩
 have hM4:Mid w w4 wb H Z s S.shapes.length (fileM S s S.shapes.length).2:=hM.next hltb (hw4.mono (fun k hk _=>by rcases hk with hk | hk; exact .inl hk; exact .inr (by omega))) (fun k hk=>(hH4 k hk).imp id (fun e=>by omega)) hu4 (fun k hk=>.inl hk)
 have Hn:Hid (∀ t,(fileM S s S.shapes.length).1=t->t ≠ S.shapes.length->t < S.classes.length):=by
  intro t ht hne
  cases ha:S.alike (keyOfSh S s) with
  | none=>simp [fileM,ha] at ht; omega
  | some t'=>simp [fileM,ha] at ht; subst ht; exact hal _ ha
 obtain ⟨S1,hS1⟩:∃ S1,S1=(fileM S s S.shapes.length).2:=⟨_,rfl⟩
 obtain ⟨t,ht⟩:∃ t,t=(fileM S s S.shapes.length).1:=⟨_,rfl⟩
 obtain ⟨r1,r2,r3,r4,r5,r6,r7⟩:=Hfr.out
 have HM:Hid (enterM S s=(S.shapes.length,{ S1 with shapes:=S1.shapes++[s],classes:=S1.classes++[if t=S.shapes.length then S.shapes.length else classAt S1 t],numbers:=setF S1.numbers s (some S.shapes.length),nums:=S1.nums+1,trail:=S1.trail++[⟨1,s,S.shapes.length,0⟩] })):=by
  show _=_
  rw [hS1,ht]; rfl
 have hlenS:S1.shapes.length<=100000:=by rw [hS1,r1]; exact hsm
 have hlenC:S1.classes.length<=100000:=by rw [hS1,r2,<- Hlen.out]; exact hsm
 have htr:S1.trail.length<=9500000:=by rw [hS1]; omega
 have hnum:S1.nums<=1000000:=by rw [hS1,r4]; exact hnm
 have Ht:Hid (t ≠ S.shapes.length->t < S1.classes.length):=fun hne=>by
  rw [hS1,r2]; exact Hn.out t ht.symm hne
 rw [<- hS1] at hM4
 rw [<- ht]
 clear hW3 hM c1 f1 f2 f3 f4 f5 f6 f7 f8 hu4 hw3 U3 hw4 hH4 Hn r1 r2 r3 r4 r5 r6 r7 Hfr hS1 ht Hlen Hs3 hs hfit hal hb hfl hnm hZ hs3' h
 have m1:=hM4.bw
 have m2:=hM4.bn
 go_upto_if 20 with (fail)
 go_cut [6] (fun v wc=>v=.int .i64 ((if t=S.shapes.length then S.shapes.length else classAt S1 t:Nat):Int)/\wc=w4)
 case first =>
  by_cases htn:t=S.shapes.length
  ·subst htn
   have hx:((S.shapes.length:Int) != (S.shapes.length:Int))=false:=by simp
   go_wp2_with fail
   go_meet
   case rel=>simp
  ·have hx:((t:Int) != (S.shapes.length:Int))=true:=by simp; omega
   have htlt:=Ht.out htn
   obtain ⟨Hc,hwc,hbc⟩:=hM4.ex
   obtain ⟨g,cap,hcl,_,_⟩:∃ g cap,Hc.classes=.slice (some ⟨g,0,none⟩) S1.classes.length cap/\S1.classes.length<=cap/\cap<=maxLen:=by
    rcases ownsRow_slice hwc.rc with ⟨_,h0⟩ | hh
    ·omega
    ·exact hh
   have hrc:=hwc.rc
   rw [hcl] at hrc
   have hcell:=row1_cell hrc htlt
   have c3:=hwc.c3
   rw [hcl] at c3
   have htlt':(t:Int) < (S1.classes.length:Int):=by omega
   clear hrc hcl
   go_wp2_with fail
   go_meet
   case rel=>simp [htn,classAt,List.getD,List.getElem?_eq_getElem htlt]
 case rest =>
  obtain ⟨rfl,rfl⟩:=hcut
  generalize hcdef:(if t=S.shapes.length then S.shapes.length else classAt S1 t)=c at HM ⊢
  obtain ⟨W,hWc⟩:∃ W,W=wc:=⟨_,rfl⟩
  rw [<- hWc]
  have hMc:Mid w W wb H Z s S.shapes.length S1:=by rw [hWc]; exact hM4
  have Hcd:Hid ((if t=S.shapes.length then S.shapes.length else classAt S1 t)=c):=hcdef
  clear hWc hM4 m1 m2 hcdef
  go_wp2_with fail
  go_cut [] (fun wd=>Mid w wd wb H Z s S.shapes.length { S1 with shapes:=S1.shapes++[s] })
  case first =>
   obtain ⟨i0,hi,hz0,hz1,hz2⟩:=info_parts info_shape
   obtain ⟨Hc,hwc,hbc⟩:=hMc.ex
   have hA:=Hd.parts hwc.apart
   have m1:=hMc.bw
   have m2:=hMc.bn
   obtain ⟨v0,v1,v2,v3,v4,v5⟩:=hMc.bs
   have hsz:=hMc.size
   have hltc:=hwc.lt
   have hwlt:wb < w.heap.size:=hltb wb (H.mem_wb wb)
   have cc:=hwc.c1
   have cf:=hwc.free
   have hrow1:=(((Upd.refl [] W).alloc (.cells #[.string s.1,.int .i64 s.2.1,.int .i64 s.2.2.1,.int .i64 s.2.2.2.1,.int .i64 s.2.2.2.2] 141)).drew).ownsRow hwc.rs (fun _ _=>by simp)
   have hnews:∀ j u,[Value.string s.1,.int .i64 s.2.1,.int .i64 s.2.2.1,.int .i64 s.2.2.2.1,.int .i64 s.2.2.2.2][j]?=some u->(W.alloc (.cells #[.string s.1,.int .i64 s.2.1,.int .i64 s.2.2.1,.int .i64 s.2.2.2.1,.int .i64 s.2.2.2.2] 141)).drew.cell? ((⟨W.heap.size,0,none⟩:Addr).add j)=some u:=World.news_of_block (heap_alloc_new W _)
   have hone:∀ u ∈ [Value.string s.1,.int .i64 s.2.1,.int .i64 s.2.2.1,.int .i64 s.2.2.2.1,.int .i64 s.2.2.2.2],u.oneCell'=true:=by intro u hu'; simp at hu'; first | (rcases hu' with rfl | rfl | rfl | rfl | rfl <;> rfl) | (subst hu'; rfl)
   have UX:=(Upd.refl [] W).alloc (.cells #[.string s.1,.int .i64 s.2.1,.int .i64 s.2.2.1,.int .i64 s.2.2.2.1,.int .i64 s.2.2.2.2] 141)
   have a1:=(UX.cell (p:=⟨w.heap.size,0,none⟩) (by show w.heap.size < _; omega) (by simp)).trans m1
   have a2:=(UX.cell (p:=⟨w.heap.size+1,0,none⟩) (by show w.heap.size+1 < _; omega) (by simp)).trans v1
   have a3:=(UX.cell (p:=⟨w.heap.size+1,1,none⟩) (by show w.heap.size+1 < _; omega) (by simp)).trans v2
   have a4:=(UX.cell (p:=⟨w.heap.size+1,2,none⟩) (by show w.heap.size+1 < _; omega) (by simp)).trans v3
   have a5:=(UX.cell (p:=⟨w.heap.size+1,3,none⟩) (by show w.heap.size+1 < _; omega) (by simp)).trans v4
   have a6:=(UX.cell (p:=⟨w.heap.size+1,4,none⟩) (by show w.heap.size+1 < _; omega) (by simp)).trans v5
   have a7:=(UX.cell (p:=⟨wb,2,none⟩) hltc (by simp)).trans cc
   have HF:Hid (∀ w3,(W.alloc (.cells #[.string s.1,.int .i64 s.2.1,.int .i64 s.2.2.1,.int .i64 s.2.2.2.1,.int .i64 s.2.2.2.2] 141)).drew.grownBy w3 Hc.shapes.ownBlock->w3.cell? ⟨w.heap.size,0,none⟩=some (.pointer (some ⟨wb,0,none⟩))/\w3.cell? ⟨wb,2,none⟩=some Hc.shapes/\∀ o,w3.frozen? ⟨wb,o,none⟩=false):=fun w3 hg=>by
    have U:=(((Upd.refl Hc.shapes.ownBlock.toList W).alloc (.cells #[.string s.1,.int .i64 s.2.1,.int .i64 s.2.2.1,.int .i64 s.2.2.2.1,.int .i64 s.2.2.2.2] 141)).drew).trans (Upd.of_grown hg)
    have hn:wb ∉ Hc.shapes.ownBlock.toList:=fun hm=>(hA.s wb (by simpa using hm)).1 rfl
    have hnw:w.heap.size ∉ Hc.shapes.ownBlock.toList:=fun hm=>by
     rcases hbc _ (Hd.mem_shapes (by simpa using hm)) with h5 | h5
     ·have:=hltb _ h5; omega
     ·omega
    exact ⟨(U.cell (p:=⟨w.heap.size,0,none⟩) (by show w.heap.size < _; omega) hnw).trans m1,(U.cell (p:=⟨wb,2,none⟩) hltc hn).trans cc,fun o=>(U.frozen (p:=⟨wb,o,none⟩) hltc hn).trans (cf o)⟩
   have HG:=hide (fun g cap w3 hg hat hown=>hMc.shapes (g:=g) (cap:=cap) (w3:=w3) hltb hwc hbc hg hat hown)
   clear hA UX
   go_region_law (first | (refine step_append_lies _ rfl _ _ 107 rfl 0 141 i0 (.agg #[.string ⟨#[]⟩,.int .i64 0,.int .i64 0,.int .i64 0,.int .i64 0]) 5 48 Tryz.underlying107 hi hz0 hz1 hz2 rfl (by decide) Hc.shapes S1.shapes.length (flatSh S1.shapes) rfl hrow1 ⟨W.heap.size,0,none⟩ 1 1 [Value.string s.1,.int .i64 s.2.1,.int .i64 s.2.2.1,.int .i64 s.2.2.2.1,.int .i64 s.2.2.2.2] rfl rfl hnews hone (by decide) (by unfold maxLen; omega) (by omega) (Nat.zero_le _) _ rfl ?_; intro g cap w3 hown' hgrow hat hlt3; obtain ⟨q0,q1,q2⟩:=HF.out w3 hgrow))
   all_goals (go_wp2_with fail; go_meet)
   all_goals exact HG.out _ _ _ ‹_› ‹_› ‹_›
  case rest =>
   obtain ⟨S2,hS2⟩:∃ S2:WS,S2={ S1 with shapes:=S1.shapes++[s] }:=⟨_,rfl⟩
   have HM2:Hid (enterM S s=(S.shapes.length,{ S2 with classes:=S2.classes++[c],numbers:=setF S2.numbers s (some S.shapes.length),nums:=S2.nums+1,trail:=S2.trail++[⟨1,s,S.shapes.length,0⟩] })):=by
    show _=_
    rw [HM.out,hS2]
   have hlenC2:S2.classes.length<=100000:=by rw [hS2]; exact hlenC
   have htr2:S2.trail.length<=9500000:=by rw [hS2]; exact htr
   have hnum2:S2.nums<=1000000:=by rw [hS2]; exact hnum
   rw [<- hS2] at hcut
   clear hMc HM hlenS hlenC htr hnum hS2 Hcd Ht
   obtain ⟨W,hWc⟩:∃ W,W=wc:=⟨_,rfl⟩
   rw [<- hWc]
   have hMc:Mid w W wb H Z s S.shapes.length S2:=by rw [hWc]; exact hcut
   clear hWc hcut
   go_wp2_with fail
   go_cut [] (fun wd=>Mid w wd wb H Z s S.shapes.length { S2 with classes:=S2.classes++[c] })
   case first =>
    obtain ⟨i0,hi,hz0,hz1,hz2⟩:=info_parts info_int
    obtain ⟨Hc,hwc,hbc⟩:=hMc.ex
    have hA:=Hd.parts hwc.apart
    have m1:=hMc.bw
    have m2:=hMc.bn
    obtain ⟨v0,v1,v2,v3,v4,v5⟩:=hMc.bs
    have hsz:=hMc.size
    have hltc:=hwc.lt
    have hwlt:wb < w.heap.size:=hltb wb (H.mem_wb wb)
    have cc:=hwc.c3
    have cf:=hwc.free
    have hrow1:=(((Upd.refl [] W).alloc (.cells #[.int .i64 c] 3)).drew).ownsRow hwc.rc (fun _ _=>by simp)
    have hnews:∀ j u,[Value.int .i64 (c:Int)][j]?=some u->(W.alloc (.cells #[.int .i64 c] 3)).drew.cell? ((⟨W.heap.size,0,none⟩:Addr).add j)=some u:=World.news_of_block (heap_alloc_new W _)
    have hone:∀ u ∈ [Value.int .i64 (c:Int)],u.oneCell'=true:=by intro u hu'; simp at hu'; first | (rcases hu' with rfl | rfl | rfl | rfl | rfl <;> rfl) | (subst hu'; rfl)
    have UX:=(Upd.refl [] W).alloc (.cells #[.int .i64 c] 3)
    have a1:=(UX.cell (p:=⟨w.heap.size,0,none⟩) (by show w.heap.size < _; omega) (by simp)).trans m1
    have a2:=(UX.cell (p:=⟨w.heap.size+1,0,none⟩) (by show w.heap.size+1 < _; omega) (by simp)).trans v1
    have a3:=(UX.cell (p:=⟨w.heap.size+1,1,none⟩) (by show w.heap.size+1 < _; omega) (by simp)).trans v2
    have a4:=(UX.cell (p:=⟨w.heap.size+1,2,none⟩) (by show w.heap.size+1 < _; omega) (by simp)).trans v3
    have a5:=(UX.cell (p:=⟨w.heap.size+1,3,none⟩) (by show w.heap.size+1 < _; omega) (by simp)).trans v4
    have a6:=(UX.cell (p:=⟨w.heap.size+1,4,none⟩) (by show w.heap.size+1 < _; omega) (by simp)).trans v5
    have a7:=(UX.cell (p:=⟨wb,4,none⟩) hltc (by simp)).trans cc
    have HF:Hid (∀ w3,(W.alloc (.cells #[.int .i64 c] 3)).drew.grownBy w3 Hc.classes.ownBlock->w3.cell? ⟨w.heap.size,0,none⟩=some (.pointer (some ⟨wb,0,none⟩))/\w3.cell? ⟨wb,4,none⟩=some Hc.classes/\∀ o,w3.frozen? ⟨wb,o,none⟩=false):=fun w3 hg=>by
     have U:=(((Upd.refl Hc.classes.ownBlock.toList W).alloc (.cells #[.int .i64 c] 3)).drew).trans (Upd.of_grown hg)
     have hn:wb ∉ Hc.classes.ownBlock.toList:=fun hm=>(hA.c wb (by simpa using hm)).1 rfl
     have hnw:w.heap.size ∉ Hc.classes.ownBlock.toList:=fun hm=>by
      rcases hbc _ (Hd.mem_classes (by simpa using hm)) with h5 | h5
      ·have:=hltb _ h5; omega
      ·omega
     exact ⟨(U.cell (p:=⟨w.heap.size,0,none⟩) (by show w.heap.size < _; omega) hnw).trans m1,(U.cell (p:=⟨wb,4,none⟩) hltc hn).trans cc,fun o=>(U.frozen (p:=⟨wb,o,none⟩) hltc hn).trans (cf o)⟩
    have HG:=hide (fun g cap w3 hg hat hown=>hMc.classes (c:=c) (g:=g) (cap:=cap) (w3:=w3) hltb hwc hbc hg hat hown)
    clear hA UX
    go_region_law (first | (refine step_append_lies _ rfl _ _ 44 rfl 0 3 i0 (.int .i64 0) 1 8 Tryz.underlying44 hi hz0 hz1 hz2 rfl (by decide) Hc.classes S2.classes.length (intsOf S2.classes) rfl hrow1 ⟨W.heap.size,0,none⟩ 1 1 [Value.int .i64 (c:Int)] rfl rfl hnews hone (by decide) (by unfold maxLen; omega) (by omega) (Nat.zero_le _) _ rfl ?_; intro g cap w3 hown' hgrow hat hlt3; obtain ⟨q0,q1,q2⟩:=HF.out w3 hgrow))
    all_goals (go_wp2_with fail; go_meet)
    all_goals exact HG.out _ _ _ ‹_› ‹_› ‹_›
   case rest =>
    obtain ⟨S3,hS3⟩:∃ S3:WS,S3={ S2 with classes:=S2.classes++[c] }:=⟨_,rfl⟩
    have HM3:Hid (enterM S s=(S.shapes.length,{ S3 with numbers:=setF S3.numbers s (some S.shapes.length),nums:=S3.nums+1,trail:=S3.trail++[⟨1,s,S.shapes.length,0⟩] })):=by
     show _=_
     rw [HM2.out,hS3]
    have htr3:S3.trail.length<=9500000:=by rw [hS3]; exact htr2
    have hnum3:S3.nums<=1000000:=by rw [hS3]; exact hnum2
    rw [<- hS3] at hcut
    clear hMc HM2 hlenC2 htr2 hnum2 hS3
    obtain ⟨Hc,hwc,hbc⟩:=hcut.ex
    obtain ⟨wf,hput⟩:=(hwc.mn.later ((Upd.refl [] wc).drew) (by simp)).put s hgs S.shapes.length (by omega) (by unfold maxLen; omega)
    have hrun:(Instr.mapUpdate 108 (.map (some Hc.nb)) (.agg #[.string s.1,.int .i64 s.2.1,.int .i64 s.2.2.1,.int .i64 s.2.2.2.1,.int .i64 s.2.2.2.2]) (.int .i64 S.shapes.length)).run Tryz.prog wc.drew=.ok () wf:=hput.1
    have HW:Hid (WebAt wf wb Hc (fun k=>Z k\/w.heap.size<=k) { S3 with numbers:=setF S3.numbers s (some S.shapes.length),nums:=S3.nums+1 }/\Mid w wf wb H Z s S.shapes.length { S3 with numbers:=setF S3.numbers s (some S.shapes.length),nums:=S3.nums+1 }):=by
     have h1:=(hwc.later ((Upd.refl [] wc).drew) (fun _ _=>by simp)).set_numbers hput.2.2 hput.2.1
     exact ⟨h1,hcut.next hltb h1 hbc (((Upd.refl [Hc.nb] wc).drew).trans (mapTurned_upd hput.2.2)) (fun k hk=>by simp at hk; rw [hk]; exact hbc _ (Hc.mem_nb wb))⟩
    have HU:Hid (True/\IsUn wf wb (fun k=>(Z k\/w.heap.size<=k)/\k ∉ Hc.blocks wb) (.func (.func 158) #[] #[.pointer (some ⟨w.heap.size,0,none⟩),.pointer (some ⟨w.heap.size+1+1,0,none⟩),.pointer (some ⟨w.heap.size+1,0,none⟩)]) ⟨1,s,S.shapes.length,0⟩):=by
     have hm:=HW.out.2
     have hsz:=hm.size
     have no:∀ j,w.heap.size<=j->j < w.heap.size+3->j ∉ Hc.blocks wb:=fun j h1 h2 hm=>by
      rcases hbc j hm with h3 | h3
      ·have:=hltb j h3; omega
      ·omega
     exact ⟨trivial,w.heap.size,⟨.inr (Nat.le_refl _),no _ (Nat.le_refl _) (by omega)⟩,⟨by omega,hm.bw⟩,.inr (.inl ⟨rfl,w.heap.size+2,w.heap.size+1,⟨.inr (by omega),no _ (by omega) (by omega)⟩,⟨.inr (by omega),no _ (by omega) (by omega)⟩,⟨by omega,hm.bn⟩,hm.bs,rfl⟩)⟩
    have m1:=hcut.bw
    have m2:=hcut.bn
    obtain ⟨v0,v1,v2,v3,v4,v5⟩:=hcut.bs
    have cc:=hwc.c2
    have fw:wf.cell? ⟨w.heap.size,0,none⟩=some (.pointer (some ⟨wb,0,none⟩)):=HW.out.2.bw
    have fn:wf.cell? ⟨w.heap.size+2,0,none⟩=some (.int .i64 S.shapes.length):=HW.out.2.bn
    have htr4:S3.trail.length<=10000000:=by omega
    have hno:w.heap.size+2 ∉ Hc.blocks wb:=fun hm=>by
     rcases hbc _ hm with h3 | h3
     ·have:=hltb _ h3; omega
     ·omega
    have Hbc:=hide hbc
    have Hlt:=hide hltb
    clear hput hwc hcut hbc hltb
    go_wp2_with fail
    go_region
    go_wp2_with (go_at_call 153; refine (leave_any wf wb Hc _ _ _ _ HW.out.1 HU.out.2 htr4).mono ?_; rintro e w5 ⟨bk,rfl,hw5,hu5,hH5⟩; have fn5:=(hu5.cell (p:=⟨w.heap.size+2,0,none⟩) (World.block_lt_of_cell? _ _ fn) hno).trans fn)
    go_ret
    have hszf:=HW.out.2.size
    refine ⟨_,by rw [HM3.out]; rfl,by rw [HM3.out]; exact hw5.mono (fun k hk _=>by rcases hk with hk | hk; exact hk; exact .inr (by omega)),HW.out.2.upd.trans' hu5 (fun k hk hl=>?_),fun k hk=>?_⟩
    ·rcases Hbc.out k hk with h5 | h5
     ·exact h5
     ·omega
    ·rcases hH5 k hk with h5 | h5
     ·exact (Hbc.out k h5).imp id (fun e=>by omega)
     ·exact .inr (by omega)
end Go.Proofs.YtmfkpllnmmfpiaaGreatDoor
