/- Note -/
import Derived.Test.YtmfkpllnmmfpiaaGreatDoorGrowA
import Derived.Deep.RegionLaw
set_option maxHeartbeats 16000000
set_option maxRecDepth 100000
namespace Go.Proofs.YtmfkpllnmmfpiaaGreatDoor
open Go.RowKit
theorem info_saying:(Tryz.prog.info? 134).map (fun i=>(i.zero,i.size,i.bytes))=some (some (.agg #[.int .i64 0,.int .i64 0,.int .i64 0]),3,24):=by kernel_rfl
theorem flatSaid_append (a b:List (Nat × Nat × Nat)):flatSaid (a++b)=flatSaid a++flatSaid b:=by
 induction a with
 | nil=>rfl
 | cons c cs ih=>simp [flatSaid,ih]
theorem WebAt.grow_said {w w1 w2:World} {wb g cap:Nat} {H:Hd} {Z:Nat->Prop} {S:WS} {x:Nat × Nat × Nat} (h:WebAt w wb H Z S)
  (hu1:Upd [] w w1) (hgrow:w1.grownBy w2 H.said.ownBlock) (hat:H.said.ownBlock=some g\/g=w1.heap.size)
  (hown:w2.ownsRow 0 134 3 (.slice (some ⟨g,0,none⟩) (S.said.length+1) cap) (S.said.length+1) (flatSaid S.said++flatSaid [x])) :
  WebAt (w2.setCell ⟨wb,6,none⟩ (.slice (some ⟨g,0,none⟩) (S.said.length+1) cap)) wb { H with said:=.slice (some ⟨g,0,none⟩) (S.said.length+1) cap } (fun k=>Z k\/w.heap.size<=k) { S with said:=S.said++[x] } /\
   Upd (H.blocks wb) w (w2.setCell ⟨wb,6,none⟩ (.slice (some ⟨g,0,none⟩) (S.said.length+1) cap)):=by
 have hA:=Hd.parts h.apart
 have hsz1:=hu1.size
 have U2:Upd H.said.ownBlock.toList w w2:=(hu1.mono (fun x hx _=>by cases hx)).trans (Upd.of_grown hgrow)
 have hwb2:wb ∉ H.said.ownBlock.toList:=fun hm=>(hA.d wb (by simpa using hm)).1 rfl
 have c5:w2.cell? ⟨wb,6,none⟩=some H.said:=(U2.cell h.lt hwb2).trans h.c5
 have U:Upd (wb :: H.said.ownBlock.toList) w (w2.setCell ⟨wb,6,none⟩ (.slice (some ⟨g,0,none⟩) (S.said.length+1) cap)):=(U2.mono (fun x hx _=>by simp at hx ⊢; exact .inr hx)).setCell (by simp) _
 have hsub:∀ k,k ∈ wb :: H.said.ownBlock.toList->k ∈ H.blocks wb:=fun k hk=>by
  simp at hk
  rcases hk with rfl | hk
  ·exact H.mem_wb _
  ·exact Hd.mem_said hk
 have hgf:H.said.ownBlock=some g\/w.heap.size<=g:=hat.imp id (fun e=>by omega)
 have hgn:H.said.ownBlock=some g\/g ∉ H.blocks wb:=hgf.imp id (fun e hm=>by have:=h.mem_lt g hm; omega)
 have hgw:g ≠ wb:=fun e=>by
  subst e
  rcases hgf with hg | hg
  ·exact (hA.d g hg).1 rfl
  ·have:=h.lt; omega
 have hH:∀ k ∈ ({ H with said:=.slice (some ⟨g,0,none⟩) (S.said.length+1) cap }:Hd).blocks wb,k ∈ H.blocks wb\/w.heap.size<=k:=fun k hk=>by
  rw [Hd.mem_iff] at hk
  rcases hk with h1 | h1 | h1 | h1 | h1 | h1 | h1 | h1
  ·exact .inl (Hd.mem_iff.2 (.inl h1))
  ·exact .inl (Hd.mem_iff.2 (.inr (.inl h1)))
  ·exact .inl (Hd.mem_iff.2 (.inr (.inr (.inl h1))))
  ·exact .inl (Hd.mem_backs h1)
  ·exact .inl (Hd.mem_shapes h1)
  ·exact .inl (Hd.mem_classes h1)
  ·simp only [own_slice,Option.some.injEq] at h1
   subst h1
   exact hgf.imp (fun e=>Hd.mem_said e) id
  ·exact .inl (Hd.mem_marks h1)
 obtain ⟨cls,hrow,hall⟩:=h.rb
 have no0:∀ k,H.backs.ownBlock=some k->k ∉ wb :: H.said.ownBlock.toList:=fun k hk hm=>by simp at hm; rcases hm with hm | hm; exact (hA.b k hk).1 hm; exact (hA.b k hk).2.2.2.2.2 hm
 have no1:∀ k,H.shapes.ownBlock=some k->k ∉ wb :: H.said.ownBlock.toList:=fun k hk hm=>by simp at hm; rcases hm with hm | hm; exact (hA.s k hk).1 hm; exact (hA.s k hk).2.2.2.2.2 hm
 have no2:∀ k,H.classes.ownBlock=some k->k ∉ wb :: H.said.ownBlock.toList:=fun k hk hm=>by simp at hm; rcases hm with hm | hm; exact (hA.c k hk).1 hm; exact (hA.c k hk).2.2.2.2.2 hm
 have no6:∀ k,H.marks.ownBlock=some k->k ∉ wb :: H.said.ownBlock.toList:=fun k hk hm=>by simp at hm; rcases hm with hm | hm; exact (hA.m k hk).1 hm; exact (hA.m k hk).2.2.2.2.2.2 hm
 have no4:H.nb ∉ wb :: H.said.ownBlock.toList:=fun hm=>by simp at hm; rcases hm with hm | hm; exact hA.wn hm.symm; exact (hA.d _ hm).2.1 rfl
 have no5:H.ab ∉ wb :: H.said.ownBlock.toList:=fun hm=>by simp at hm; rcases hm with hm | hm; exact hA.wa hm.symm; exact (hA.d _ hm).2.2.1 rfl
 refine ⟨{
  lt:=Nat.lt_of_lt_of_le h.lt U.size
  free:=fun o=>by rw [World.frozen?_setCell]; exact (U2.frozen (p:=⟨wb,o,none⟩) h.lt hwb2).trans (h.free o)
  c0:=by have:=(U2.cell (p:=⟨wb,0,none⟩) h.lt hwb2).trans h.c0; go_simp
  c1:=by have:=(U2.cell (p:=⟨wb,2,none⟩) h.lt hwb2).trans h.c1; go_simp
  c2:=by have:=(U2.cell (p:=⟨wb,3,none⟩) h.lt hwb2).trans h.c2; go_simp
  c3:=by have:=(U2.cell (p:=⟨wb,4,none⟩) h.lt hwb2).trans h.c3; go_simp
  c4:=by have:=(U2.cell (p:=⟨wb,5,none⟩) h.lt hwb2).trans h.c4; go_simp
  c5:=by go_simp
  cm:=by have:=(U2.cell (p:=⟨wb,1,none⟩) h.lt hwb2).trans h.cm; go_simp
  rs:=U.ownsRow h.rs no1
  rc:=U.ownsRow h.rc no2
  rd:=?_
  rm:=U.ownsRow h.rm no6
  mn:=h.mn.later U no4
  ma:=h.ma.later U no5
  apart:=Hd.apart_said h.apart hgn
  rb:=⟨cls,U.ownsRow hrow no0,hall.mono fun _ _ hi=>hi.closures U (fun k hk _=>hsub k hk) hH⟩
  inZ:=fun k hk=>(hH k hk).imp (h.inZ k) id },U.mono fun x hx _=>hsub x hx⟩
 have:=((Upd.refl [wb] w2).setCell (p:=⟨wb,6,none⟩) (by simp) (.slice (some ⟨g,0,none⟩) (S.said.length+1) cap)).ownsRow hown (fun k hk hm=>by simp [Value.ownBlock] at hk hm; omega)
 show World.ownsRow _ _ _ _ _ (S.said++[x]).length (flatSaid (S.said++[x]))
 rw [flatSaid_append]
 simpa using this
def Noted (w:World) (wb:Nat) (H:Hd) (Z:Nat->Prop) (S:WS) (x:Nat × Nat × Nat) (wc:World):Prop :=
 ∃ H',WebAt wc wb H' (fun k=>Z k\/w.heap.size<=k) { S with said:=S.said++[x] }/\wc.cell? ⟨w.heap.size,0,none⟩=some (.pointer (some ⟨wb,0,none⟩))/\Upd (H.blocks wb) w wc/\∀ k,k ∈ H'.blocks wb->k ∈ H.blocks wb\/w.heap.size+2<=k
theorem note_any (w:World) (wb:Nat) (H:Hd) (Z:Nat->Prop) (S:WS) (x:Nat × Nat × Nat) (h:WebAt w wb H Z S) (hb:S.trail.length<=10000000) (hsd:S.said.length<=1000000) :
  Calls Tryz.prog 127 #[.pointer (some ⟨wb,0,none⟩),.agg #[.int .i64 x.1,.int .i64 x.2.1,.int .i64 x.2.2]] w fun e w'=>∃ H',e=.returned (.tuple #[])/\WebAt w' wb H' (fun k=>Z k\/w.heap.size<=k) { S with said:=S.said++[x],trail:=S.trail++[⟨0,(⟨#[]⟩,0,0,0,0),0,0⟩] }/\Upd (H.blocks wb) w w'/\∀ k ∈ H'.blocks wb,k ∈ H.blocks wb\/w.heap.size<=k:=by
 obtain ⟨i0,hi,hz0,hz1,hz2⟩:=info_parts info_saying
 have hlt:=h.lt
 obtain ⟨W2,hW2⟩:∃ W2,W2=(w.alloc (.cells #[.pointer (some ⟨wb,0,none⟩)] 27)).alloc (.cells #[.int .i64 x.1,.int .i64 x.2.1,.int .i64 x.2.2] 134):=⟨_,rfl⟩
 have U2:Upd [] w W2:=hW2 ▸ ((Upd.refl [] w).alloc _).alloc _
 have h2:=h.later U2 (fun _ _=>by simp)
 have b2:W2.cell? ⟨w.heap.size,0,none⟩=some (.pointer (some ⟨wb,0,none⟩)):=by rw [hW2]; go_simp
 have b30:W2.cell? ⟨w.heap.size+1,0,none⟩=some (.int .i64 x.1):=by rw [hW2]; go_simp
 have b31:W2.cell? ⟨w.heap.size+1,1,none⟩=some (.int .i64 x.2.1):=by rw [hW2]; go_simp
 have b32:W2.cell? ⟨w.heap.size+1,2,none⟩=some (.int .i64 x.2.2):=by rw [hW2]; go_simp
 have hs2:w.heap.size+2<=W2.heap.size:=by rw [hW2]; simp
 go_enter Tryz.func127,Tryz.ntmps127
 go_wp2_with fail
 rw [<- hW2]
 clear hW2
 have c5:=h2.c5
 have hf2:=h2.free
 have hlt2:=h2.lt
 have hA:=Hd.parts h2.apart
 have hrow1:=(((Upd.refl [] W2).alloc (.cells #[.int .i64 x.1,.int .i64 x.2.1,.int .i64 x.2.2] 134)).drew).ownsRow h2.rd (fun _ _=>by simp)
 have hnews:∀ j u,[Value.int .i64 x.1,.int .i64 x.2.1,.int .i64 x.2.2][j]?=some u->(W2.alloc (.cells #[.int .i64 x.1,.int .i64 x.2.1,.int .i64 x.2.2] 134)).drew.cell? ((⟨W2.heap.size,0,none⟩:Addr).add j)=some u:=World.news_of_block (heap_alloc_new W2 _)
 have hone:∀ u ∈ [Value.int .i64 x.1,.int .i64 x.2.1,.int .i64 x.2.2],u.oneCell'=true:=by intro u hu'; simp at hu'; rcases hu' with rfl | rfl | rfl <;> rfl
 have HF:Hid (∀ w3,(W2.alloc (.cells #[.int .i64 x.1,.int .i64 x.2.1,.int .i64 x.2.2] 134)).drew.grownBy w3 H.said.ownBlock->w3.cell? ⟨w.heap.size,0,none⟩=some (.pointer (some ⟨wb,0,none⟩))/\w3.cell? ⟨w.heap.size+1,0,none⟩=some (.int .i64 x.1)/\w3.cell? ⟨w.heap.size+1,1,none⟩=some (.int .i64 x.2.1)/\w3.cell? ⟨w.heap.size+1,2,none⟩=some (.int .i64 x.2.2)/\w3.cell? ⟨wb,6,none⟩=some H.said/\∀ o,w3.frozen? ⟨wb,o,none⟩=false):=fun w3 hg=>by
  have U:=(((Upd.refl H.said.ownBlock.toList W2).alloc (.cells #[.int .i64 x.1,.int .i64 x.2.1,.int .i64 x.2.2] 134)).drew).trans (Upd.of_grown hg)
  have hn:wb ∉ H.said.ownBlock.toList:=fun hm=>(hA.d wb (by simpa using hm)).1 rfl
  have hnw:∀ k,w.heap.size<=k->k ∉ H.said.ownBlock.toList:=fun k hk hm=>by have:=h.mem_lt k (Hd.mem_said (by simpa using hm)); omega
  exact ⟨(U.cell (p:=⟨w.heap.size,0,none⟩) (by show w.heap.size < _; omega) (hnw _ (Nat.le_refl _))).trans b2,(U.cell (p:=⟨w.heap.size+1,0,none⟩) (by show w.heap.size+1 < _; omega) (hnw _ (Nat.le_succ _))).trans b30,(U.cell (p:=⟨w.heap.size+1,1,none⟩) (by show w.heap.size+1 < _; omega) (hnw _ (Nat.le_succ _))).trans b31,(U.cell (p:=⟨w.heap.size+1,2,none⟩) (by show w.heap.size+1 < _; omega) (hnw _ (Nat.le_succ _))).trans b32,(U.cell (p:=⟨wb,6,none⟩) hlt2 hn).trans c5,fun o=>(U.frozen (p:=⟨wb,o,none⟩) hlt2 hn).trans (hf2 o)⟩
 have hn1:wb ≠ W2.heap.size:=by omega
 have hn2:wb ≠ w.heap.size:=by omega
 have hn3:wb ≠ w.heap.size+1:=by omega
 have hn4:w.heap.size ≠ W2.heap.size:=by omega
 have hn5:w.heap.size+1 ≠ W2.heap.size:=by omega
 clear hA
 have HG:Hid (∀ g cap w3,(W2.alloc (.cells #[.int .i64 x.1,.int .i64 x.2.1,.int .i64 x.2.2] 134)).drew.grownBy w3 H.said.ownBlock->(H.said.ownBlock=some g\/g=(W2.alloc (.cells #[.int .i64 x.1,.int .i64 x.2.1,.int .i64 x.2.2] 134)).drew.heap.size)->w3.ownsRow 0 134 3 (.slice (some ⟨g,0,none⟩) (S.said.length+1) cap) (S.said.length+1) (flatSaid S.said++[.int .i64 x.1,.int .i64 x.2.1,.int .i64 x.2.2]) ->
   Noted w wb H Z S x (w3.setCell ⟨wb,6,none⟩ (.slice (some ⟨g,0,none⟩) (S.said.length+1) cap))):=fun g cap w3 hg hat hown=>by
  have h1:=WebAt.grow_said (x:=x) h2 (((Upd.refl [] W2).alloc (.cells #[.int .i64 x.1,.int .i64 x.2.1,.int .i64 x.2.2] 134)).drew) hg hat hown
  have hb:=(HF.out w3 hg).1
  refine ⟨_,h1.1.mono (fun k hk _=>by rcases hk with hk | hk; exact .inl hk; exact .inr (by omega)),?_,(U2.mono (L':=H.blocks wb) (fun x hx _=>by cases hx)).trans h1.2,fun k hk=>?_⟩
  ·go_simp
  ·rw [Hd.mem_iff] at hk
   rcases hk with h5 | h5 | h5 | h5 | h5 | h5 | h5 | h5
   ·exact .inl (Hd.mem_iff.2 (.inl h5))
   ·exact .inl (Hd.mem_iff.2 (.inr (.inl h5)))
   ·exact .inl (Hd.mem_iff.2 (.inr (.inr (.inl h5))))
   ·exact .inl (Hd.mem_backs h5)
   ·exact .inl (Hd.mem_shapes h5)
   ·exact .inl (Hd.mem_classes h5)
   ·simp only [own_slice,Option.some.injEq] at h5
    subst h5
    rcases hat with hat | hat
    ·exact .inl (Hd.mem_said hat)
    ·right
     simp at hat
     omega
   ·exact .inl (Hd.mem_marks h5)
 have UX:=(Upd.refl [] W2).alloc (.cells #[.int .i64 x.1,.int .i64 x.2.1,.int .i64 x.2.2] 134)
 have a2:=(UX.cell (p:=⟨w.heap.size,0,none⟩) (by show w.heap.size < _; omega) (by simp)).trans b2
 have a30:=(UX.cell (p:=⟨w.heap.size+1,0,none⟩) (by show w.heap.size+1 < _; omega) (by simp)).trans b30
 have a31:=(UX.cell (p:=⟨w.heap.size+1,1,none⟩) (by show w.heap.size+1 < _; omega) (by simp)).trans b31
 have a32:=(UX.cell (p:=⟨w.heap.size+1,2,none⟩) (by show w.heap.size+1 < _; omega) (by simp)).trans b32
 have a5:=(UX.cell (p:=⟨wb,6,none⟩) hlt2 (by simp)).trans c5
 go_cut [] (fun wc=>Noted w wb H Z S x wc)
 case first =>
  go_region_law (first | (refine step_append_lies _ rfl _ _ 109 rfl 0 134 i0 (.agg #[.int .i64 0,.int .i64 0,.int .i64 0]) 3 24 Tryz.underlying109 hi hz0 hz1 hz2 rfl (by decide) H.said S.said.length (flatSaid S.said) rfl hrow1 ⟨W2.heap.size,0,none⟩ 1 1 [.int .i64 x.1,.int .i64 x.2.1,.int .i64 x.2.2] rfl rfl hnews hone (by decide) (by unfold maxLen; omega) (by omega) (Nat.zero_le _) _ rfl ?_; intro g cap w3 hown' hgrow hat hlt3; obtain ⟨q0,q1,q2,q3,q4,q5⟩:=HF.out w3 hgrow))
  all_goals (go_wp2_with fail; go_meet)
  all_goals exact HG.out _ _ _ ‹_› ‹_› ‹_›
 case rest =>
  obtain ⟨H',hw,hc,hu,hH⟩:=hcut
  have hltc:w.heap.size < wc.heap.size:=World.block_lt_of_cell? _ _ hc
  have hun:IsUn wc wb (fun k=>(Z k\/w.heap.size<=k)/\k ∉ H'.blocks wb) (.func (.func 154) #[] #[.pointer (some ⟨w.heap.size,0,none⟩)]) ⟨0,(⟨#[]⟩,0,0,0,0),0,0⟩ :=
   ⟨w.heap.size,⟨.inr (Nat.le_refl _),fun hm=>by rcases hH _ hm with h5 | h5; have:=h.mem_lt _ h5; omega; omega⟩,⟨hltc,hc⟩,.inl ⟨rfl,rfl⟩⟩
  clear b2 b30 b31 b32 c5 hf2 hrow1 hnews hone HF HG a2 a30 a31 a32 a5
  go_wp2_with (go_at_call 153; refine (leave_any _ wb H' _ _ _ _ hw hun hb).mono ?_; rintro e w4 ⟨bk,rfl,hw4,hu4,hH4⟩)
  go_end0
  refine ⟨_,rfl,hw4.mono (fun k hk _=>by rcases hk with hk | hk; exact hk; exact .inr (by omega)),hu.trans' hu4 (fun k hk hl=>?_),fun k hk=>?_⟩
  ·rcases hH k hk with h5 | h5
   ·exact h5
   ·omega
  ·rcases hH4 k hk with h5 | h5
   ·exact (hH k h5).imp id (fun e=>by omega)
   ·exact .inr (by omega)
end Go.Proofs.YtmfkpllnmmfpiaaGreatDoor
