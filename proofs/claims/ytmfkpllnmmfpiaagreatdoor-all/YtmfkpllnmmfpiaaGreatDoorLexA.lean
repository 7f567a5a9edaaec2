/- Leave, Lex -/
import Derived.Test.YtmfkpllnmmfpiaaGreatDoorWebHeapA
import Derived.Test.YtmfkpllnmmfpiaaGreatDoorRows
import Derived.WalkKit
import Derived.WalkSpells
import Derived.WalkLawsBesides
import Derived.Deep.QuietTactic
import Derived.BigQuiet
set_option maxHeartbeats 16000000
set_option maxRecDepth 100000
namespace Go.Proofs.YtmfkpllnmmfpiaaGreatDoor
open Go.RowKit
theorem info_func:(Tryz.prog.info? 1).map (fun i=>(i.zero,i.size,i.bytes))=some (some .nilFunc,1,8):=by kernel_rfl
theorem IsUn.func {w:World} {wb:Nat} {F:Nat->Prop} {v:Value} {u:Un} (h:IsUn w wb F v u):∃ f caps,v=.func f #[] caps:=by
 obtain ⟨bw,_,_,hr⟩:=h
 rcases hr with ⟨_,hv⟩ | ⟨_,_,_,_,_,_,_,hv⟩ | ⟨_,_,_,_,hv⟩ | ⟨_,_,_,_,_,_,_,hv⟩ <;> exact ⟨_,_,hv⟩
theorem WebAt.grow_backs {w w1 w2:World} {wb g cap:Nat} {H:Hd} {Z:Nat->Prop} {S:WS} {v:Value} {u:Un} {cls:List Value} (h:WebAt w wb H Z S)
  (hall:AllIs (IsUn w wb (fun k=>Z k/\k ∉ H.blocks wb)) cls S.trail) (hv:IsUn w wb (fun k=>Z k/\k ∉ H.blocks wb) v u)
  (hu1:Upd [] w w1) (hgrow:w1.grownBy w2 H.backs.ownBlock) (hat:H.backs.ownBlock=some g\/g=w1.heap.size)
  (hown:w2.ownsRow 0 1 1 (.slice (some ⟨g,0,none⟩) (S.trail.length+1) cap) (S.trail.length+1) (cls++[v])) :
  WebAt (w2.setCell ⟨wb,0,none⟩ (.slice (some ⟨g,0,none⟩) (S.trail.length+1) cap)) wb { H with backs:=.slice (some ⟨g,0,none⟩) (S.trail.length+1) cap } (fun k=>Z k\/w.heap.size<=k) { S with trail:=S.trail++[u] } /\
   Upd (H.blocks wb) w (w2.setCell ⟨wb,0,none⟩ (.slice (some ⟨g,0,none⟩) (S.trail.length+1) cap)) /\
   ∀ k ∈ ({ H with backs:=.slice (some ⟨g,0,none⟩) (S.trail.length+1) cap }:Hd).blocks wb,k ∈ H.blocks wb\/w.heap.size<=k:=by
 have hA:=Hd.parts h.apart
 have hsz1:=hu1.size
 have U2:Upd H.backs.ownBlock.toList w w2:=(hu1.mono (fun x hx _=>by cases hx)).trans (Upd.of_grown hgrow)
 have hwb2:wb ∉ H.backs.ownBlock.toList:=fun hm=>(hA.b wb (by simpa using hm)).1 rfl
 have c0:w2.cell? ⟨wb,0,none⟩=some H.backs:=(U2.cell h.lt hwb2).trans h.c0
 have U:Upd (wb :: H.backs.ownBlock.toList) w (w2.setCell ⟨wb,0,none⟩ (.slice (some ⟨g,0,none⟩) (S.trail.length+1) cap)):=(U2.mono (fun x hx _=>by simp at hx ⊢; exact .inr hx)).setCell (by simp) _
 have hsub:∀ k,k ∈ wb :: H.backs.ownBlock.toList->k ∈ H.blocks wb:=fun k hk=>by
  simp at hk
  rcases hk with rfl | hk
  ·exact H.mem_wb _
  ·exact Hd.mem_backs hk
 have hgf:H.backs.ownBlock=some g\/w.heap.size<=g:=hat.imp id (fun e=>by omega)
 have hgn:H.backs.ownBlock=some g\/g ∉ H.blocks wb:=hgf.imp id (fun e hm=>by have:=h.mem_lt g hm; omega)
 have hgw:g ≠ wb:=fun e=>by
  subst e
  rcases hgf with hg | hg
  ·exact (hA.b g hg).1 rfl
  ·have:=h.lt; omega
 have hH:∀ k ∈ ({ H with backs:=.slice (some ⟨g,0,none⟩) (S.trail.length+1) cap }:Hd).blocks wb,k ∈ H.blocks wb\/w.heap.size<=k:=fun k hk=>by
  rw [Hd.mem_iff] at hk
  rcases hk with h1 | h1 | h1 | h1 | h1
  ·exact .inl (h1 ▸ H.mem_wb _)
  ·exact .inl (h1 ▸ H.mem_nb _)
  ·exact .inl (h1 ▸ H.mem_ab _)
  ·simp only [own_slice,Option.some.injEq] at h1
   subst h1
   exact hgf.imp (fun e=>Hd.mem_backs e) id
  ·exact .inl (Hd.mem_iff.2 (.inr (.inr (.inr (.inr h1)))))
 have hnew:∀ k,Z k/\k ∉ H.blocks wb->k < w.heap.size->(Z k\/w.heap.size<=k)/\k ∉ ({ H with backs:=.slice (some ⟨g,0,none⟩) (S.trail.length+1) cap }:Hd).blocks wb:=by
  rintro k ⟨hz,hn⟩ hlt
  refine ⟨.inl hz,fun hm=>?_⟩
  rw [Hd.mem_iff] at hm hn
  simp only [not_or] at hn
  rcases hm with h1 | h1 | h1 | h1 | h1
  ·exact hn.1 h1
  ·exact hn.2.1 h1
  ·exact hn.2.2.1 h1
  ·simp only [own_slice,Option.some.injEq] at h1
   subst h1
   rcases hgf with hg | hg
   ·exact hn.2.2.2.1 hg
   ·omega
  ·rcases h1 with h1 | h1 | h1 | h1
   ·exact hn.2.2.2.2.1 h1
   ·exact hn.2.2.2.2.2.1 h1
   ·exact hn.2.2.2.2.2.2.1 h1
   ·exact hn.2.2.2.2.2.2.2 h1
 have step:∀ v u,IsUn w wb (fun k=>Z k/\k ∉ H.blocks wb) v u->IsUn (w2.setCell ⟨wb,0,none⟩ (.slice (some ⟨g,0,none⟩) (S.trail.length+1) cap)) wb (fun k=>(Z k\/w.heap.size<=k)/\k ∉ ({ H with backs:=.slice (some ⟨g,0,none⟩) (S.trail.length+1) cap }:Hd).blocks wb) v u:=by
  intro v u hi
  have h1:=(hi.mono (F':=fun k=>(Z k/\k ∉ H.blocks wb)/\k < w.heap.size) fun k hk hlt=>⟨hk,hlt⟩).later U (fun k hk hm=>hk.1.2 (hsub k hm))
  exact h1.mono fun k hk _=>hnew k hk.1 hk.2
 have no1:∀ k,H.shapes.ownBlock=some k->k ∉ wb :: H.backs.ownBlock.toList:=fun k hk hm=>by simp at hm; rcases hm with hm | hm; exact (hA.s k hk).1 hm; exact (hA.s k hk).2.2.2.1 hm
 have no2:∀ k,H.classes.ownBlock=some k->k ∉ wb :: H.backs.ownBlock.toList:=fun k hk hm=>by simp at hm; rcases hm with hm | hm; exact (hA.c k hk).1 hm; exact (hA.c k hk).2.2.2.1 hm
 have no3:∀ k,H.said.ownBlock=some k->k ∉ wb :: H.backs.ownBlock.toList:=fun k hk hm=>by simp at hm; rcases hm with hm | hm; exact (hA.d k hk).1 hm; exact (hA.d k hk).2.2.2.1 hm
 have no6:∀ k,H.marks.ownBlock=some k->k ∉ wb :: H.backs.ownBlock.toList:=fun k hk hm=>by simp at hm; rcases hm with hm | hm; exact (hA.m k hk).1 hm; exact (hA.m k hk).2.2.2.1 hm
 have no4:H.nb ∉ wb :: H.backs.ownBlock.toList:=fun hm=>by simp at hm; rcases hm with hm | hm; exact hA.wn hm.symm; exact (hA.b _ hm).2.1 rfl
 have no5:H.ab ∉ wb :: H.backs.ownBlock.toList:=fun hm=>by simp at hm; rcases hm with hm | hm; exact hA.wa hm.symm; exact (hA.b _ hm).2.2.1 rfl
 refine ⟨{
  lt:=Nat.lt_of_lt_of_le h.lt U.size
  free:=fun o=>by rw [World.frozen?_setCell]; exact (U2.frozen (p:=⟨wb,o,none⟩) h.lt hwb2).trans (h.free o)
  c0:=by go_simp
  c1:=by have:=(U2.cell (p:=⟨wb,2,none⟩) h.lt hwb2).trans h.c1; go_simp
  c2:=by have:=(U2.cell (p:=⟨wb,3,none⟩) h.lt hwb2).trans h.c2; go_simp
  c3:=by have:=(U2.cell (p:=⟨wb,4,none⟩) h.lt hwb2).trans h.c3; go_simp
  c4:=by have:=(U2.cell (p:=⟨wb,5,none⟩) h.lt hwb2).trans h.c4; go_simp
  c5:=by have:=(U2.cell (p:=⟨wb,6,none⟩) h.lt hwb2).trans h.c5; go_simp
  cm:=by have:=(U2.cell (p:=⟨wb,1,none⟩) h.lt hwb2).trans h.cm; go_simp
  rs:=U.ownsRow h.rs no1
  rc:=U.ownsRow h.rc no2
  rd:=U.ownsRow h.rd no3
  rm:=U.ownsRow h.rm no6
  mn:=h.mn.later U no4
  ma:=h.ma.later U no5
  apart:=Hd.apart_backs h.apart hgn
  rb:=⟨cls++[v],?_,(hall.mono step).snoc (step v u hv)⟩
  inZ:=fun k hk=>(hH k hk).imp (h.inZ k) id },U.mono fun x hx _=>hsub x hx,hH⟩
 have:=((Upd.refl [wb] w2).setCell (p:=⟨wb,0,none⟩) (by simp) (.slice (some ⟨g,0,none⟩) (S.trail.length+1) cap)).ownsRow hown (fun k hk hm=>by simp [Value.ownBlock] at hk hm; omega)
 simpa using this
theorem leave_any (w:World) (wb:Nat) (H:Hd) (Z:Nat->Prop) (S:WS) (v:Value) (u:Un) (h:WebAt w wb H Z S) (hv:IsUn w wb (fun k=>Z k/\k ∉ H.blocks wb) v u) (hb:S.trail.length<=10000000) :
  Calls Tryz.prog 153 #[.pointer (some ⟨wb,0,none⟩),v] w fun e w'=>∃ bk,e=.returned (.tuple #[])/\WebAt w' wb { H with backs:=bk } (fun k=>Z k\/w.heap.size<=k) { S with trail:=S.trail++[u] }/\Upd (H.blocks wb) w w'/\∀ k ∈ ({ H with backs:=bk }:Hd).blocks wb,k ∈ H.blocks wb\/w.heap.size<=k:=by
 obtain ⟨f,caps,rfl⟩:=hv.func
 obtain ⟨cls,hrow,hall⟩:=h.rb
 obtain ⟨i0,hi,hz0,hz1,hz2⟩:=info_parts info_func
 have c0:=h.c0
 have hlt:=h.lt
 have hfr:=h.free
 have hrow1:=((Upd.refl [] w).alloc (.cells #[.func f #[] caps] 1)).ownsRow hrow (fun _ _=>by simp)
 have hA:=Hd.parts h.apart
 have Hc:Hid (∀ w3,(w.alloc (.cells #[.func f #[] caps] 1)).grownBy w3 H.backs.ownBlock->w3.cell? ⟨wb,0,none⟩=some H.backs/\∀ o,w3.frozen? ⟨wb,o,none⟩=false):=fun w3 hg=>by
  have hn:wb ∉ H.backs.ownBlock.toList:=fun hm=>(hA.b wb (by simpa using hm)).1 rfl
  have U:=((Upd.refl H.backs.ownBlock.toList w).alloc (.cells #[.func f #[] caps] 1)).trans (Upd.of_grown hg)
  exact ⟨(U.cell h.lt hn).trans h.c0,fun o=>(U.frozen (p:=⟨wb,o,none⟩) h.lt hn).trans (h.free o)⟩
 have Hfin:Hid (∀ g cap w3,(w.alloc (.cells #[.func f #[] caps] 1)).grownBy w3 H.backs.ownBlock->(H.backs.ownBlock=some g\/g=(w.alloc (.cells #[.func f #[] caps] 1)).heap.size)->w3.ownsRow 0 1 1 (.slice (some ⟨g,0,none⟩) (S.trail.length+1) cap) (S.trail.length+1) (cls++[.func f #[] caps])->_) :=
  fun g cap w3 hg hat hown=>WebAt.grow_backs h hall hv ((Upd.refl [] w).alloc _) hg hat hown
 clear hA hall hv hrow
 go_enter Tryz.func153,Tryz.ntmps153
 go_wp2_with (at_builtin; refine wpList_append_lies _ rfl _ _ 104 rfl 0 1 i0 .nilFunc 1 8 Tryz.underlying104 hi hz0 hz1 hz2 rfl (by decide) _ _ _ rfl hrow1 ⟨w.heap.size,0,none⟩ 1 1 [.func f #[] caps] rfl rfl (cell_one_new _ _ _) (fun x hx=>by simp at hx; subst hx; rfl) (by decide) (by unfold maxLen; omega) (by omega) (Nat.zero_le _) _ rfl ?_; intro g cap w3 hown' hgrow hat hlt3; obtain ⟨k0,kf⟩:=Hc.out w3 hgrow)
 go_end0
 have:=Hfin.out g cap w3 hgrow hat hown'
 exact ⟨_,rfl,this.1,this.2.1,this.2.2⟩
theorem ret_bool {a b:Bool} (h:a=b):Ending.returned (.bool a)=.returned (.bool b):=by rw [h]
theorem ret_int {k:IntKind} {a b:Int} (h:a=b):Ending.returned (.int k a)=.returned (.int k b):=by rw [h]
theorem isLetter_any (c:Int) (w:World) :
  Calls Tryz.prog 149 #[.int .u8 c] w fun e w'=>e=.returned (.bool (letterB c))/\w'=w:=by
 by_cases h:97<=c
 ·go_enter Tryz.func149,Tryz.ntmps149
  go_wp2
  all_goals go_ret
  all_goals exact ⟨ret_bool (by simp [letterB, *]),rfl⟩
 ·have h':c < 97:=by omega
  go_enter Tryz.func149,Tryz.ntmps149
  go_wp2
  all_goals go_ret
  all_goals exact ⟨ret_bool (by simp [letterB]; omega),rfl⟩
theorem isDigit_any (c:Int) (w:World) :
  Calls Tryz.prog 150 #[.int .u8 c] w fun e w'=>e=.returned (.bool (digitB c))/\w'=w:=by
 by_cases h:48<=c
 ·go_enter Tryz.func150,Tryz.ntmps150
  go_wp2
  all_goals go_ret
  all_goals exact ⟨ret_bool (by simp [digitB, *]),rfl⟩
 ·have h':c < 48:=by omega
  go_enter Tryz.func150,Tryz.ntmps150
  go_wp2
  all_goals go_ret
  all_goals exact ⟨ret_bool (by simp [digitB]; omega),rfl⟩
theorem isLetter_is (c:Int) (b:Bool) (w:World) (h:letterB c=b):Calls Tryz.prog 149 #[.int .u8 c] w fun e w'=>e=.returned (.bool b)/\w'=w:=h ▸ isLetter_any c w
theorem firstKind_any (c:Int) (w:World) :
  Calls Tryz.prog 148 #[.int .u8 c] w fun e w'=>e=.returned (.int .i64 (kindOf c))/\w'=w:=by
 cases hl:letterB c
 ·go_enter Tryz.func148,Tryz.ntmps148
  go_wp2_with (go_at_call 149; refine (isLetter_any _ _).mono ?_; rintro e w' ⟨rfl,rfl⟩)
  all_goals go_ret
  all_goals exact ⟨ret_int (by simp_all [kindOf]),rfl⟩
 ·go_enter Tryz.func148,Tryz.ntmps148
  go_wp2_with (go_at_call 149; refine (isLetter_any _ _).mono ?_; rintro e w' ⟨rfl,rfl⟩)
  all_goals go_ret
  all_goals exact ⟨ret_int (by simp_all [kindOf]),rfl⟩
end Go.Proofs.YtmfkpllnmmfpiaaGreatDoor
