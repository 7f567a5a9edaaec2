/- LawLeft, AllInv, AllStep -/
import Derived.Test.YtmfkpllnmmfpiaaGreatDoorLawMarkA
import Derived.Test.YtmfkpllnmmfpiaaGreatDoorAllOwn3A
import Derived.Test.YtmfkpllnmmfpiaaGreatDoorRefWhyWalkA
set_option maxHeartbeats 16000000
set_option maxRecDepth 100000
namespace Go.Proofs.YtmfkpllnmmfpiaaGreatDoor
open Go.RowKit
theorem Left.left {w0 w w':World} {xb:Nat} {Z0:Nat->Prop} {S S':WS} {L L':List ST} {M M':List Nat} (h:Left w0 w xb Z0 S L M) (hp:0 < w0.heap.size) (hz:∀ k,Z0 k->0 < k/\k < w0.heap.size) (hl:Left w w' xb (fun k=>(Z0 k\/w0.heap.size<=k)/\k < w.heap.size) S' L' M'):Left w0 w' xb Z0 S' L' M':=by
 obtain ⟨_,K0,hK0,u0⟩:=h
 obtain ⟨h1,K,hK,u⟩:=hl
 have hs:=u0.size
 refine ⟨h1.mono (fun k hk=>⟨?_,hk.2⟩) (fun k hk=>⟨?_,hk.2⟩),K0++K.filter (fun k=>decide (k < w0.heap.size)),fun k hk=>?_,(u0.mono (fun x hx _=>List.mem_append_left _ hx)).trans' u (fun x hx hlt=>List.mem_append_right _ (List.mem_filter.2 ⟨hx,by simpa using hlt⟩))⟩
 ·rcases hk.1 with h2 | h2
  ·exact h2.1
  ·exact .inr (by omega)
 ·rcases hk.1 with h2 | h2
  ·exact (hz k h2).1
  ·omega
 ·rw [List.mem_append,List.mem_filter] at hk
  rcases hk with hk | ⟨hk,hlt⟩
  ·exact hK0 k hk
  ·have hlt:k < w0.heap.size:=by simpa using hlt
   rcases (hK k hk).1 with h2 | h2
   ·exact h2
   ·omega
def SinceZ (Z0:Nat->Prop) (w0 w:World) (xb:Nat) (S:WS) (L:List ST) (M:List Nat):Prop:=BothAt w xb (fun k=>(Z0 k\/w0.heap.size<=k)/\k < w.heap.size) S L M/\(∃ K,(∀ k ∈ K,Z0 k)/\Upd K w0 w)/\0 < w0.heap.size/\∀ k,Z0 k->0 < k/\k < w0.heap.size
theorem SinceZ.left {w0 w w':World} {xb:Nat} {Z0:Nat->Prop} {S S':WS} {L L':List ST} {M M':List Nat} (h:SinceZ Z0 w0 w xb S L M) (hl:Left w w' xb (fun k=>(Z0 k\/w0.heap.size<=k)/\k < w.heap.size) S' L' M'):SinceZ Z0 w0 w' xb S' L' M':=by
 have:=Left.left ⟨h.1,h.2.1⟩ h.2.2.1 h.2.2.2 hl
 exact ⟨this.1,this.2,h.2.2⟩
theorem SinceZ.look {w0 w w':World} {xb:Nat} {Z0:Nat->Prop} {S:WS} {L:List ST} {M:List Nat} (h:SinceZ Z0 w0 w xb S L M) (hu:Upd [] w w'):SinceZ Z0 w0 w' xb S L M:=h.left (h.1.left hu)
theorem SinceZ.say {w0 w:World} {xb:Nat} {Z0:Nat->Prop} {S:WS} {L:List ST} {M:List Nat} (h:SinceZ Z0 w0 w xb S L M) (s:ByteArray) (hmax:s.size<=maxLen) :
  Calls Tryz.prog 12 #[.pointer (some ⟨xb,0,none⟩),.string s] w fun e w'=>e=.returned (.bool true)/\SinceZ Z0 w0 w' xb (sayOf S s).2 (sayR L s).2 M :=
 (sayL_any s hmax w xb _ S L M h.1).mono fun _ _ ⟨he,hl⟩=>⟨he,h.left hl⟩
theorem SinceZ.follows {w0 w:World} {xb:Nat} {Z0:Nat->Prop} {S:WS} {L:List ST} {M:List Nat} (h:SinceZ Z0 w0 w xb S L M) (s:ByteArray) (hmax:s.size<=maxLen) :
  Calls Tryz.prog 50 #[.pointer (some ⟨xb,0,none⟩),.string s] w fun e w'=>e=.returned (.bool true)/\SinceZ Z0 w0 w' xb S L M :=
 (followsL_any s hmax w xb _ S L M h.1).mono fun _ _ ⟨he,hl⟩=>⟨he,h.left hl⟩
theorem SinceZ.clash {w0 w:World} {xb:Nat} {Z0:Nat->Prop} {S:WS} {L:List ST} {M:List Nat} (h:SinceZ Z0 w0 w xb S L M) :
  Calls Tryz.prog 51 #[.pointer (some ⟨xb,0,none⟩)] w fun e w'=>e=.returned (.bool true)/\SinceZ Z0 w0 w' xb S L M :=
 (clashL_any w xb _ S L M h.1).mono fun _ _ ⟨he,hu⟩=>⟨he,h.look hu⟩
theorem stepMark_fewZ (kk:Int) (s:ByteArray) {Z0:Nat->Prop} {w0 w:World} {xb:Nat} {S:WS} {L:List ST} {M:List Nat} (h:SinceZ Z0 w0 w xb S L M) (hm:S.marks.length=M.length) (hf:M.length < 10) :
  Calls Tryz.prog 23 #[.pointer (some ⟨xb,0,none⟩),.agg #[.int .i64 8,.int .i64 kk,.string s]] w fun e w'=>e=.returned (.bool true)/\SinceZ Z0 w0 w' xb (markM S) L (M++[L.length]):=by
 have h1:=h.look ((Upd.refl [] w).alloc (.cells #[.int .i64 8,.int .i64 kk,.string s] 41))
 obtain ⟨W,hW⟩:∃ W,W=w.alloc (.cells #[.int .i64 8,.int .i64 kk,.string s] 41):=⟨_,rfl⟩
 rw [<- hW] at h1
 have e0:W.cell? ⟨w.heap.size,0,none⟩=some (.int .i64 8):=by rw [hW]; go_simp
 have h2:=h1.look ((Upd.refl [] W).drew)
 obtain ⟨bb,rb,Zb,Zr,c0,c1,hb,hr,z1,z2⟩:=h2.1.ex
 have HS:=hide (bookMark_any W.drew bb Zb S hb (by omega))
 have HR:=hide (fun (w1:World) (K:List Nat) (hK:∀ k ∈ K,Zb k) (U:Upd K W.drew w1)=>refMark_any w1 rb Zr L M (hr.later U (fun k hk hm=>(z1 k (hK k hm)).2.1 hk)) hf)
 have Hfin:=hide (fun (w1 w2:World) (K1 K2:List Nat) hb1 (hK1:∀ k ∈ K1,Zb k) (U1:Upd K1 W.drew w1) hr2 (hK2:∀ k ∈ K2,Zr k) (U2:Upd K2 w1 w2)=>h2.left (h2.1.step (w1:=w1) (w2:=w2) (K1:=K1) (K2:=K2) (S':=markM S) (L':=L) (M':=M++[L.length]) c0 c1 hr z1 z2 hb1 hK1 U1 hr2 hK2 U2 (h2.1.both.marks _)))
 have Hc:Hid (∀ (w1:World) (K:List Nat),(∀ k ∈ K,Zb k)->Upd K W.drew w1->w1.cell? ⟨xb,0,none⟩=some (.pointer (some ⟨bb,0,none⟩))/\w1.cell? ⟨xb,1,none⟩=some (.pointer (some ⟨rb,0,none⟩))):=fun w1 K hK U=>⟨(U.cell (p:=⟨xb,0,none⟩) h2.1.lt (fun hm=>(z1 _ (hK _ hm)).2.2 rfl)).trans c0,(U.cell (p:=⟨xb,1,none⟩) h2.1.lt (fun hm=>(z1 _ (hK _ hm)).2.2 rfl)).trans c1⟩
 have Hc2:Hid (∀ (w1 w2:World) (K K2:List Nat),(∀ k ∈ K,Zb k)->Upd K W.drew w1->(∀ k ∈ K2,Zr k)->Upd K2 w1 w2->w2.cell? ⟨xb,0,none⟩=some (.pointer (some ⟨bb,0,none⟩))/\w2.cell? ⟨xb,1,none⟩=some (.pointer (some ⟨rb,0,none⟩))):=fun w1 w2 K K2 hK U hK2 U2=>by
  obtain ⟨a,b⟩:=Hc.out w1 K hK U
  have hl:xb < w1.heap.size:=Nat.lt_of_lt_of_le h2.1.lt U.size
  exact ⟨(U2.cell (p:=⟨xb,0,none⟩) hl (fun hm=>(z2 _ (hK2 _ hm)).2 rfl)).trans a,(U2.cell (p:=⟨xb,1,none⟩) hl (fun hm=>(z2 _ (hK2 _ hm)).2 rfl)).trans b⟩
 have d0:W.cell? ⟨xb,0,none⟩=some (.pointer (some ⟨bb,0,none⟩)):=c0
 have d1:W.cell? ⟨xb,1,none⟩=some (.pointer (some ⟨rb,0,none⟩)):=c1
 have HW:=hide hW
 clear h h1 h2 hb hr z1 z2 c0 c1 hW
 go_enter Tryz.func23,Tryz.ntmps23
 go_upto_region 1 with fail
 rw [<- HW.out]
 go_upto_region 18 with fail
 go_region_held3 (fun w'=>w'.cell? ⟨xb,0,none⟩=some (.pointer (some ⟨bb,0,none⟩))/\w'.cell? ⟨xb,1,none⟩=some (.pointer (some ⟨rb,0,none⟩))) ((first | go_keep | (refine ⟨?_,?_⟩ <;> go_simp)))
  (first
   | (go_at_call 28; refine HS.out.mono ?_; rintro e w1 ⟨rfl,hb1,K1,hK1,U1⟩; have Hb1:=hide hb1; have HK1:=hide hK1; have HU1:=hide U1; have HR1:=hide (HR.out w1 K1 hK1 U1); obtain ⟨x0,x1⟩:=Hc.out w1 K1 hK1 U1; clear hb1 hK1 U1)
   | (go_at_call 52; refine HR1.out.mono ?_; rintro e w2 ⟨rfl,hr2,K2,hK2,U2⟩; have Hr2:=hide hr2; have HK2:=hide hK2; have HU2:=hide U2; obtain ⟨y0,y1⟩:=Hc2.out w1 w2 K1 K2 HK1.out HU1.out hK2 U2; clear hr2 hK2 U2)
   | (go_at_call 30; refine (numL_any _ _).mono ?_; rintro e w3 ⟨rfl,hw3⟩; rw [hw3]; clear hw3 w3))
 all_goals (
  go_wp2
  go_ret
  exact ⟨rfl,Hfin.out w1 w2 K1 K2 Hb1.out HK1.out HU1.out Hr2.out HK2.out HU2.out⟩)
theorem stepMark_manyZ (kk:Int) (s:ByteArray) {Z0:Nat->Prop} {w0 w:World} {xb:Nat} {S:WS} {L:List ST} {M:List Nat} (h:SinceZ Z0 w0 w xb S L M) (hm:10<=S.marks.length) (hm2:10<=M.length) :
  Calls Tryz.prog 23 #[.pointer (some ⟨xb,0,none⟩),.agg #[.int .i64 8,.int .i64 kk,.string s]] w fun e w'=>e=.returned (.bool true)/\SinceZ Z0 w0 w' xb S L M:=by
 have h1:=h.look ((Upd.refl [] w).alloc (.cells #[.int .i64 8,.int .i64 kk,.string s] 41))
 obtain ⟨W,hW⟩:∃ W,W=w.alloc (.cells #[.int .i64 8,.int .i64 kk,.string s] 41):=⟨_,rfl⟩
 rw [<- hW] at h1
 have e0:W.cell? ⟨w.heap.size,0,none⟩=some (.int .i64 8):=by rw [hW]; go_simp
 have h2:=h1.look ((Upd.refl [] W).drew)
 obtain ⟨bb,rb,Zb,Zr,c0,c1,hb,hr,z1,z2⟩:=h2.1.ex
 have HS:=hide (bookMark_many W.drew bb Zb S hb hm)
 have HR:=hide (refMark_many W.drew rb Zr L M hr hm2)
 have H2:=hide h2
 have d0:W.cell? ⟨xb,0,none⟩=some (.pointer (some ⟨bb,0,none⟩)):=c0
 have d1:W.cell? ⟨xb,1,none⟩=some (.pointer (some ⟨rb,0,none⟩)):=c1
 have HW:=hide hW
 clear h h1 h2 hb hr z1 z2 c0 c1 hW
 go_enter Tryz.func23,Tryz.ntmps23
 go_upto_region 1 with fail
 rw [<- HW.out]
 go_upto_region 18 with fail
 go_region_held3 (fun w'=>w'.cell? ⟨xb,0,none⟩=some (.pointer (some ⟨bb,0,none⟩))/\w'.cell? ⟨xb,1,none⟩=some (.pointer (some ⟨rb,0,none⟩))) ((first | go_keep | (refine ⟨?_,?_⟩ <;> go_simp)))
  (first
   | (go_at_call 28; refine HS.out.mono ?_; rintro e w3 ⟨rfl,hw3⟩; rw [hw3]; clear hw3 w3)
   | (go_at_call 52; refine HR.out.mono ?_; rintro e w3 ⟨rfl,hw3⟩; rw [hw3]; clear hw3 w3)
   | (go_at_call 30; refine (numL_any _ _).mono ?_; rintro e w3 ⟨rfl,hw3⟩; rw [hw3]; clear hw3 w3))
 all_goals (
  go_wp2
  go_ret
  exact ⟨rfl,H2.out⟩)
theorem stepBack_noneZ (kk:Int) (s:ByteArray) {Z0:Nat->Prop} {w0 w:World} {xb:Nat} {S:WS} {L:List ST} {M:List Nat} (h:SinceZ Z0 w0 w xb S L M) (hm:S.marks=[]) (hm2:M=[]) :
  Calls Tryz.prog 23 #[.pointer (some ⟨xb,0,none⟩),.agg #[.int .i64 9,.int .i64 kk,.string s]] w fun e w'=>e=.returned (.bool true)/\SinceZ Z0 w0 w' xb S L M:=by
 have h1:=h.look ((Upd.refl [] w).alloc (.cells #[.int .i64 9,.int .i64 kk,.string s] 41))
 obtain ⟨W,hW⟩:∃ W,W=w.alloc (.cells #[.int .i64 9,.int .i64 kk,.string s] 41):=⟨_,rfl⟩
 rw [<- hW] at h1
 have e0:W.cell? ⟨w.heap.size,0,none⟩=some (.int .i64 9):=by rw [hW]; go_simp
 have h2:=h1.look ((Upd.refl [] W).drew)
 obtain ⟨bb,rb,Zb,Zr,c0,c1,hb,hr,z1,z2⟩:=h2.1.ex
 have HS:=hide (bookBack_none W.drew bb Zb S hb hm)
 have HR:=hide (refBack_none W.drew rb Zr L (by rw [hm2] at hr; exact hr))
 have H2:=hide h2
 have d0:W.cell? ⟨xb,0,none⟩=some (.pointer (some ⟨bb,0,none⟩)):=c0
 have d1:W.cell? ⟨xb,1,none⟩=some (.pointer (some ⟨rb,0,none⟩)):=c1
 have HW:=hide hW
 clear h h1 h2 hb hr z1 z2 c0 c1 hW
 go_enter Tryz.func23,Tryz.ntmps23
 go_upto_region 1 with fail
 rw [<- HW.out]
 go_upto_region 20 with fail
 go_region_held3 (fun w'=>w'.cell? ⟨xb,0,none⟩=some (.pointer (some ⟨bb,0,none⟩))/\w'.cell? ⟨xb,1,none⟩=some (.pointer (some ⟨rb,0,none⟩))) ((first | go_keep | (refine ⟨?_,?_⟩ <;> go_simp)))
  (first
   | (go_at_call 29; refine HS.out.mono ?_; rintro e w3 ⟨rfl,hw3⟩; rw [hw3]; clear hw3 w3)
   | (go_at_call 53; refine HR.out.mono ?_; rintro e w3 ⟨rfl,hw3⟩; rw [hw3]; clear hw3 w3)
   | (go_at_call 30; refine (numL_any _ _).mono ?_; rintro e w3 ⟨rfl,hw3⟩; rw [hw3]; clear hw3 w3))
 all_goals (
  go_wp2
  go_ret
  exact ⟨rfl,H2.out⟩)
theorem stepBack_someZ (kk:Int) (s:ByteArray) {Z0:Nat->Prop} {w0 w:World} {xb:Nat} {S S0:WS} {L L0 R:List ST} {M0:List Nat} (h:SinceZ Z0 w0 w xb S L (M0++[L0.length])) (hg:Goes (markM S0) S) (hR:L=L0++R) (hB:Both S0 L0) (hm:S0.marks.length=M0.length) (hf:M0.length<=10) :
  Calls Tryz.prog 23 #[.pointer (some ⟨xb,0,none⟩),.agg #[.int .i64 9,.int .i64 kk,.string s]] w fun e w'=>e=.returned (.bool true)/\SinceZ Z0 w0 w' xb S0 L0 M0:=by
 have h1:=h.look ((Upd.refl [] w).alloc (.cells #[.int .i64 9,.int .i64 kk,.string s] 41))
 obtain ⟨W,hW⟩:∃ W,W=w.alloc (.cells #[.int .i64 9,.int .i64 kk,.string s] 41):=⟨_,rfl⟩
 rw [<- hW] at h1
 have e0:W.cell? ⟨w.heap.size,0,none⟩=some (.int .i64 9):=by rw [hW]; go_simp
 have h2:=h1.look ((Upd.refl [] W).drew)
 obtain ⟨bb,rb,Zb,Zr,c0,c1,hb,hr,z1,z2⟩:=h2.1.ex
 have hback:({ markM S0 with marks:=S0.marks }:WS)=S0:=rfl
 have hBb:=bookBack_some W.drew bb Zb S (markM S0) S0.marks hb hg rfl (by omega) (hB.marks _).holds.fine hB.terms hB.saids
 rw [hback] at hBb
 have HS:=hide hBb
 have htk:L.take L0.length=L0:=by rw [hR]; simp
 have hll:L0.length<=L.length:=by rw [hR]; simp
 have HR:=hide (fun (w1:World) (K:List Nat) (hK:∀ k ∈ K,Zb k) (U:Upd K W.drew w1)=>refBack_some w1 rb Zr L M0 L0.length (hr.later U (fun k hk hm=>(z1 k (hK k hm)).2.1 hk)) (by omega) hll)
 rw [htk] at HR
 have Hfin:=hide (fun (w1 w2:World) (K1 K2:List Nat) hb1 (hK1:∀ k ∈ K1,Zb k) (U1:Upd K1 W.drew w1) hr2 (hK2:∀ k ∈ K2,Zr k) (U2:Upd K2 w1 w2)=>h2.left (h2.1.step (w1:=w1) (w2:=w2) (K1:=K1) (K2:=K2) (S':=S0) (L':=L0) (M':=M0) c0 c1 hr z1 z2 hb1 hK1 U1 hr2 hK2 U2 hB))
 have Hrb:=hide hr.own
 have Hlow:=hide (fun (w1 w2:World) (K2:List Nat) (U2:Upd K2 w1 w2) (hr2:RBAt w2 rb Zr L0 M0)=>hr2.mono (Z':=fun k=>(Zr k\/w1.heap.size<=k)/\k < w2.heap.size) (fun k hk=>⟨.inl hk,hr2.low k hk⟩) (fun k hk=>hk.2))
 have Hc:Hid (∀ (w1:World) (K:List Nat),(∀ k ∈ K,Zb k)->Upd K W.drew w1->w1.cell? ⟨xb,0,none⟩=some (.pointer (some ⟨bb,0,none⟩))/\w1.cell? ⟨xb,1,none⟩=some (.pointer (some ⟨rb,0,none⟩))):=fun w1 K hK U=>⟨(U.cell (p:=⟨xb,0,none⟩) h2.1.lt (fun hm=>(z1 _ (hK _ hm)).2.2 rfl)).trans c0,(U.cell (p:=⟨xb,1,none⟩) h2.1.lt (fun hm=>(z1 _ (hK _ hm)).2.2 rfl)).trans c1⟩
 have Hc2:Hid (∀ (w1 w2:World) (K K2:List Nat),(∀ k ∈ K,Zb k)->Upd K W.drew w1->(∀ k ∈ K2,Zr k)->Upd K2 w1 w2->w2.cell? ⟨xb,0,none⟩=some (.pointer (some ⟨bb,0,none⟩))/\w2.cell? ⟨xb,1,none⟩=some (.pointer (some ⟨rb,0,none⟩))):=fun w1 w2 K K2 hK U hK2 U2=>by
  obtain ⟨a,b⟩:=Hc.out w1 K hK U
  have hl:xb < w1.heap.size:=Nat.lt_of_lt_of_le h2.1.lt U.size
  exact ⟨(U2.cell (p:=⟨xb,0,none⟩) hl (fun hm=>(z2 _ (hK2 _ hm)).2 rfl)).trans a,(U2.cell (p:=⟨xb,1,none⟩) hl (fun hm=>(z2 _ (hK2 _ hm)).2 rfl)).trans b⟩
 have d0:W.cell? ⟨xb,0,none⟩=some (.pointer (some ⟨bb,0,none⟩)):=c0
 have d1:W.cell? ⟨xb,1,none⟩=some (.pointer (some ⟨rb,0,none⟩)):=c1
 have HW:=hide hW
 clear h h1 h2 hb hr z1 z2 c0 c1 hW hBb hback htk hll
 go_enter Tryz.func23,Tryz.ntmps23
 go_upto_region 1 with fail
 rw [<- HW.out]
 go_upto_region 20 with fail
 go_region_held3 (fun w'=>w'.cell? ⟨xb,0,none⟩=some (.pointer (some ⟨bb,0,none⟩))/\w'.cell? ⟨xb,1,none⟩=some (.pointer (some ⟨rb,0,none⟩))) ((first | go_keep | (refine ⟨?_,?_⟩ <;> go_simp)))
  (first
   | (go_at_call 29; refine HS.out.mono ?_; rintro e w1 ⟨rfl,hb1,K1,hK1,U1⟩; have Hb1:=hide hb1; have HK1:=hide hK1; have HU1:=hide U1; have HR1:=hide (HR.out w1 K1 hK1 U1); obtain ⟨x0,x1⟩:=Hc.out w1 K1 hK1 U1; clear hb1 hK1 U1)
   | (go_at_call 53; refine HR1.out.mono ?_; rintro e w2 ⟨rfl,hr2,U2⟩; have hK2:∀ k ∈ [rb],Zr k:=(fun k hk=>by simp at hk; rw [hk]; exact Hrb.out); have Hr2:=hide (Hlow.out w1 w2 [rb] U2 hr2); have HK2:=hide hK2; have HU2:=hide U2; obtain ⟨y0,y1⟩:=Hc2.out w1 w2 K1 [rb] HK1.out HU1.out hK2 U2; clear hr2 hK2 U2)
   | (go_at_call 30; refine (numL_any _ _).mono ?_; rintro e w3 ⟨rfl,hw3⟩; rw [hw3]; clear hw3 w3))
 all_goals (
  go_wp2
  go_ret
  exact ⟨rfl,Hfin.out w1 w2 K1 [rb] Hb1.out HK1.out HU1.out Hr2.out HK2.out HU2.out⟩)
theorem step3Z (kd kk:Int) (s:ByteArray) (hmax:s.size<=maxLen) (h4:¬ kd=4) (h5:¬ kd=5) (h6:¬ kd=6) (h7:¬ kd=7) (h8:¬ kd=8) (h9:¬ kd=9) {Z0:Nat->Prop} {w0 w:World} {xb:Nat} {S:WS} {L:List ST} {M:List Nat} (h:SinceZ Z0 w0 w xb S L M) :
  Calls Tryz.prog 23 #[.pointer (some ⟨xb,0,none⟩),.agg #[.int .i64 kd,.int .i64 kk,.string s]] w fun e w'=>e=.returned (.bool true)/\(SinceZ Z0 w0 w' xb S L M\/SinceZ Z0 w0 w' xb (sayOf S s).2 (sayR L s).2 M):=by
 have H:=hide (h.look ((Upd.refl [] w).alloc (.cells #[.int .i64 kd,.int .i64 kk,.string s] 41)))
 clear h
 by_cases h1:kd=1
 ·subst h1
  go_enter Tryz.func23,Tryz.ntmps23
  go_wp2_with (go_at_call 12; refine (H.out.say s hmax).mono ?_; rintro e w1 ⟨rfl,h1⟩; have H1:=hide h1; clear h1)
  go_ret
  exact ⟨rfl,.inr H1.out⟩
 by_cases h2:kd=2
 ·subst h2
  go_enter Tryz.func23,Tryz.ntmps23
  go_wp2_with (go_at_call 50; refine (H.out.follows s hmax).mono ?_; rintro e w1 ⟨rfl,h1⟩; have H1:=hide h1; clear h1)
  go_ret
  exact ⟨rfl,.inl H1.out⟩
 by_cases h3:kd=3
 ·subst h3
  go_enter Tryz.func23,Tryz.ntmps23
  go_wp2_with (go_at_call 51; refine H.out.clash.mono ?_; rintro e w1 ⟨rfl,h1⟩; have H1:=hide h1; clear h1)
  go_ret
  exact ⟨rfl,.inl H1.out⟩
 have b1:(kd == 1)=false:=by simpa using h1
 have b2:(kd == 2)=false:=by simpa using h2
 have b3:(kd == 3)=false:=by simpa using h3
 have b4:(kd == 4)=false:=by simpa using h4
 have b5:(kd == 5)=false:=by simpa using h5
 have b6:(kd == 6)=false:=by simpa using h6
 have b7:(kd == 7)=false:=by simpa using h7
 have b8:(kd == 8)=false:=by simpa using h8
 have b9:(kd == 9)=false:=by simpa using h9
 go_enter Tryz.func23,Tryz.ntmps23
 go_wp2
 go_ret
 exact ⟨rfl,.inl H.out⟩
def Bk (w:World) (xb:Nat) (Z:Nat->Prop):Prop:=∃ S L M K,BothAt w xb Z S L M/\Stk S L M K/\M.length<=10
theorem Bk.later {w w':World} {K:List Nat} {xb:Nat} {Z:Nat->Prop} (h:Bk w xb Z) (hu:Upd K w w') (hK:∀ k,Z k->k ∉ K) (h0:0 ∉ K):Bk w' xb Z:=by
 obtain ⟨S,L,M,K',h1,h2,h3⟩:=h
 exact ⟨S,L,M,K',h1.later hu hK h0,h2,h3⟩
theorem Bk.low {w:World} {xb:Nat} {Z:Nat->Prop} (h:Bk w xb Z):∀ k,Z k->0 < k/\k < w.heap.size:=by
 obtain ⟨S,L,M,K',h1,_⟩:=h
 exact h1.low
def BkLeft (w w':World) (xb:Nat) (Z:Nat->Prop):Prop:=∃ Z',Bk w' xb Z'/\(∀ k,Z' k->Z k\/w.heap.size<=k)/\∃ K,(∀ k ∈ K,Z k)/\Upd K w w'
theorem SinceZ.bk {w w':World} {xb:Nat} {Z:Nat->Prop} {S:WS} {L:List ST} {M:List Nat} {K:List (WS × List ST)} (h:SinceZ Z w w' xb S L M) (hs:Stk S L M K) (hm:M.length<=10):BkLeft w w' xb Z:=⟨_,⟨S,L,M,K,h.1,hs,hm⟩,fun _ hk=>hk.1,h.2.1⟩
theorem stepBk (kd kk:Int) (s:ByteArray) (hmax:s.size<=maxLen) (h4:¬ kd=4) (h5:¬ kd=5) (h6:¬ kd=6) (h7:¬ kd=7) {w:World} {xb:Nat} {Z:Nat->Prop} (h:Bk w xb Z) :
  Calls Tryz.prog 23 #[.pointer (some ⟨xb,0,none⟩),.agg #[.int .i64 kd,.int .i64 kk,.string s]] w fun e w'=>e=.returned (.bool true)/\BkLeft w w' xb Z:=by
 obtain ⟨S,L,M,K,h1,h2,h3⟩:=h
 have hz:SinceZ Z w w xb S L M:=by
  have:=h1.left (Upd.refl [] w)
  exact ⟨this.1,this.2,h1.err.1,h1.low⟩
 have hl:=h2.len
 by_cases h8:kd=8
 ·subst h8
  by_cases hf:M.length < 10
  ·exact (stepMark_fewZ kk s hz hl hf).mono fun _ _ ⟨he,hs⟩=>⟨he,hs.bk (h2.mark h1.both) (by simp; omega)⟩
  ·exact (stepMark_manyZ kk s hz (by omega) (by omega)).mono fun _ _ ⟨he,hs⟩=>⟨he,hs.bk h2 h3⟩
 ·by_cases h9:kd=9
  ·subst h9
   cases K with
   | nil=>exact (stepBack_noneZ kk s hz h2.1 h2.2).mono fun _ _ ⟨he,hs⟩=>⟨he,hs.bk (K:=[]) h2 h3⟩
   | cons p K =>
    obtain ⟨S0,L0⟩:=p
    obtain ⟨M0,g1,⟨R,g2⟩,g3,g4,g5⟩:=h2
    subst g3
    have hfew:(M0++[L0.length]).length<=10:=h3
    rw [List.length_append,List.length_singleton] at hfew
    have hl0:=g5.len
    exact (stepBack_someZ kk s hz g1 g2 g4 hl0 (by omega)).mono fun _ _ ⟨he,hs⟩=>⟨he,hs.bk g5 (by omega)⟩
  ·refine (step3Z kd kk s hmax h4 h5 h6 h7 h8 h9 hz).mono fun _ _ ⟨he,hs⟩=>⟨he,?_⟩
   rcases hs with hs | hs
   ·exact hs.bk h2 h3
   ·exact hs.bk (h2.say h1.both s) h3
structure AllAt (w0 w:World) (wb:Nat) (V:Nat->Value) (E:Nat->List Value) (bs:List Nat) (Z:Nat->Nat->Prop) (D:Nat->Prop):Prop where
 wrl:Wrl w wb V E
 ptrs:E 0=bs.map (fun x=>Value.pointer (some ⟨x,0,none⟩))
 bk:∀ i x,bs[i]?=some x->Bk w x (Z i)
 sep:∀ i j k,i < bs.length->j < bs.length->i ≠ j->Z i k->¬ Z j k
 out:∀ i k,i < bs.length->Z i k->¬ WrlB wb V k/\¬ D k/\w0.heap.size<=k
 dout:∀ k,D k->¬ WrlB wb V k/\k < w.heap.size/\w0.heap.size<=k
 ents:∀ f k u,f < 5->(E f)[k]?=some u->EntF f w D k u
 wlow:∀ k,WrlB wb V k->w0.heap.size<=k
 upd:Upd [] w0 w
 err:ErrTab w
theorem AllAt.zlt {w0 w:World} {wb:Nat} {V:Nat->Value} {E:Nat->List Value} {bs:List Nat} {Z:Nat->Nat->Prop} {D:Nat->Prop} (h:AllAt w0 w wb V E bs Z D) {i k:Nat} (hi:i < bs.length) (hk:Z i k):k < w.heap.size:=((h.bk i bs[i] (List.getElem?_eq_getElem hi)).low k hk).2
theorem AllAt.look {w0 w w':World} {wb:Nat} {V:Nat->Value} {E:Nat->List Value} {bs:List Nat} {Z:Nat->Nat->Prop} {D:Nat->Prop} (h:AllAt w0 w wb V E bs Z D) (hu:Upd [] w w'):AllAt w0 w' wb V E bs Z D :=
 ⟨h.wrl.later hu (fun _ _=>by simp),h.ptrs,fun i x hx=>(h.bk i x hx).later hu (fun _ _=>by simp) (by simp),h.sep,h.out,fun k hk=>⟨(h.dout k hk).1,Nat.lt_of_lt_of_le (h.dout k hk).2.1 hu.size,(h.dout k hk).2.2⟩,fun f k u hf hk=>EntF.keep hu (fun _ _ _=>by simp) (fun _ hg _=>hg) (h.ents f k u hf hk),h.wlow,h.upd.trans hu,h.err.later hu (by simp)⟩
theorem AllAt.book {w0 w w':World} {wb i x:Nat} {V:Nat->Value} {E:Nat->List Value} {bs:List Nat} {Z:Nat->Nat->Prop} {D:Nat->Prop} (h:AllAt w0 w wb V E bs Z D) (hp:0 < w0.heap.size) (hx:bs[i]?=some x) {Z':Nat->Prop} (hb:Bk w' x Z') (hz:∀ k,Z' k->Z i k\/w.heap.size<=k) (hu:∃ K,(∀ k ∈ K,Z i k)/\Upd K w w'):AllAt w0 w' wb V E bs (setW Z i Z') D:=by
 obtain ⟨K,hK,U⟩:=hu
 have hi:=(List.getElem?_eq_some_iff.1 hx).1
 have hs:=U.size
 have hs0:=h.upd.size
 have hout:∀ k,Z' k->¬ WrlB wb V k/\¬ D k/\w0.heap.size<=k:=fun k hk=>by
  rcases hz k hk with e | e
  ·exact h.out i k hi e
  ·exact ⟨fun hw=>by have:=h.wrl.low hw; omega,fun hd=>by have:=(h.dout k hd).2.1; omega,by omega⟩
 refine ⟨h.wrl.later U (fun k hk hm=>(h.out i k hi (hK k hm)).1 hk),h.ptrs,fun j y hy=>?_,fun a b k ha hb' hne=>?_,fun j k hj hk=>?_,fun k hk=>⟨(h.dout k hk).1,Nat.lt_of_lt_of_le (h.dout k hk).2.1 hs,(h.dout k hk).2.2⟩,fun f k u hf hk=>EntF.keep U (fun g hg _ hm=>(h.out i g hi (hK g hm)).2.1 hg) (fun _ hg _=>hg) (h.ents f k u hf hk),h.wlow,h.upd.trans' U (fun x hx hlt=>by have:=(h.out i x hi (hK x hx)).2.2; omega),h.err.later U (fun hm=>by have:=(h.out i 0 hi (hK 0 hm)).2.2; omega)⟩
 ·by_cases e:j=i
  ·subst e
   rw [setW_same]
   rw [hx] at hy
   cases hy
   exact hb
  ·rw [setW_other e]
   have hj:=(List.getElem?_eq_some_iff.1 hy).1
   exact (h.bk j y hy).later U (fun k hk hm=>h.sep j i k hj hi e hk (hK k hm)) (fun hm=>by have:=(h.out i 0 hi (hK 0 hm)).2.2; omega)
 ·by_cases ea:a=i
  ·subst ea
   rw [setW_same,setW_other (fun e=>hne e.symm)]
   intro hk hk2
   rcases hz k hk with e | e
   ·exact h.sep a b k ha hb' hne e hk2
   ·have:=h.zlt hb' hk2; omega
  ·by_cases eb:b=i
   ·subst eb
    rw [setW_same,setW_other ea]
    intro hk hk2
    rcases hz k hk2 with e | e
    ·exact h.sep a b k ha hb' hne hk e
    ·have:=h.zlt ha hk; omega
   ·rw [setW_other ea,setW_other eb]
    exact h.sep a b k ha hb' hne
 ·by_cases e:j=i
  ·subst e
   rw [setW_same] at hk
   exact hout k hk
  ·rw [setW_other e] at hk
   exact h.out j k hj hk
theorem AllAt.took {w0 w w':World} {wb base:Nat} {V:Nat->Value} {E:Nat->List Value} {bs:List Nat} {Z:Nat->Nat->Prop} {D:Nat->Prop} (h:AllAt w0 w wb V E bs Z D) (hp:0 < w0.heap.size) {V':Nat->Value} {E':Nat->List Value} {BL:List Nat} (hT:Took w w' wb V V' E E' BL) (h0:E' 0=E 0) (hBL:∀ g ∈ BL,base<=g/\g < w.heap.size) (hb0:w0.heap.size<=base) (hzb:∀ i k,i < bs.length->Z i k->k ∉ BL) (hdb:∀ k,D k->k ∉ BL) :
  AllAt w0 w' wb V' E' bs Z (fun g=>D g\/(¬ WrlB wb V' g/\(g ∈ BL\/w.heap.size<=g)/\g < w'.heap.size)):=by
 obtain ⟨L,hL,U⟩:=hT.upd
 have hs:=U.size
 have hs0:=h.upd.size
 have hDL:∀ g,D g->g ∉ L:=fun g hg hm=>by
  rcases hL g hm with e | e
  ·exact (h.dout g hg).1 e
  ·exact hdb g hg e
 have hL0:∀ k ∈ L,w0.heap.size<=k:=fun k hk=>by
  rcases hL k hk with e | e
  ·exact h.wlow k e
  ·have:=(hBL k e).1; omega
 have h0L:0 ∉ L:=fun hm=>by have:=hL0 0 hm; omega
 refine ⟨hT.wrl,by rw [h0]; exact h.ptrs,fun i x hx=>?_,h.sep,fun i k hi hk=>⟨wrlB_moved hT.moved (h.zlt hi hk) (h.out i k hi hk).1,fun hd=>?_,(h.out i k hi hk).2.2⟩,fun k hk=>?_,fun f k u hf hk=>?_,fun k hk=>?_,h.upd.trans' U (fun x hx hlt=>by have:=hL0 x hx; omega),h.err.later U h0L⟩
 ·have hi:=(List.getElem?_eq_some_iff.1 hx).1
  refine (h.bk i x hx).later U (fun k hk hm=>?_) h0L
  rcases hL k hm with e | e
  ·exact (h.out i k hi hk).1 e
  ·exact hzb i k hi hk e
 ·rcases hd with e | ⟨_,e | e,_⟩
  ·exact (h.out i k hi hk).2.1 e
  ·exact hzb i k hi hk e
  ·have:=h.zlt hi hk; omega
 ·rcases hk with e | ⟨e1,e2,e3⟩
  ·exact ⟨wrlB_moved hT.moved (h.dout k e).2.1 (h.dout k e).1,Nat.lt_of_lt_of_le (h.dout k e).2.1 hs,(h.dout k e).2.2⟩
  ·refine ⟨e1,e3,?_⟩
   rcases e2 with e | e
   ·have:=(hBL k e).1; omega
   ·omega
 ·obtain ⟨new,e1,p1⟩:=hT.pre f hf
  rw [e1] at hk
  by_cases hkl:k < (E f).length
  ·rw [List.getElem?_append_left hkl] at hk
   exact EntF.keep U (fun g hg _=>hDL g hg) (fun g hg _=>.inl hg) (h.ents f k u hf hk)
  ·rw [List.getElem?_append_right (by omega)] at hk
   have hp1:=p1 _ u hk
   rw [show (E f).length+(k - (E f).length)=k by omega] at hp1
   exact EntF.keep (Upd.refl [] w') (fun _ _ _=>by simp) (fun g hg hgl=>.inr ⟨hg.1,hg.2,hgl⟩) hp1
 ·rcases hk with e | ⟨f,hf,e⟩
  ·exact h.wlow k (.inl e)
  ·rcases hT.moved f hf with e2 | ⟨m,e2,hm⟩
   ·exact h.wlow k (.inr ⟨f,hf,e2 ▸ e⟩)
   ·rw [e2] at e; cases e; omega
theorem AllAt.more {w0 w w1 w2:World} {wb x:Nat} {V:Nat->Value} {E:Nat->List Value} {bs:List Nat} {Z:Nat->Nat->Prop} {D:Nat->Prop} (h:AllAt w0 w wb V E bs Z D) (hp:0 < w0.heap.size) (hu:Upd [] w w1) (hb:BothAt w1 x (fun k=>w.heap.size<=k/\k < w1.heap.size) noWS [] []) {v':Value} (hw:Wrl w2 wb (setW V 0 v') (setW E 0 (E 0++[.pointer (some ⟨x,0,none⟩)]))) (hm:Moved w1 (V 0) v') (hu2:Upd (wb :: (V 0).ownBlock.toList) w1 w2) :
  AllAt w0 w2 wb (setW V 0 v') (setW E 0 (E 0++[.pointer (some ⟨x,0,none⟩)])) (bs++[x]) (setW Z bs.length (fun k=>w.heap.size<=k/\k < w1.heap.size)) D:=by
 have h1:=h.look hu
 have hs:=hu.size
 have hs2:=hu2.size
 have hs0:=h.upd.size
 have hLW:∀ k ∈ wb :: (V 0).ownBlock.toList,WrlB wb V k:=fun k hk=>by
  simp only [List.mem_cons] at hk
  rcases hk with e | e
  ·exact .inl e
  ·exact .inr ⟨0,by omega,by simpa using e⟩
 have hno:∀ k,¬ WrlB wb V k->k ∉ wb :: (V 0).ownBlock.toList:=fun k hk hm=>hk (hLW k hm)
 have h0L:0 ∉ wb :: (V 0).ownBlock.toList:=fun hm=>by have:=h.wlow 0 (hLW 0 hm); omega
 have hnew:∀ k,w.heap.size<=k->¬ WrlB wb V k:=fun k hk hw=>by have:=h.wrl.low hw; omega
 have hZ:∀ i,i < bs.length->setW Z bs.length (fun k=>w.heap.size<=k/\k < w1.heap.size) i=Z i:=fun i hi=>setW_other (by omega)
 refine ⟨hw,by rw [setW_same,h.ptrs,List.map_append]; rfl,fun i y hy=>?_,fun a b k ha hb' hne=>?_,fun i k hi hk=>?_,fun k hk=>⟨wrlB_set hm (by omega) (Nat.lt_of_lt_of_le (h.dout k hk).2.1 hs) (h.dout k hk).1,by have:=(h.dout k hk).2.1; omega,(h.dout k hk).2.2⟩,fun f k u hf hk=>?_,fun k hk=>?_,h1.upd.trans' hu2 (fun y hy hlt=>by have:=h.wlow y (hLW y hy); omega),h1.err.later hu2 h0L⟩
 ·by_cases hi:i < bs.length
  ·rw [List.getElem?_append_left hi] at hy
   rw [hZ i hi]
   exact (h1.bk i y hy).later hu2 (fun k hk=>hno k (h.out i k hi hk).1) h0L
  ·have hl:=(List.getElem?_eq_some_iff.1 hy).1
   rw [List.length_append,List.length_singleton] at hl
   obtain rfl:i=bs.length:=by omega
   rw [List.getElem?_append_right (Nat.le_refl _),Nat.sub_self] at hy
   simp only [List.getElem?_cons_zero,Option.some.injEq] at hy
   subst hy
   rw [setW_same]
   exact ⟨noWS,[],[],[],hb.later hu2 (fun k hk=>hno k (hnew k hk.1)) h0L,⟨rfl,rfl⟩,by simp⟩
 ·rw [List.length_append,List.length_singleton] at ha hb'
  by_cases e1:a=bs.length
  ·subst e1
   rw [setW_same,hZ b (by omega)]
   intro hk hk2
   have:=h.zlt (show b < bs.length by omega) hk2
   omega
  ·by_cases e2:b=bs.length
   ·subst e2
    rw [setW_same,hZ a (by omega)]
    intro hk hk2
    have:=h.zlt (show a < bs.length by omega) hk
    omega
   ·rw [hZ a (by omega),hZ b (by omega)]
    exact h.sep a b k (by omega) (by omega) hne
 ·rw [List.length_append,List.length_singleton] at hi
  by_cases e1:i=bs.length
  ·subst e1
   rw [setW_same] at hk
   exact ⟨wrlB_set hm (by omega) hk.2 (hnew k hk.1),fun hd=>by have:=(h.dout k hd).2.1; omega,by omega⟩
  ·rw [hZ i (by omega)] at hk
   obtain ⟨o1,o2,o3⟩:=h.out i k (by omega) hk
   exact ⟨wrlB_set hm (by omega) (Nat.lt_of_lt_of_le (h.zlt (show i < bs.length by omega) hk) hs) o1,o2,o3⟩
 ·by_cases e:f=0
  ·subst e
   trivial
  ·rw [setW_other e] at hk
   exact EntF.keep hu2 (fun g hg _=>hno g (h.dout g hg).1) (fun _ hg _=>hg) (h1.ents f k u hf hk)
 ·rcases hk with e | ⟨f,hf,e⟩
  ·exact h.wlow k (.inl e)
  ·by_cases e1:f=0
   ·subst e1
    rw [setW_same] at e
    rcases hm with e2 | ⟨m,e2,hm'⟩
    ·exact h.wlow k (.inr ⟨0,hf,e2 ▸ e⟩)
    ·rw [e2] at e; cases e; omega
   ·rw [setW_other e1] at e
    exact h.wlow k (.inr ⟨f,hf,e⟩)
def pickW (c n:Int):Int:=(if c < 0 then -(c+1) else c) % n
theorem pickW_lt {c n:Int} (h:0 < n):0<=pickW c n/\pickW c n < n:=⟨Int.emod_nonneg _ (by omega),Int.emod_lt_of_pos _ h⟩
theorem pickW_any (c n:Int) (w:World) (hc0:-9223372036854775808<=c) (hc1:c<=9223372036854775807) (hn:0 < n) (hn1:n<=100000000000) :
  Calls Tryz.prog 31 #[.int .i64 c,.int .i64 n] w fun e w'=>e=.returned (.int .i64 (pickW c n))/\w'=w:=by
 by_cases hc:c < 0
 ·go_enter Tryz.func31,Tryz.ntmps31
  go_wp2
  go_ret
  refine ⟨?_,rfl⟩
  show Ending.returned (.int .i64 (-((c+1).tmod n)))=_
  have e:pickW c n=-((c+1).tmod n):=by
   unfold pickW
   rw [if_pos hc,<- Int.neg_tmod,Int.tmod_eq_emod_of_nonneg (by omega)]
  rw [e]
 ·have hc':0<=c:=by omega
  have e:Hid (pickW c n=c % n):=by show _=_; unfold pickW; rw [if_neg hc]
  clear hc
  go_enter Tryz.func31,Tryz.ntmps31
  go_wp2
  go_ret
  exact ⟨by rw [e.out]; rfl,rfl⟩
theorem info_bothP:(Tryz.prog.info? 42).map (fun i=>(i.zero,i.size,i.bytes))=some (some (.pointer none),1,8):=by kernel_rfl
def AllSt (w0 w:World) (wb N m:Nat):Prop:=∃ V E bs Z D,AllAt w0 w wb V E bs Z D/\m<=bs.length/\∀ f,f < 5->(E f).length<=N
theorem stepW_new (kk:Int) (s:ByteArray) {w0 w:World} {wb N:Nat} (hp:0 < w0.heap.size) (h:AllSt w0 w wb N 0) (hN:N+20000<=100000000000) :
  Calls Tryz.prog 11 #[.pointer (some ⟨wb,0,none⟩),.agg #[.int .i64 10,.int .i64 kk,.string s]] w fun e w'=>e=.returned (.bool true)/\AllSt w0 w' wb (N+6000) 1:=by
 obtain ⟨V,E,bs,Z,D,h,_,hlen⟩:=h
 obtain ⟨i0,hi,hz0,hz1,hz2⟩:=info_parts info_bothP
 have hA:=h.look ((Upd.refl [] w).alloc (.cells #[.int .i64 10,.int .i64 kk,.string s] 41))
 obtain ⟨W,hW⟩:∃ W,W=w.alloc (.cells #[.int .i64 10,.int .i64 kk,.string s] 41):=⟨_,rfl⟩
 rw [<- hW] at hA
 have e0:W.cell? ⟨w.heap.size,0,none⟩=some (.int .i64 10):=by rw [hW]; go_simp
 have HB:=hide (begun_any W hA.err)
 have hE0:=hlen 0 (by omega)
 obtain ⟨k,hk⟩:∃ k,(E 0).length=k:=⟨_,rfl⟩
 have hrow0:=hA.wrl.row 0 (by omega)
 rw [hk] at hrow0 hE0
 obtain ⟨a1,cap1,hv1⟩:=slice_len hrow0
 have Hv1:=hide hv1
 have Hk:=hide hk
 have HA:=hide hA
 have HW:=hide hW
 have Hlen:=hide hlen
 clear h hlen hrow0 hv1 hk hA hW
 go_enter Tryz.func11,Tryz.ntmps11
 go_upto_region 1 with fail
 rw [<- HW.out]
 go_upto_region 3 with (go_at_call 22; refine HB.out.mono ?_; rintro e w2 ⟨xb,rfl,hb2,hu2⟩; have Hb2:=hide hb2; have HU2:=hide hu2; clear hb2 hu2)
 have hw:=HA.out.wrl.later HU2.out (fun _ _=>by simp)
 have c1:=hw.cell 0 (by omega)
 have fr:=hw.free
 rw [Hv1.out] at c1
 have hrw:=(hw.later ((Upd.refl [] w2).alloc (.cells #[.pointer (some ⟨xb,0,none⟩)] 42)) (fun _ _=>by simp)).row 0 (by omega)
 rw [Hk.out,Hv1.out] at hrw
 have Hrw:Hid ((w2.alloc (.cells #[.pointer (some ⟨xb,0,none⟩)] 42)).ownsRow 0 42 1 (.slice a1 k cap1) k (E 0)):=hrw
 have Hnews:Hid (∀ q u,[Value.pointer (some ⟨xb,0,none⟩)][q]?=some u->(w2.alloc (.cells #[.pointer (some ⟨xb,0,none⟩)] 42)).cell? ((⟨w2.heap.size,0,none⟩:Addr).add q)=some u):=World.news_of_block (heap_alloc_new _ _)
 have hone:Hid (∀ u ∈ [Value.pointer (some ⟨xb,0,none⟩)],u.oneCell'=true):=(fun u hu'=>by simp at hu'; subst hu'; rfl)
 have hlm:k+1<=maxLen:=by unfold maxLen; omega
 have hlb:(k+1) * 8<=140737488355328:=by omega
 have HK:Hid (∀ w3,(w2.alloc (.cells #[.pointer (some ⟨xb,0,none⟩)] 42)).grownBy w3 (Value.slice a1 k cap1).ownBlock->w3.cell? ⟨wb,0,none⟩=some (.slice a1 k cap1)/\∀ o,w3.frozen? ⟨wb,o,none⟩=false):=fun w3 hg=>by
  have U:=((Upd.refl (Value.slice a1 k cap1).ownBlock.toList w2).alloc (.cells #[.pointer (some ⟨xb,0,none⟩)] 42)).trans (Upd.of_grown hg)
  have hn:wb ∉ (Value.slice a1 k cap1).ownBlock.toList:=fun hm=>hw.out 0 (by omega) (by rw [Hv1.out]; simpa using hm)
  exact ⟨(U.cell (p:=⟨wb,0,none⟩) hw.lt hn).trans c1,fun o=>(U.frozen (p:=⟨wb,o,none⟩) hw.lt hn).trans (fr o)⟩
 have HFin:Hid (∀ g3 cap3 w3,(w2.alloc (.cells #[.pointer (some ⟨xb,0,none⟩)] 42)).grownBy w3 (Value.slice a1 k cap1).ownBlock->w3.ownsRow 0 42 1 (.slice (some ⟨g3,0,none⟩) (k+1) cap3) (k+1) (E 0++[.pointer (some ⟨xb,0,none⟩)])->((Value.slice a1 k cap1).ownBlock=some g3\/g3=(w2.alloc (.cells #[.pointer (some ⟨xb,0,none⟩)] 42)).heap.size)->AllSt w0 (w3.setCell ⟨wb,0,none⟩ (.slice (some ⟨g3,0,none⟩) (k+1) cap3)) wb (N+6000) 1):=fun g3 cap3 w3 hg ho hat=>by
  have hwA:=hw.later ((Upd.refl [] w2).alloc (.cells #[.pointer (some ⟨xb,0,none⟩)] 42)) (fun _ _=>by simp)
  rw [<- Hv1.out] at hg hat
  have hmv:Moved (w2.alloc (.cells #[.pointer (some ⟨xb,0,none⟩)] 42)) (V 0) (.slice (some ⟨g3,0,none⟩) (k+1) cap3):=by
   rcases hat with e | e
   ·exact .inl e.symm
   ·exact .inr ⟨g3,rfl,by omega⟩
  obtain ⟨p1,p2⟩:=hwA.push (by omega) hg (by rw [Hk.out]; exact ho) hmv
  have hm2:Moved w2 (V 0) (.slice (some ⟨g3,0,none⟩) (k+1) cap3):=by
   rcases hat with e | e
   ·exact .inl e.symm
   ·exact .inr ⟨g3,rfl,by simp at e; omega⟩
  refine ⟨_,_,_,_,_,HA.out.more hp HU2.out Hb2.out p1 hm2 (((Upd.refl _ w2).alloc _).trans p2),by simp,fun f hf=>?_⟩
  by_cases e:f=0
  ·subst e
   rw [setW_same,List.length_append,Hk.out,List.length_singleton]
   omega
  ·rw [setW_other e]
   have:=Hlen.out f hf
   omega
 clear hrw hw
 go_wp2_with (at_builtin; go_must (refine wpList_append_lies _ rfl _ _ 32 rfl 0 42 i0 (.pointer none) 1 8 Tryz.underlying32 hi hz0 hz1 hz2 rfl (by decide) _ _ _ rfl Hrw.out ⟨w2.heap.size,0,none⟩ 1 1 [.pointer (some ⟨xb,0,none⟩)] rfl rfl Hnews.out hone.out (by decide) hlm hlb (by simp) _ rfl ?_); intro g3 cap3 w3 hown3 hgrow3 hat3 hlt3; obtain ⟨x1,x2⟩:=HK.out w3 hgrow3)
 go_ret
 exact ⟨rfl,HFin.out g3 cap3 w3 hgrow3 hown3 hat3⟩
end Go.Proofs.YtmfkpllnmmfpiaaGreatDoor
