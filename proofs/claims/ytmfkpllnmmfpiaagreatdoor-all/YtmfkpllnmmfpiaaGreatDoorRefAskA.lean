/- RefAsk -/
import Derived.Test.YtmfkpllnmmfpiaaGreatDoorRefClashA
set_option maxHeartbeats 16000000
set_option maxRecDepth 100000
namespace Go.Proofs.YtmfkpllnmmfpiaaGreatDoor
open Go.RowKit
theorem info_refSentP:(Tryz.prog.info? 117).map (fun i=>(i.zero,i.size,i.bytes))=some (some (.pointer none),1,8):=by kernel_rfl
theorem append_empty (a:Option Addr) (cap:Nat) (ty:TypeId) (W:World):(Builtin.append_ #[92,92] ty #[.slice none 0 0,.slice a 0 cap]).run Tryz.prog W=.ok (.slice none 0 0) W:=by
 obtain ⟨i0,hi,hz0,hz1,hz2⟩:=info_parts info_refSentP
 cases a with
 | none=>simp [Builtin.append_,run_underlying Tryz.underlying92,sizeOf,typeInfo,hi,Builtin.lenOf,Builtin.firstCells]
 | some a=>simp [Builtin.append_,run_underlying Tryz.underlying92,sizeOf,typeInfo,hi,Builtin.lenOf,Builtin.firstCells,loadCells,loadCellsFrom]
theorem wpList_append_empty {w:World} {ops:Array Oper} {rest:List Oper} {o:Oper} {a:Act} {Q:Exit->Act->World->Prop} (hgd:o.guard=none) (s x:Operand)
  (ho:o.op=.call { callee:=.builtin .append,args:=#[s,x],argTypes:=#[92,92] }) (ad:Option Addr) (cap:Nat)
  (hs:a.eval s=.slice none 0 0) (hx:a.eval x=.slice ad 0 cap)
  (h:wpList Tryz.prog ops Q rest (a.put o.dst (.slice none 0 0)) w):wpList Tryz.prog ops Q (o :: rest) a w:=by
 refine wpList_plain hgd fun K hK=>?_
 have hrun:=append_empty ad cap o.type w
 unfold Oper.wp
 simp [execOp,ho,resolve,invoke,builtin,hs,hx,hrun,Result.andThen]
 exact hK _ _ h
theorem news_after (w:World) (o:Obj) (x:Value) (T:TypeId):∀ j u,[x][j]?=some u->(((w.alloc o).alloc (.cells #[x] T)).drew).cell? ((⟨w.heap.size+1,0,none⟩:Addr).add j)=some u:=by
 have h:∀ j u,[x][j]?=some u->((w.alloc o).alloc (.cells #[x] T)).cell? ((⟨(w.alloc o).heap.size,0,none⟩:Addr).add j)=some u:=World.news_of_block (heap_alloc_new (w.alloc o) (.cells #[x] T))
 have e:(w.alloc o).heap.size=w.heap.size+1:=by simp
 rw [e] at h
 exact h
theorem RSRow.snoc {w0 w2 w3:World} {v mv:Value} {L:List ST} {cs:List Nat} {x:ST} {xb g cap B:Nat} {Z0 Zx:Nat->Prop} (h:RSRow w0 Z0 v L cs) (hu:Upd [] w0 w2) (hx:IsRS w2 Zx x xb) (hZx:∀ k,Zx k->(Z0 k\/w0.heap.size<=k)/\mv.ownBlock ≠ some k) (hm:∀ k,mv.ownBlock=some k->w0.heap.size<=k) (hg:w2.grownBy w3 mv.ownBlock) (hat:mv.ownBlock=some g\/g=w2.heap.size)
  (hown:w3.ownsRow B 117 1 (.slice (some ⟨g,0,none⟩) (cs.length+1) cap) (cs.length+1) (ptrs cs++[.pointer (some ⟨xb,0,none⟩)])) :
  RSRow w3 (fun k=>Z0 k\/w0.heap.size<=k) (.slice (some ⟨g,0,none⟩) (cs.length+1) cap) (L++[x]) (cs++[xb])/\Upd [] w0 w3:=by
 have U3:Upd mv.ownBlock.toList w2 w3:=Upd.of_grown hg
 have h02:=hu.size
 have U03:Upd [] w0 w3:=hu.trans' U3 (fun k hk hl=>by
  have:=hm k (by simpa using hk)
  omega)
 refine ⟨⟨PRow.of_own (cs:=cs++[xb]) (e:=117) (B:=B) (by simpa [ptrs] using hown) (fun k hk=>?_),by simp [h.len],fun i c y hc hy=>?_⟩,U03⟩
 ·simp only [own_slice,Option.some.injEq] at hk
  subst hk
  rcases hat with hat | hat
  ·exact .inr (hm g hat)
  ·exact .inr (by omega)
 by_cases hi:i < L.length
 ·rw [List.getElem?_append_left (by rw [h.len]; exact hi)] at hc
  rw [List.getElem?_append_left hi] at hy
  exact ((h.kids i c y hc hy).later U03 (fun _ _=>by simp)).mono fun k hk _=>.inl hk
 ·have hi2:i=L.length:=by
   have:=(List.getElem?_eq_some_iff.1 hy).1
   simp at this
   omega
  subst hi2
  rw [<- h.len,List.getElem?_concat_length] at hc
  rw [List.getElem?_concat_length] at hy
  obtain rfl:=Option.some.inj hc
  obtain rfl:=Option.some.inj hy
  exact (hx.later U3 (fun k hk hmm=>(hZx k hk).2 (by simpa using hmm))).mono fun k hk _=>(hZx k hk).1
theorem refFollows_any (w0:World) (L:List ST) (v:Value) (cs:List Nat) (x:ST) (xb:Nat) (h:RSRow w0 (fun k=>k < w0.heap.size) v L cs) (hx:IsRS w0 (fun k=>k < w0.heap.size) x xb) (hok:∀ s ∈ L,STOK s) (hox:STOK x) (hsz:∀ s ∈ L,s.size<=200) (hsx:x.size<=200) (hL:L.length<=99) :
  Calls Tryz.prog 104 #[v,.pointer (some ⟨xb,0,none⟩)] w0 fun e w'=>e=.returned (.bool (clashR (L++[contraT x])))/\Upd [] w0 w':=by
 obtain ⟨i0,hi,hz0,hz1,hz2⟩:=info_parts info_refSentP
 have HCl:=hide (fun (w:World) (v:Value) (cs:List Nat) (hr:RSRow w (fun k=>k < w.heap.size) v (L++[contraT x]) cs)=>refClash_any w (L++[contraT x]) v cs hr (fun s hs=>by
   simp only [List.mem_append,List.mem_singleton] at hs
   rcases hs with hs | rfl
   ·exact hok s hs
   ·exact hox) (fun s hs=>by
   simp only [List.mem_append,List.mem_singleton] at hs
   rcases hs with hs | rfl
   ·exact hsz s hs
   ·exact hsx) (by simp; omega))
 have Hh:=hide h
 obtain ⟨a,cap,hv,hc1,hc2,hform⟩:=h.row.form
 subst hv
 obtain ⟨n,hn⟩:∃ n,cs.length=n:=⟨_,rfl⟩
 have hnL:n<=99:=by rw [<- hn,h.len]; exact hL
 rw [hn] at hc1 hform ⊢
 obtain ⟨lb,rb,s1,s2,s3,s4⟩:=hx.sides
 have x0:=hx.eq
 have hxlt:=hx.lt
 have Hn:=hide hn
 have Hs3:=hide s3
 have Hs4:=hide s4
 have Hfin:Hid (∀ (w1:World) (mv:Value),Upd [] w0 w1->w1.ownsRow w0.heap.size 117 1 mv n (ptrs cs)->∀ (w3:World) (g cp:Nat),(((w1.alloc (.cells #[.bool (!x.eq),.pointer (some ⟨lb,0,none⟩),.pointer (some ⟨rb,0,none⟩)] 174)).alloc (.cells #[.pointer (some ⟨w1.heap.size,0,none⟩)] 117)).drew).grownBy w3 mv.ownBlock->(mv.ownBlock=some g\/g=(((w1.alloc (.cells #[.bool (!x.eq),.pointer (some ⟨lb,0,none⟩),.pointer (some ⟨rb,0,none⟩)] 174)).alloc (.cells #[.pointer (some ⟨w1.heap.size,0,none⟩)] 117)).drew).heap.size)->w3.ownsRow w0.heap.size 117 1 (.slice (some ⟨g,0,none⟩) (n+1) cp) (n+1) (ptrs cs++[.pointer (some ⟨w1.heap.size,0,none⟩)]) ->
   RSRow w3 (fun k=>k < w3.heap.size) (.slice (some ⟨g,0,none⟩) (n+1) cp) (L++[contraT x]) (cs++[w1.heap.size])/\Upd [] w0 w3):=fun w1 mv hU hrow w3 g cp hg hat hown=>by
  rw [<- Hn.out] at hown ⊢
  have hu:Upd [] w1 (((w1.alloc (.cells #[.bool (!x.eq),.pointer (some ⟨lb,0,none⟩),.pointer (some ⟨rb,0,none⟩)] 174)).alloc (.cells #[.pointer (some ⟨w1.heap.size,0,none⟩)] 117)).drew):=(((Upd.refl [] w1).alloc _).alloc _).drew
  have h01:=hU.size
  obtain ⟨f1,f2⟩:=RSRow.snoc (Zx:=fun k=>k < w0.heap.size\/w1.heap.size<=k) (x:=contraT x) (xb:=w1.heap.size) Hh.out (hU.trans hu) (by
   refine ⟨by simp; omega,.inr (Nat.le_refl _),by have e:(contraT x).eq=!x.eq:=rfl; rw [e]; go_simp,lb,rb,by go_simp,by go_simp,?_,?_⟩
   ·exact (Hs3.out.later (hU.trans hu) (fun _ _=>by simp)).mono fun k hk hl=>.inl hk
   ·exact (Hs4.out.later (hU.trans hu) (fun _ _=>by simp)).mono fun k hk hl=>.inl hk) (fun k hk=>⟨by omega,fun e=>by have:=own_geT hrow e; have:=ownsRow_lt hrow e; omega⟩) (fun k hk=>own_geT hrow hk) hg hat hown
  exact ⟨f1.mono fun k _ hl=>hl,f2⟩
 unfold maxLen at hc2
 have hone:Hid (∀ (k:Nat),∀ u ∈ [Value.pointer (some ⟨k,0,none⟩)],u.oneCell'=true):=(fun k u hu'=>by simp at hu'; subst hu'; rfl)
 have hlm:n+1<=maxLen:=by unfold maxLen; omega
 have hlb:(n+1) * 8<=140737488355328:=by omega
 by_cases hn0:n=0
 ·subst hn0
  have hcs:cs=[]:=List.length_eq_zero_iff.1 Hn.out
  have Hrow:Hid ((((w0.alloc (.cells #[.bool (!x.eq),.pointer (some ⟨lb,0,none⟩),.pointer (some ⟨rb,0,none⟩)] 174)).alloc (.cells #[.pointer (some ⟨w0.heap.size,0,none⟩)] 117)).drew).ownsRow w0.heap.size 117 1 (.slice none 0 0) 0 []):=⟨rfl,.inl ⟨rfl,rfl⟩⟩
  have HF:=hide (Hfin.out w0 (.slice none 0 0) (Upd.refl [] w0) (by rw [hcs]; exact ⟨rfl,.inl ⟨rfl,rfl⟩⟩))
  rw [hcs] at HF
  clear h hx hform hn hcs s3 s4 Hfin Hh
  go_enter Tryz.func104,Tryz.ntmps104
  go_upto_region 3 with (at_builtin; refine wpList_append_empty rfl _ _ rfl a cap rfl rfl ?_)
  have hnews:∀ j u,[Value.pointer (some ⟨w0.heap.size,0,none⟩)][j]?=some u->(((w0.alloc (.cells #[.bool (!x.eq),.pointer (some ⟨lb,0,none⟩),.pointer (some ⟨rb,0,none⟩)] 174)).alloc (.cells #[.pointer (some ⟨w0.heap.size,0,none⟩)] 117)).drew).cell? ((⟨w0.heap.size+1,0,none⟩:Addr).add j)=some u:=news_after w0 _ _ _
  have Hnews:=hide hnews
  clear hnews
  go_wp2_with fail
  go_region_law (refine step_append_lies _ (by rfl) _ _ 92 (by rfl) w0.heap.size 117 i0 (.pointer none) 1 8 Tryz.underlying92 hi hz0 hz1 hz2 (by rfl) (by decide) (.slice none 0 0) 0 [] (by rfl) Hrow.out ⟨w0.heap.size+1,0,none⟩ 1 1 [Value.pointer (some ⟨w0.heap.size,0,none⟩)] (by rfl) (by rfl) Hnews.out (hone.out w0.heap.size) (by decide) hlm hlb (by simp; omega) _ (by rfl) ?_; intro g cp w3 hown' hgrow hat hlt3)
  all_goals (
   have hF:=HF.out w3 g cp hgrow hat hown'
   have HC:=hide (HCl.out w3 _ _ hF.1)
   have HU:=hide hF.2
   clear hF
   go_wp2_with (go_at_call 92; refine HC.out.mono ?_; rintro e w4 ⟨rfl,hu4⟩; have Hu4:=hide hu4; clear hu4)
   go_ret
   exact ⟨rfl,HU.out.trans Hu4.out⟩)
 ·have hpos:0 < n:=by omega
  obtain ⟨g0,rfl,hg1,_,hg3⟩:=hform hpos
  have hnews0:Hid (∀ j u,(ptrs cs)[j]?=some u->w0.cell? ((⟨g0,0,none⟩:Addr).add j)=some u):=fun j u hu=>by
   unfold ptrs at hu
   rw [List.getElem?_map] at hu
   obtain ⟨c,hc,rfl⟩:=Option.map_eq_some_iff.1 hu
   have:=hg3 j c hc
   cases j <;> simpa [Addr.add] using this
  have hone0:Hid (∀ u ∈ ptrs cs,u.oneCell'=true):=fun u hu=>by
   unfold ptrs at hu
   obtain ⟨c,_,rfl⟩:=List.mem_map.1 hu
   rfl
  have hlen0:Hid ((ptrs cs).length=n * 1):=by show _=_; unfold ptrs; rw [List.length_map,Hn.out]; omega
  have Hrow0:Hid (w0.ownsRow w0.heap.size 117 1 (.slice none 0 0) 0 []):=⟨rfl,.inl ⟨rfl,rfl⟩⟩
  have hlm0:0+n<=maxLen:=by unfold maxLen; omega
  have hlb0:(0+n) * 8<=140737488355328:=by omega
  clear h hx hform hn s3 s4 Hh hg3
  go_enter Tryz.func104,Tryz.ntmps104
  go_upto_region 3 with (at_builtin; go_must (refine wpList_append_lies _ rfl _ _ 92 rfl w0.heap.size 117 i0 (.pointer none) 1 8 Tryz.underlying92 hi hz0 hz1 hz2 rfl (by decide) _ _ _ rfl Hrow0.out ⟨g0,0,none⟩ n cap (ptrs cs) rfl hlen0.out hnews0.out hone0.out hpos hlm0 hlb0 (Nat.le_refl _) _ rfl ?_); intro g1 cap1 w1 hown1 hgrow1 hat1 hlt1)
  have hU1:Upd [] w0 w1:=Upd.of_grown hgrow1
  rw [Nat.zero_add,List.nil_append] at hown1
  obtain ⟨mv,hmv⟩:∃ mv,mv=Value.slice (some ⟨g1,0,none⟩) n cap1:=⟨_,rfl⟩
  rw [<- hmv] at hown1
  rw [<- hmv]
  have y0:=(hU1.cell (p:=⟨xb,0,none⟩) hxlt (by simp)).trans x0
  have y1:=(hU1.cell (p:=⟨xb,1,none⟩) hxlt (by simp)).trans s1
  have y2:=(hU1.cell (p:=⟨xb,2,none⟩) hxlt (by simp)).trans s2
  have HF:=hide (Hfin.out w1 mv hU1 hown1)
  have hs1:=hU1.size
  have hxlt1:xb < w1.heap.size:=by omega
  have Hrow:Hid ((((w1.alloc (.cells #[.bool (!x.eq),.pointer (some ⟨lb,0,none⟩),.pointer (some ⟨rb,0,none⟩)] 174)).alloc (.cells #[.pointer (some ⟨w1.heap.size,0,none⟩)] 117)).drew).ownsRow w0.heap.size 117 1 mv n (ptrs cs)):=((((Upd.refl [] w1).alloc _).alloc _).drew).ownsRow hown1 (fun _ _=>by simp)
  have Hnews:=hide (news_after w1 (.cells #[.bool (!x.eq),.pointer (some ⟨lb,0,none⟩),.pointer (some ⟨rb,0,none⟩)] 174) (.pointer (some ⟨w1.heap.size,0,none⟩)) 117)
  clear hmv hown1 hgrow1 hat1 hlt1 hU1 Hfin x0 s1 s2 hnews0 hone0 hlen0 Hrow0 hlm0 hlb0
  go_wp2_with fail
  go_region_law (refine step_append_lies _ (by rfl) _ _ 92 (by rfl) w0.heap.size 117 i0 (.pointer none) 1 8 Tryz.underlying92 hi hz0 hz1 hz2 (by rfl) (by decide) mv n (ptrs cs) (by rfl) Hrow.out ⟨w1.heap.size+1,0,none⟩ 1 1 [Value.pointer (some ⟨w1.heap.size,0,none⟩)] (by rfl) (by rfl) Hnews.out (hone.out w1.heap.size) (by decide) hlm hlb (by simp; omega) _ (by rfl) ?_; intro g cp w3 hown' hgrow hat hlt3)
  all_goals (
   have hF:=HF.out w3 g cp hgrow hat hown'
   have HC:=hide (HCl.out w3 _ _ hF.1)
   have HU:=hide hF.2
   clear hF
   go_wp2_with (go_at_call 92; refine HC.out.mono ?_; rintro e w4 ⟨rfl,hu4⟩; have Hu4:=hide hu4; clear hu4)
   go_ret
   exact ⟨rfl,HU.out.trans Hu4.out⟩)
end Go.Proofs.YtmfkpllnmmfpiaaGreatDoor
