/- RefBook, LawBoth, LawSaid -/
import Derived.Test.YtmfkpllnmmfpiaaGreatDoorRefAskA
import Derived.Test.YtmfkpllnmmfpiaaGreatDoorRefHoldA
set_option maxHeartbeats 16000000
set_option maxRecDepth 100000
namespace Go.Proofs.YtmfkpllnmmfpiaaGreatDoor
open Go.RowKit
structure RBAt (w:World) (rb:Nat) (Z:Nat->Prop) (L:List ST) (M:List Nat):Prop where
 lt:rb < w.heap.size
 free:∀ o,w.frozen? ⟨rb,o,none⟩=false
 own:Z rb
 low:∀ k,Z k->k < w.heap.size
 rows:∃ v cs u,w.cell? ⟨rb,0,none⟩=some v/\w.cell? ⟨rb,1,none⟩=some u/\RSRow w (fun k=>(Z k/\k ≠ rb)/\u.ownBlock ≠ some k) v L cs/\w.ownsRow 0 3 1 u M.length (intsOf M)/\∀ k,u.ownBlock=some k->Z k/\k ≠ rb
theorem RBAt.said {w:World} {rb:Nat} {Z:Nat->Prop} {L:List ST} {M:List Nat} (h:RBAt w rb Z L M):∃ v cs,w.cell? ⟨rb,0,none⟩=some v/\RSRow w (fun k=>Z k/\k ≠ rb) v L cs:=by
 obtain ⟨v,cs,u,h1,_,h2,_⟩:=h.rows
 exact ⟨v,cs,h1,h2.mono fun k hk _=>hk.1⟩
theorem RBAt.later {w w':World} {K:List Nat} {rb:Nat} {Z:Nat->Prop} {L:List ST} {M:List Nat} (h:RBAt w rb Z L M) (hu:Upd K w w') (hK:∀ k,Z k->k ∉ K):RBAt w' rb Z L M:=by
 obtain ⟨v,cs,u,h1,h3,h2,h4,h5⟩:=h.rows
 exact ⟨Nat.lt_of_lt_of_le h.lt hu.size,fun o=>(hu.frozen (p:=⟨rb,o,none⟩) h.lt (hK _ h.own)).trans (h.free o),h.own,fun k hk=>Nat.lt_of_lt_of_le (h.low k hk) hu.size,⟨v,cs,u,(hu.cell (p:=⟨rb,0,none⟩) h.lt (hK _ h.own)).trans h1,(hu.cell (p:=⟨rb,1,none⟩) h.lt (hK _ h.own)).trans h3,h2.later hu (fun k hk=>hK k hk.1.1),hu.ownsRow h4 (fun k hk=>hK k (h5 k hk).1),h5⟩⟩
theorem RBAt.mono {w:World} {rb:Nat} {Z Z':Nat->Prop} {L:List ST} {M:List Nat} (h:RBAt w rb Z L M) (hm:∀ k,Z k->Z' k) (hl:∀ k,Z' k->k < w.heap.size):RBAt w rb Z' L M:=by
 obtain ⟨v,cs,u,h1,h3,h2,h4,h5⟩:=h.rows
 exact ⟨h.lt,h.free,hm _ h.own,hl,⟨v,cs,u,h1,h3,h2.mono fun k hk _=>⟨⟨hm k hk.1.1,hk.1.2⟩,hk.2⟩,h4,fun k hk=>⟨hm k (h5 k hk).1,(h5 k hk).2⟩⟩⟩
theorem RBAt.wider {w w':World} {rb:Nat} {Z:Nat->Prop} {L:List ST} {M:List Nat} (h:RBAt w rb Z L M) (hu:Upd [] w w'):RBAt w' rb (fun k=>(Z k\/w.heap.size<=k)/\k < w'.heap.size) L M :=
 (h.later hu (fun _ _=>by simp)).mono (fun k hk=>⟨.inl hk,Nat.lt_of_lt_of_le (h.low k hk) hu.size⟩) (fun k hk=>hk.2)
theorem RBAt.put {w w':World} {rb:Nat} {Z:Nat->Prop} {L L':List ST} {M:List Nat} {v u:Value} {cs:List Nat} (h:RBAt w rb Z L M) (hu:Upd [] w w') (cu:w.cell? ⟨rb,1,none⟩=some u) (hr:RSRow w' (fun k=>((Z k/\k ≠ rb)/\u.ownBlock ≠ some k)\/w.heap.size<=k) v L' cs):RBAt (w'.setCell ⟨rb,0,none⟩ v) rb (fun k=>(Z k\/w.heap.size<=k)/\k < (w'.setCell ⟨rb,0,none⟩ v).heap.size) L' M/\Upd [rb] w (w'.setCell ⟨rb,0,none⟩ v):=by
 have hlt:=h.lt
 have hlt':=Nat.lt_of_lt_of_le h.lt hu.size
 have U:Upd [rb] w (w'.setCell ⟨rb,0,none⟩ v):=(hu.mono (fun x hx _=>by cases hx)).setCell (by simp) _
 have U2:Upd [rb] w' (w'.setCell ⟨rb,0,none⟩ v):=(Upd.refl [rb] w').setCell (by simp) _
 obtain ⟨v0,cs0,u0,h1,h3,_,h4,h5⟩:=h.rows
 rw [cu] at h3
 obtain rfl:=Option.some.inj h3
 have g0:=(hu.cell (p:=⟨rb,0,none⟩) h.lt (by simp)).trans h1
 have g1:=(hu.cell (p:=⟨rb,1,none⟩) h.lt (by simp)).trans cu
 have gf:∀ o,w'.frozen? ⟨rb,o,none⟩=false:=fun o=>(hu.frozen (p:=⟨rb,o,none⟩) h.lt (by simp)).trans (h.free o)
 refine ⟨⟨by simpa using hlt',fun o=>by simpa using gf o,⟨.inl h.own,by simpa using hlt'⟩,fun k hk=>hk.2,⟨v,cs,u,by go_simp,by go_simp,?_,U.ownsRow h4 (fun k hk hm=>(h5 k hk).2 (by simpa using hm)),fun k hk=>⟨⟨.inl (h5 k hk).1,?_⟩,(h5 k hk).2⟩⟩⟩,U⟩
 ·refine (hr.later U2 (fun k hk hm=>?_)).mono fun k hk hl=>?_
  ·simp only [List.mem_singleton] at hm
   subst hm
   rcases hk with hk | hk
   ·exact hk.1.2 rfl
   ·omega
  ·rcases hk with hk | hk
   ·exact ⟨⟨⟨.inl hk.1.1,hl⟩,hk.1.2⟩,hk.2⟩
   ·exact ⟨⟨⟨.inr hk,hl⟩,by omega⟩,fun e=>by have:=ownsRow_lt h4 e; omega⟩
 ·exact Nat.lt_of_lt_of_le (ownsRow_lt h4 hk) U.size
theorem refRead_small {s:ByteArray} {x:ST} (h:(refRead s).1=some x):STOK x/\x.size<=100:=by
 obtain ⟨r1,r2⟩:=refRead_eq s
 cases hr:(readOf s).1 with
 | none=>rw [r2 hr] at h; cases h
 | some y =>
  rw [r1 y hr] at h
  obtain rfl:=Option.some.inj h
  obtain ⟨_,hz,_⟩:=readOf_small hr
  exact ⟨(readOf_ok hr).1,by rw [sizeS_erase]; exact hz⟩
theorem refRead_err {s:ByteArray} (h:(refRead s).1=none):((refRead s).2.1 != 0)=true:=by
 obtain ⟨r1,r2⟩:=refRead_eq s
 cases hr:(readOf s).1 with
 | none=>rw [r2 hr]; exact errOf_ne hr
 | some y=>rw [r1 y hr] at h; cases h
theorem refRead_fine {s:ByteArray} {x:ST} (h:(refRead s).1=some x):refRead s=(some x,0,0):=by
 obtain ⟨r1,r2⟩:=refRead_eq s
 cases hr:(readOf s).1 with
 | none=>rw [r2 hr] at h; cases h
 | some y =>
  rw [r1 y hr] at h ⊢
  obtain rfl:=Option.some.inj h
  rfl
theorem refFollowsB_any (s:ByteArray) (w:World) (rb:Nat) (Z:Nat->Prop) (L:List ST) (M:List Nat) (h:RBAt w rb Z L M) (hok:∀ x ∈ L,STOK x) (hsm:SmallL L) (hL:L.length<=40) :
  Calls Tryz.prog 91 #[.pointer (some ⟨rb,0,none⟩),.string s] w fun e w'=>e=.returned (.tuple #[.bool (followsR L s).1,.int .i64 (followsR L s).2.1,.int .i64 (followsR L s).2.2])/\Upd [] w w':=by
 have HRd:=hide (refRead_any s w)
 cases hr:(refRead s).1 with
 | none =>
  obtain ⟨k,p,hkp⟩:∃ k p,refRead s=(none,k,p):=⟨(refRead s).2.1,(refRead s).2.2,by rw [<- hr]⟩
  have HF:Hid (followsR L s=(false,k,p)):=by show _=_; unfold followsR; rw [hkp]
  have hne:(k != 0)=true:=by have:=refRead_err hr; rw [hkp] at this; exact this
  unfold RefReadDone at HRd
  rw [hkp] at HRd
  clear h hr hkp
  go_enter Tryz.func91,Tryz.ntmps91
  go_wp2_with (go_at_call 75; refine HRd.out.mono ?_; rintro e w2 ⟨hu2,rfl⟩; have Hu2:=hide hu2; clear hu2)
  go_ret3
  exact ⟨by rw [HF.out]; rfl,Hu2.out⟩
 | some x =>
  have hkp:=refRead_fine hr
  obtain ⟨hox,hsx⟩:=refRead_small hr
  have HF:Hid (followsR L s=(clashR (L++[contraT x]),0,0)):=by show _=_; unfold followsR; rw [hkp]
  unfold RefReadDone at HRd
  rw [hkp] at HRd
  obtain ⟨v,cs,c0,hrow⟩:=h.said
  have HC:=hide (fun (w2:World) (yb:Nat) (hu:Upd [] w w2) (hy:IsRS w2 (fun k=>w.heap.size<=k/\k < w2.heap.size) x yb)=>refFollows_any w2 L v cs x yb ((hrow.later hu (fun _ _=>by simp)).mono fun k _ hl=>hl) (hy.mono fun k _ hl=>hl) hok hox (fun y hy=>by have:=hsm y hy; omega) (by omega) (by omega))
  have hlt:=h.lt
  clear h hr hkp hrow
  go_enter Tryz.func91,Tryz.ntmps91
  go_wp2_with (first
   | (go_at_call 75; refine HRd.out.mono ?_; rintro e w2 ⟨hu2,yb,rfl,hy⟩; have c2:=(hu2.cell (p:=⟨rb,0,none⟩) hlt (by simp)).trans c0; have HC2:=hide (HC.out w2 yb hu2 hy); have Hu2:=hide hu2; clear hu2 hy)
   | (go_at_call 104; refine HC2.out.mono ?_; rintro e w3 ⟨rfl,hu3⟩; have Hu3:=hide hu3; clear hu3))
  go_ret3
  exact ⟨by rw [HF.out]; rfl,Hu2.out.trans Hu3.out⟩
theorem refSay_any (s:ByteArray) (w:World) (rb:Nat) (Z:Nat->Prop) (L:List ST) (M:List Nat) (h:RBAt w rb Z L M) (hok:∀ x ∈ L,STOK x) (hsm:SmallL L) (hL:L.length<=40) :
  Calls Tryz.prog 40 #[.pointer (some ⟨rb,0,none⟩),.string s] w fun e w'=>e=.returned (.tuple #[.int .i64 (sayR L s).1.1,.int .i64 (sayR L s).1.2.1,.int .i64 (sayR L s).1.2.2])/\RBAt w' rb (fun k=>(Z k\/w.heap.size<=k)/\k < w'.heap.size) (sayR L s).2 M/\Upd [rb] w w'/\Z rb:=by
 have HRd:=hide (refRead_any s w)
 obtain ⟨i0,hi,hz0,hz1,hz2⟩:=info_parts info_refSentP
 have Hown:=hide h.own
 cases hr:(refRead s).1 with
 | none =>
  obtain ⟨k,p,hkp⟩:∃ k p,refRead s=(none,k,p):=⟨(refRead s).2.1,(refRead s).2.2,by rw [<- hr]⟩
  have HF:Hid (sayR L s=((0,k,p),L)):=by show _=_; unfold sayR; rw [hkp]
  have hne:(k != 0)=true:=by have:=refRead_err hr; rw [hkp] at this; exact this
  unfold RefReadDone at HRd
  rw [hkp] at HRd
  have HW:=hide (fun (w':World) (U:Upd [] w w')=>h.wider U)
  clear h hr hkp
  go_enter Tryz.func40,Tryz.ntmps40
  go_wp2_with (go_at_call 75; refine HRd.out.mono ?_; rintro e w2 ⟨hu2,rfl⟩; have Hu2:=hide hu2; clear hu2)
  go_ret3
  exact ⟨by rw [HF.out]; rfl,by rw [HF.out]; exact HW.out _ Hu2.out,Hu2.out.mono (fun x hx _=>by cases hx),Hown.out⟩
 | some x =>
  have hkp:=refRead_fine hr
  obtain ⟨hox,hsx⟩:=refRead_small hr
  have HF:Hid (sayR L s=if 40<=L.length\/100 < (termsR (L++[x])).length then (((0:Int),(4:Int),(0:Int)),L) else ((((L.length:Nat):Int),(0:Int),(0:Int)),L++[x])):=by show _=_; unfold sayR; rw [hkp]
  unfold RefReadDone at HRd
  rw [hkp] at HRd
  obtain ⟨v,cs,mu,c0,cu,hrow,_⟩:=h.rows
  have Hcu:=hide cu
  clear cu
  have Hrow:=hide hrow
  have Hh:=hide h
  obtain ⟨a,cap,hv,hc1,hc2,hform⟩:=hrow.row.form
  subst hv
  obtain ⟨n,hn⟩:∃ n,cs.length=n:=⟨_,rfl⟩
  have hnL:L.length=n:=by rw [<- hn,hrow.len]
  rw [hn] at hc1 hform c0
  rw [hnL] at HF hL
  have HD:=hide (fun (w:World) (v:Value) (cs:List Nat) (hr:RSRow w (fun k=>k < w.heap.size) v (L++[x]) cs)=>refDrawn_any w (L++[x]) v cs hr (fun y hy=>by
    simp only [List.mem_append,List.mem_singleton] at hy
    rcases hy with hy | rfl
    ·exact hok y hy
    ·exact hox) (fun y hy=>by
    simp only [List.mem_append,List.mem_singleton] at hy
    rcases hy with hy | rfl
    ·have:=hsm y hy; omega
    ·omega) (by simp; omega))
  have Hn:=hide hn
  have hlt:=h.lt
  have Hform:=hide hform
  have cf:=h.free
  have Hc0:=hide c0
  have hone:Hid (∀ (k:Nat),∀ u ∈ [Value.pointer (some ⟨k,0,none⟩)],u.oneCell'=true):=(fun k u hu'=>by simp at hu'; subst hu'; rfl)
  have hlm:n+1<=maxLen:=by unfold maxLen; omega
  have hlb:(n+1) * 8<=140737488355328:=by omega
  unfold maxLen at hc2
  have HnL:=hide hnL
  clear h hr hkp hrow hform hn hnL
  go_enter Tryz.func40,Tryz.ntmps40
  go_upto_region 5 with (go_at_call 75; refine HRd.out.mono ?_; rintro e w2 ⟨hu2,yb,rfl,hy⟩; have HU2:=hide hu2; have Hy:=hide hy; have hs2:=hu2.size; have c2:=(hu2.cell (p:=⟨rb,0,none⟩) hlt (by simp)).trans c0; clear hu2 hy)
  clear c0 HRd
  go_cut [10] (fun mv wx=>Hid (wx.ownsRow w2.heap.size 117 1 mv n (ptrs cs)/\Upd [] w2 wx))
  case first =>
   by_cases hn0:n=0
   ·subst hn0
    have hcs:cs=[]:=List.length_eq_zero_iff.1 Hn.out
    have Hcs:=hide hcs
    clear hcs
    go_wp2_with (at_builtin; refine wpList_append_empty rfl _ _ rfl a cap rfl rfl ?_)
    go_meet
    case rel=>rw [Hcs.out]; exact ⟨⟨rfl,.inl ⟨rfl,rfl⟩⟩,Upd.refl _ _⟩
   ·have hpos:0 < n:=by omega
    obtain ⟨g0,rfl,hg1,_,hg3⟩:=Hform.out hpos
    have hnews0:Hid (∀ j u,(ptrs cs)[j]?=some u->w2.cell? ((⟨g0,0,none⟩:Addr).add j)=some u):=fun j u hu=>by
     unfold ptrs at hu
     rw [List.getElem?_map] at hu
     obtain ⟨c,hc,rfl⟩:=Option.map_eq_some_iff.1 hu
     have:=(HU2.out.cell (p:=⟨g0,j,none⟩) hg1 (by simp)).trans (hg3 j c hc)
     cases j <;> simpa [Addr.add] using this
    have hone0:Hid (∀ u ∈ ptrs cs,u.oneCell'=true):=fun u hu=>by
     unfold ptrs at hu
     obtain ⟨c,_,rfl⟩:=List.mem_map.1 hu
     rfl
    have hlen0:Hid ((ptrs cs).length=n * 1):=by show _=_; unfold ptrs; rw [List.length_map,Hn.out]; omega
    have Hrow0:Hid (w2.ownsRow w2.heap.size 117 1 (.slice none 0 0) 0 []):=⟨rfl,.inl ⟨rfl,rfl⟩⟩
    have hlm0:0+n<=maxLen:=by unfold maxLen; omega
    have hlb0:(0+n) * 8<=140737488355328:=by omega
    clear hg3 hg1
    go_wp2_with (at_builtin; go_must (refine wpList_append_lies _ rfl _ _ 92 rfl w2.heap.size 117 i0 (.pointer none) 1 8 Tryz.underlying92 hi hz0 hz1 hz2 rfl (by decide) _ _ _ rfl Hrow0.out ⟨g0,0,none⟩ n cap (ptrs cs) rfl hlen0.out hnews0.out hone0.out hpos hlm0 hlb0 (Nat.le_refl _) _ rfl ?_); intro g1 cap1 w1 hown1 hgrow1 hat1 hlt1)
    go_meet
    case rel=>exact ⟨by simpa using hown1,Upd.of_grown hgrow1⟩
  case rest =>
   obtain ⟨hown,hU⟩:=hcut.out
   have hs3:=hU.size
   have HU:=hide hU
   have hrw:=((Upd.refl [] wc).alloc (.cells #[.pointer (some ⟨yb,0,none⟩)] 117)).ownsRow hown (fun _ _=>by simp)
   have Hrw:=hide hrw
   have Hnews:Hid (∀ j u,[Value.pointer (some ⟨yb,0,none⟩)][j]?=some u->(wc.alloc (.cells #[.pointer (some ⟨yb,0,none⟩)] 117)).cell? ((⟨wc.heap.size,0,none⟩:Addr).add j)=some u):=World.news_of_block (heap_alloc_new _ _)
   have HUa:Hid (Upd [] w (wc.alloc (.cells #[.pointer (some ⟨yb,0,none⟩)] 117))):=((HU2.out.trans hU).alloc _)
   have Hfin:Hid (∀ g cp w3,(wc.alloc (.cells #[.pointer (some ⟨yb,0,none⟩)] 117)).grownBy w3 u10.ownBlock->(u10.ownBlock=some g\/g=(wc.alloc (.cells #[.pointer (some ⟨yb,0,none⟩)] 117)).heap.size)->w3.ownsRow w2.heap.size 117 1 (.slice (some ⟨g,0,none⟩) (n+1) cp) (n+1) (ptrs cs++[.pointer (some ⟨yb,0,none⟩)])->RSRow w3 (fun k=>((Z k/\k ≠ rb)/\mu.ownBlock ≠ some k)\/w.heap.size<=k) (.slice (some ⟨g,0,none⟩) (n+1) cp) (L++[x]) (cs++[yb])/\Upd [] w w3):=fun g cp w3 hg hat hown3=>by
    rw [<- Hn.out] at hown3 ⊢
    exact RSRow.snoc (Zx:=fun k=>w.heap.size<=k/\k < w2.heap.size) Hrow.out HUa.out (Hy.out.later (hU.alloc _) (fun _ _=>by simp)) (fun k hk=>⟨.inr hk.1,fun e=>by have:=own_geT hown e; omega⟩) (fun k hk=>by have:=own_geT hown hk; omega) hg hat hown3
   clear hcut c2 hrw hU
   go_upto_region 7 with (at_builtin; go_must (refine wpList_append_lies _ rfl _ _ 92 rfl w2.heap.size 117 i0 (.pointer none) 1 8 Tryz.underlying92 hi hz0 hz1 hz2 rfl (by decide) _ _ _ rfl Hrw.out ⟨wc.heap.size,0,none⟩ 1 1 [.pointer (some ⟨yb,0,none⟩)] rfl rfl Hnews.out (hone.out yb) (by decide) hlm hlb (by simp; omega) _ rfl ?_); intro g3 cap3 w3 hown3 hgrow3 hat3 hlt3)
   obtain ⟨hr3,hu3⟩:=Hfin.out g3 cap3 w3 hgrow3 hat3 hown3
   have HD3:=hide (HD.out w3 _ _ (hr3.mono fun k _ hl=>hl))
   have Hr3:=hide hr3
   have Hu3:=hide hu3
   have hs3':=hu3.size
   obtain ⟨nt,hnt⟩:∃ nt,(termsR (L++[x])).length=nt:=⟨_,rfl⟩
   have Hnt:=hide hnt
   rw [hnt] at HF
   have HU4:Hid (∀ w4,Upd [] w3 w4->Upd [] w w4/\w4.cell? ⟨rb,0,none⟩=some (.slice a n cap)/\∀ o,w4.frozen? ⟨rb,o,none⟩=false):=fun w4 hu4=>by
    have U:=hu3.trans hu4
    obtain ⟨v0,cs0,e1,_⟩:=Hh.out.said
    refine ⟨U,?_,fun o=>(U.frozen (p:=⟨rb,o,none⟩) hlt (by simp)).trans (cf o)⟩
    exact (U.cell (p:=⟨rb,0,none⟩) hlt (by simp)).trans Hc0.out
   clear hr3 hu3 hown3 hgrow3 hat3 hlt3 Hfin Hrw Hnews HUa hown HU HU2 Hy cf hnt hone hlm hlb HD
   by_cases h40:40<=n
   ·have h40':(40:Int)<=(n:Int):=by omega
    have HF2:Hid (sayR L s=((0,4,0),L)):=by show _=_; rw [HF.out,if_pos (.inl h40)]
    go_wp2_with (go_at_call 76; refine HD3.out.mono ?_; rintro e w4 ⟨wb,rfl,h4⟩; obtain ⟨U4,c4,f4⟩:=HU4.out w4 h4.1; have HU5:=hide U4; clear h4 U4)
    go_ret3
    exact ⟨by rw [HF2.out]; rfl,by rw [HF2.out]; exact Hh.out.wider HU5.out,HU5.out.mono (fun x hx _=>by cases hx),Hown.out⟩
   ·have h40':¬ (40:Int)<=(n:Int):=by omega
    by_cases h100:100 < nt
    ·have h100':(100:Int) < (nt:Int):=by omega
     have HF2:Hid (sayR L s=((0,4,0),L)):=by show _=_; rw [HF.out,if_pos (.inr h100)]
     go_wp2_with (go_at_call 76; refine HD3.out.mono ?_; rintro e w4 ⟨wb,rfl,h4⟩; obtain ⟨U4,c4,f4⟩:=HU4.out w4 h4.1; have HU5:=hide U4; obtain ⟨_,v5,vu5,cs5,hw5⟩:=h4; obtain ⟨g5,cap5,hv5⟩:=slice_len hw5.rowL; have k5:=hw5.c0; rw [hv5,Hnt.out] at k5; clear U4 hw5 hv5)
     go_ret3
     exact ⟨by rw [HF2.out]; rfl,by rw [HF2.out]; exact Hh.out.wider HU5.out,HU5.out.mono (fun x hx _=>by cases hx),Hown.out⟩
    ·have h100':¬ (100:Int) < (nt:Int):=by omega
     have HF2:Hid (sayR L s=(((n:Int),0,0),L++[x])):=by show _=_; rw [HF.out,if_neg (by omega)]
     go_wp2_with (go_at_call 76; refine HD3.out.mono ?_; rintro e w4 ⟨wb,rfl,h4⟩; obtain ⟨U4,c4,f4⟩:=HU4.out w4 h4.1; have HU5:=hide U4; have H45:=hide h4.1; obtain ⟨_,v5,vu5,cs5,hw5⟩:=h4; obtain ⟨g5,cap5,hv5⟩:=slice_len hw5.rowL; have k5:=hw5.c0; rw [hv5,Hnt.out] at k5; clear U4 hw5 hv5)
     go_ret3
     obtain ⟨p1,p2⟩:=RBAt.put (v:=.slice (some ⟨g3,0,none⟩) (n+1) cap3) (cs:=cs++[yb]) (L':=L++[x]) Hh.out HU5.out Hcu.out (Hr3.out.later H45.out (fun _ _=>by simp))
     exact ⟨by rw [HF2.out]; simp,by rw [HF2.out]; exact p1,p2,Hown.out⟩
theorem numL_any (n:Int) (w:World) :
  Calls Tryz.prog 30 #[.int .i64 n] w fun e w'=>e=.returned (.int .i64 n)/\w'=w:=by
 go_enter Tryz.func30,Tryz.ntmps30
 go_wp2
 go_ret
 exact ⟨rfl,rfl⟩
structure BothAt (w:World) (xb:Nat) (Z:Nat->Prop) (S:WS) (L:List ST) (M:List Nat):Prop where
 lt:xb < w.heap.size
 own:Z xb
 low:∀ k,Z k->0 < k/\k < w.heap.size
 ex:∃ bb rb Zb Zr,w.cell? ⟨xb,0,none⟩=some (.pointer (some ⟨bb,0,none⟩))/\w.cell? ⟨xb,1,none⟩=some (.pointer (some ⟨rb,0,none⟩))/\BookAt w bb Zb S/\RBAt w rb Zr L M/\(∀ k,Zb k->Z k/\¬ Zr k/\k ≠ xb)/\(∀ k,Zr k->Z k/\k ≠ xb)
 err:ErrTab w
 both:Both S L
theorem BothAt.later {w w':World} {K:List Nat} {xb:Nat} {Z:Nat->Prop} {S:WS} {L:List ST} {M:List Nat} (h:BothAt w xb Z S L M) (hu:Upd K w w') (hK:∀ k,Z k->k ∉ K) (h0:0 ∉ K):BothAt w' xb Z S L M:=by
 obtain ⟨bb,rb,Zb,Zr,c0,c1,hb,hr,z1,z2⟩:=h.ex
 exact ⟨Nat.lt_of_lt_of_le h.lt hu.size,h.own,fun k hk=>⟨(h.low k hk).1,Nat.lt_of_lt_of_le (h.low k hk).2 hu.size⟩,⟨bb,rb,Zb,Zr,(hu.cell (p:=⟨xb,0,none⟩) h.lt (hK _ h.own)).trans c0,(hu.cell (p:=⟨xb,1,none⟩) h.lt (hK _ h.own)).trans c1,hb.later hu (fun k hk=>hK k (z1 k hk).1),hr.later hu (fun k hk=>hK k (z2 k hk).1),z1,z2⟩,h.err.later hu h0,h.both⟩
def Left (w w':World) (xb:Nat) (Z:Nat->Prop) (S:WS) (L:List ST) (M:List Nat):Prop:=BothAt w' xb (fun k=>(Z k\/w.heap.size<=k)/\k < w'.heap.size) S L M/\∃ K,(∀ k ∈ K,Z k)/\Upd K w w'
theorem BothAt.left {w w':World} {xb:Nat} {Z:Nat->Prop} {S:WS} {L:List ST} {M:List Nat} (h:BothAt w xb Z S L M) (hu:Upd [] w w'):Left w w' xb Z S L M:=by
 obtain ⟨bb,rb,Zb,Zr,c0,c1,hb,hr,z1,z2⟩:=h.ex
 have hh:=h.later hu (fun _ _=>by simp) (by simp)
 have hp:0 < w.heap.size:=h.err.1
 have hs:=hu.size
 obtain ⟨bb,rb,Zb,Zr,c0,c1,hb,hr,z1,z2⟩:=hh.ex
 refine ⟨⟨hh.lt,⟨.inl h.own,hh.lt⟩,fun k hk=>⟨?_,hk.2⟩,⟨bb,rb,Zb,Zr,c0,c1,hb,hr,fun k hk=>⟨⟨.inl (z1 k hk).1,hb.low k hk⟩,(z1 k hk).2⟩,fun k hk=>⟨⟨.inl (z2 k hk).1,hr.low k hk⟩,(z2 k hk).2⟩⟩,hh.err,hh.both⟩,[],fun k hk=>(by cases hk),hu⟩
 rcases hk.1 with h1 | h1
 ·exact (h.low k h1).1
 ·omega
theorem BothAt.step {w w1 w2:World} {xb bb rb:Nat} {Z Zb Zr:Nat->Prop} {S S':WS} {L L':List ST} {M M':List Nat} {K1 K2:List Nat} (h:BothAt w xb Z S L M) (c0:w.cell? ⟨xb,0,none⟩=some (.pointer (some ⟨bb,0,none⟩))) (c1:w.cell? ⟨xb,1,none⟩=some (.pointer (some ⟨rb,0,none⟩)))
  (hr:RBAt w rb Zr L M) (z1:∀ k,Zb k->Z k/\¬ Zr k/\k ≠ xb) (z2:∀ k,Zr k->Z k/\k ≠ xb)
  (hb1:BookAt w1 bb (fun k=>(Zb k\/w.heap.size<=k)/\k < w1.heap.size) S') (hK1:∀ k ∈ K1,Zb k) (U1:Upd K1 w w1)
  (hr2:RBAt w2 rb (fun k=>(Zr k\/w1.heap.size<=k)/\k < w2.heap.size) L' M') (hK2:∀ k ∈ K2,Zr k) (U2:Upd K2 w1 w2) (hB:Both S' L'):Left w w2 xb Z S' L' M':=by
 have s1:=U1.size
 have s2:=U2.size
 have hp:0 < w.heap.size:=h.err.1
 have hlt:=h.lt
 have hrlow:=hr.low
 have U:Upd (K1++K2) w w2:=(U1.mono (fun x hx _=>by simp [hx])).trans' U2 (fun x hx _=>by simp [hx])
 have hKx:xb ∉ K1++K2:=fun hm=>by
  simp only [List.mem_append] at hm
  rcases hm with hm | hm
  ·exact (z1 _ (hK1 _ hm)).2.2 rfl
  ·exact (z2 _ (hK2 _ hm)).2 rfl
 have hZ:∀ k ∈ K1++K2,Z k:=fun k hm=>by
  simp only [List.mem_append] at hm
  rcases hm with hm | hm
  ·exact (z1 _ (hK1 _ hm)).1
  ·exact (z2 _ (hK2 _ hm)).1
 refine ⟨⟨Nat.lt_of_lt_of_le h.lt U.size,⟨.inl h.own,Nat.lt_of_lt_of_le h.lt U.size⟩,fun k hk=>⟨?_,hk.2⟩,⟨bb,rb,fun k=>(Zb k\/w.heap.size<=k)/\k < w1.heap.size,fun k=>(Zr k\/w1.heap.size<=k)/\k < w2.heap.size,(U.cell (p:=⟨xb,0,none⟩) h.lt hKx).trans c0,(U.cell (p:=⟨xb,1,none⟩) h.lt hKx).trans c1,hb1.later U2 (fun k hk hm=>?_),hr2,fun k hk=>⟨⟨?_,by omega⟩,fun hk2=>?_,?_⟩,fun k hk=>⟨⟨?_,hk.2⟩,?_⟩⟩,h.err.later U (fun hm=>by have:=(h.low 0 (hZ 0 hm)).1; omega),hB⟩,K1++K2,hZ,U⟩
 ·rcases hk.1 with h1 | h1
  ·exact (h.low k h1).1
  ·omega
 ·have h3:=hK2 k hm
  have h4:=hrlow k h3
  rcases hk.1 with h5 | h5
  ·exact (z1 k h5).2.1 h3
  ·omega
 ·exact hk.1.imp (fun h5=>(z1 k h5).1) id
 ·rcases hk2.1 with h3 | h3
  ·have h4:=hrlow k h3
   rcases hk.1 with h5 | h5
   ·exact (z1 k h5).2.1 h3
   ·omega
  ·omega
 ·rcases hk.1 with h5 | h5
  ·exact (z1 k h5).2.2
  ·omega
 ·exact hk.1.imp (fun h5=>(z2 k h5).1) (fun h5=>by omega)
 ·rcases hk.1 with h5 | h5
  ·exact (z2 k h5).2
  ·omega
theorem begun_any (w:World) (hE:ErrTab w):Calls Tryz.prog 22 #[] w fun e w'=>∃ xb,e=.returned (.tuple #[.pointer (some ⟨xb,0,none⟩),.bool true])/\BothAt w' xb (fun k=>w.heap.size<=k/\k < w'.heap.size) noWS [] []/\Upd [] w w':=by
 have HN:=hide (new_any w)
 have hp:=hE.1
 have HE:=hide hE
 clear hE
 go_enter Tryz.func22,Tryz.ntmps22
 go_wp2_with (go_at_call 49; refine HN.out.mono ?_; rintro e w2 ⟨bb,rfl,hb,hu⟩; have HB:=hide hb; have HU:=hide hu; clear hb hu)
 go_ret2
 have hb:=HB.out
 have hu:=HU.out
 have hs:=hu.size
 have hbl:=hb.lt
 refine ⟨w2.heap.size+1,rfl,⟨by simp,⟨by omega,by simp⟩,fun k hk=>⟨by omega,hk.2⟩,⟨bb,w2.heap.size,fun k=>w.heap.size<=k/\k < w2.heap.size,fun k=>k=w2.heap.size,by go_simp,by go_simp,hb.later (L:=[]) (((Upd.refl [] w2).alloc _).alloc _) (fun _ _=>by simp),?_,fun k hk=>⟨⟨hk.1,by simp; omega⟩,by omega,by omega⟩,fun k hk=>⟨⟨by omega,by simp; omega⟩,by omega⟩⟩,HE.out.later ((hu.alloc _).alloc _) (by simp),Both.none⟩,(hu.alloc _).alloc _⟩
 refine ⟨by simp; omega,fun o=>by go_simp,rfl,fun k hk=>by simp; omega,⟨.slice none 0 0,[],.slice none 0 0,by go_simp,by go_simp,⟨.inl ⟨rfl,rfl⟩,rfl,fun i c x hc=>by simp at hc⟩,⟨rfl,.inl ⟨rfl,rfl⟩⟩,fun k hk=>by cases hk⟩⟩
theorem sayL_any (s:ByteArray) (hmax:s.size<=maxLen) (w:World) (xb:Nat) (Z:Nat->Prop) (S:WS) (L:List ST) (M:List Nat) (h:BothAt w xb Z S L M) :
  Calls Tryz.prog 12 #[.pointer (some ⟨xb,0,none⟩),.string s] w fun e w'=>e=.returned (.bool true)/\Left w w' xb Z (sayOf S s).2 (sayR L s).2 M:=by
 obtain ⟨bb,rb,Zb,Zr,c0,c1,hb,hr,z1,z2⟩:=h.ex
 obtain ⟨e1,e2,e3,hB⟩:=h.both.say s
 have HS:=hide (say_any s w bb Zb S hmax hb h.err)
 have HR:=hide (fun (w1:World) (K:List Nat) (hK:∀ k ∈ K,Zb k) (U:Upd K w w1)=>refSay_any s w1 rb Zr L M (hr.later U (fun k hk hm=>(z1 k (hK k hm)).2.1 hk)) h.both.ok h.both.small (by rw [<- h.both.length]; exact h.both.saids))
 have Hfin:=hide (fun (w1 w2:World) (K1 K2:List Nat) hb1 hK1 U1 hr2 hK2 U2=>h.step (w1:=w1) (w2:=w2) (K1:=K1) (K2:=K2) (S':=(sayOf S s).2) (L':=(sayR L s).2) (M':=M) c0 c1 hr z1 z2 hb1 hK1 U1 hr2 hK2 U2 hB)
 have Hc1:Hid (∀ (w1:World) (K:List Nat),(∀ k ∈ K,Zb k)->Upd K w w1->w1.cell? ⟨xb,1,none⟩=some (.pointer (some ⟨rb,0,none⟩))):=fun w1 K hK U=>(U.cell (p:=⟨xb,1,none⟩) h.lt (fun hm=>(z1 _ (hK _ hm)).2.2 rfl)).trans c1
 clear h hb hr z1 z2 hB
 rw [e1,e2,e3] at HS
 obtain ⟨⟨r1,r2,r3⟩,hr⟩:∃ r,(sayR L s).1=r:=⟨_,rfl⟩
 rw [hr] at HS HR
 simp only at HS HR
 clear e1 e2 e3 hr c1
 go_enter Tryz.func12,Tryz.ntmps12
 go_wp2_with (first
  | (go_at_call 25; refine HS.out.mono ?_; rintro e w1 ⟨rfl,hb1,K1,hK1,U1⟩; have k1:=Hc1.out w1 K1 hK1 U1; have HR1:=hide (HR.out w1 K1 hK1 U1); have Hb1:=hide hb1; have HK1:=hide hK1; have HU1:=hide U1; clear hb1 hK1 U1)
  | (go_at_call 40; refine HR1.out.mono ?_; rintro e w2 ⟨rfl,hr2,hu2,hrz⟩; have Hr2:=hide hr2; have HU2:=hide hu2; have Hrz:=hide hrz; clear hr2 hu2 hrz)
  | (go_at_call 30; refine (numL_any _ _).mono ?_; rintro e w3 ⟨rfl,hw3⟩; rw [hw3]; clear hw3 w3))
 go_ret
 exact ⟨by simp,Hfin.out w1 w2 K1 [rb] Hb1.out HK1.out HU1.out Hr2.out (fun k hk=>by simp at hk; subst hk; exact Hrz.out) HU2.out⟩
theorem followsL_any (s:ByteArray) (hmax:s.size<=maxLen) (w:World) (xb:Nat) (Z:Nat->Prop) (S:WS) (L:List ST) (M:List Nat) (h:BothAt w xb Z S L M) :
  Calls Tryz.prog 50 #[.pointer (some ⟨xb,0,none⟩),.string s] w fun e w'=>e=.returned (.bool true)/\Left w w' xb Z S L M:=by
 obtain ⟨bb,rb,Zb,Zr,c0,c1,hb,hr,z1,z2⟩:=h.ex
 obtain ⟨e1,e2,e3⟩:=h.both.follows s
 have HS:=hide (follows_any s w bb Zb S hmax hb h.err)
 have HR:=hide (fun (w1:World) (K:List Nat) (hK:∀ k ∈ K,Zb k) (U:Upd K w w1)=>refFollowsB_any s w1 rb Zr L M (hr.later U (fun k hk hm=>(z1 k (hK k hm)).2.1 hk)) h.both.ok h.both.small (by rw [<- h.both.length]; exact h.both.saids))
 have Hfin:=hide (fun (w1 w2:World) (K1:List Nat) hb1 (hK1:∀ k ∈ K1,Zb k) (U1:Upd K1 w w1) (U2:Upd [] w1 w2)=>h.step (w1:=w1) (w2:=w2) (K1:=K1) (K2:=[]) (S':=S) (L':=L) (M':=M) c0 c1 hr z1 z2 hb1 hK1 U1 ((hr.later U1 (fun k hk hm=>(z1 k (hK1 k hm)).2.1 hk)).wider U2) (fun k hk=>(by cases hk)) U2 h.both)
 have Hc1:Hid (∀ (w1:World) (K:List Nat),(∀ k ∈ K,Zb k)->Upd K w w1->w1.cell? ⟨xb,1,none⟩=some (.pointer (some ⟨rb,0,none⟩))):=fun w1 K hK U=>(U.cell (p:=⟨xb,1,none⟩) h.lt (fun hm=>(z1 _ (hK _ hm)).2.2 rfl)).trans c1
 clear h hb hr z1 z2
 rw [e1,e2,e3] at HS
 obtain ⟨⟨r1,r2,r3⟩,hr⟩:∃ r,followsR L s=r:=⟨_,rfl⟩
 rw [hr] at HS HR
 simp only at HS HR
 clear e1 e2 e3 hr c1
 go_enter Tryz.func50,Tryz.ntmps50
 go_wp2_with (first
  | (go_at_call 26; refine HS.out.mono ?_; rintro e w1 ⟨rfl,hb1,K1,hK1,U1⟩; have k1:=Hc1.out w1 K1 hK1 U1; have HR1:=hide (HR.out w1 K1 hK1 U1); have Hb1:=hide hb1; have HK1:=hide hK1; have HU1:=hide U1; clear hb1 hK1 U1)
  | (go_at_call 91; refine HR1.out.mono ?_; rintro e w2 ⟨rfl,hu2⟩; have HU2:=hide hu2; clear hu2)
  | (go_at_call 30; refine (numL_any _ _).mono ?_; rintro e w3 ⟨rfl,hw3⟩; rw [hw3]; clear hw3 w3))
 go_ret
 exact ⟨by simp,Hfin.out w1 w2 K1 Hb1.out HK1.out HU1.out HU2.out⟩
theorem strRow_form {w:World} {base:Nat} {v:Value} {l:List ByteArray} (h:StrRow w base v l):∃ a cap,v=.slice a l.length cap/\l.length<=cap/\cap<=maxLen/\(0 < l.length->∃ g,a=some ⟨g,0,none⟩/\g < w.heap.size/\∀ (i:Nat) (t:ByteArray),l[i]?=some t->w.cell? ⟨g,i,none⟩=some (.string t)):=by
 rcases ownsRow_slice h with ⟨h1,h2⟩ | ⟨g,cap,h1,h2,h3⟩
 ·rw [h2]
  exact ⟨none,0,h1,Nat.le_refl _,by simp [maxLen],fun h=>absurd h (Nat.lt_irrefl _)⟩
 ·subst h1
  refine ⟨_,cap,rfl,h2,h3,fun _=>⟨g,rfl,ownsRow_lt h rfl,fun i t ht=>?_⟩⟩
  have hi:=(List.getElem?_eq_some_iff.1 ht).1
  have:=h.cellAt i (by omega)
  rw [this]
  simp [ht]
theorem sameTexts_any (w:World) (B1 B2:Nat) (v1 v2:Value) (l1 l2:List ByteArray) (h1:StrRow w B1 v1 l1) (h2:StrRow w B2 v2 l2) :
  Calls Tryz.prog 66 #[v1,v2] w fun e w'=>e=.returned (.bool (decide (l1=l2)))/\∃ n,w'=w.drewN n:=by
 obtain ⟨a1,cap1,hv1,c11,c12,f1⟩:=strRow_form h1
 obtain ⟨a2,cap2,hv2,c21,c22,f2⟩:=strRow_form h2
 subst hv1 hv2
 unfold maxLen at c12 c22
 by_cases hl:l1.length=l2.length
 ·obtain ⟨n,hn⟩:∃ n,l1.length=n:=⟨_,rfl⟩
  have hn2:l2.length=n:=by rw [<- hl,hn]
  rw [hn] at c11 f1 ⊢
  rw [hn2] at c21 f2 ⊢
  have F1:=hide f1
  have F2:=hide f2
  have Hn:=hide hn
  have Hn2:=hide hn2
  clear f1 f2 hn hn2 hl h1 h2
  go_enter Tryz.func66,Tryz.ntmps66
  go_wp2
  go_loopw [5] (fun i wr=>∃ j m:Nat,j<=n/\i=.int .i64 j/\wr=w.drewN m/\Hid (∀ q,q < j->l1[q]?=l2[q]?)) (fun i _=>n - (intOf i).toNat)
  case atStart=>exact ⟨0,0,Nat.zero_le _,rfl,rfl,fun q hq=>by omega⟩
  case round =>
   obtain ⟨j,m,hj,rfl,rfl,HJ⟩:=hrel
   by_cases hjn:j < n
   ·have hjI:(j:Int) < (n:Int):=by omega
    obtain ⟨x,hx⟩:∃ x,l1[j]?=some x:=⟨_,List.getElem?_eq_getElem (by rw [Hn.out]; exact hjn)⟩
    obtain ⟨y,hy⟩:∃ y,l2[j]?=some y:=⟨_,List.getElem?_eq_getElem (by rw [Hn2.out]; exact hjn)⟩
    obtain ⟨g1,rfl,_,k1⟩:=F1.out (by omega)
    obtain ⟨g2,rfl,_,k2⟩:=F2.out (by omega)
    have q1:=k1 j x hx
    have q2:=k2 j y hy
    have Hx:=hide hx
    have Hy:=hide hy
    clear k1 k2 hx hy
    by_cases he:x=y
    ·subst he
     go_wp2_with fail
     go_quiet (fail)
     go_wp2
     refine ⟨⟨j+1,_,by omega,by simp,rfl,fun q hq=>?_⟩,by simp [intOf]; omega⟩
     by_cases e:q < j
     ·exact HJ.out q e
     ·obtain rfl:q=j:=by omega
      rw [Hx.out,Hy.out]
    ·have he2:=toList_ne he
     have HF:Hid (decide (l1=l2)=false):=by
      show _=_
      rw [decide_eq_false_iff_not]
      rintro rfl
      have:=Hx.out
      rw [Hy.out] at this
      exact he (Option.some.inj this).symm
     go_wp2_with fail
     go_quiet (fail)
     go_wp2
     go_ret
     exact ⟨by rw [HF.out]; rfl,m+nq,by simp⟩
   ·have hjI:¬ (j:Int) < (n:Int):=by omega
    have HF:Hid (decide (l1=l2)=true):=by
     show _=_
     rw [decide_eq_true_eq]
     refine List.ext_getElem? fun q=>?_
     by_cases e:q < j
     ·exact HJ.out q e
     ·rw [List.getElem?_eq_none (by rw [Hn.out]; omega),List.getElem?_eq_none (by rw [Hn2.out]; omega)]
    go_wp2
    go_ret
    exact ⟨by rw [HF.out]; rfl,m,rfl⟩
 ·have hl2:¬ (l1.length:Int)=(l2.length:Int):=by omega
  have hl3:((l1.length:Int) == (l2.length:Int))=false:=by simp; omega
  have HF:Hid (decide (l1=l2)=false):=by
   show _=_
   rw [decide_eq_false_iff_not]
   rintro rfl
   exact hl rfl
  clear f1 f2 h1 h2 hl
  go_enter Tryz.func66,Tryz.ntmps66
  go_wp2
  go_ret
  exact ⟨by rw [HF.out]; rfl,0,rfl⟩
theorem refText_any (w:World) (Z:Nat->Prop) (x:ST) (b:Nat) (h:IsRS w Z x b) (hl:x.l.text.size<=100000) (hr:x.r.text.size<=100000) :
  Calls Tryz.prog 68 #[.pointer (some ⟨b,0,none⟩)] w fun e w'=>e=.returned (.string x.text)/\∃ n,w'=w.drewN n:=by
 obtain ⟨lb,rb,s1,s2,s3,s4⟩:=h.sides
 have x0:=h.eq
 have t1:=s3.text
 have t2:=s4.text
 obtain ⟨TL,hTL⟩:∃ TL,x.l.text=TL:=⟨_,rfl⟩
 obtain ⟨TR,hTR⟩:∃ TR,x.r.text=TR:=⟨_,rfl⟩
 rw [hTL] at t1 hl
 rw [hTR] at t2 hr
 cases hxe:x.eq with
 | true =>
  rw [hxe] at x0
  have HF:Hid (x.text=TL++(⟨#[32,61,32]⟩:ByteArray)++TR):=by show _=_; unfold ST.text; rw [hxe,hTL,hTR]; rfl
  have hA1:∀ w,(Op.stringOp .add TL ⟨#[32,61,32]⟩).run Tryz.prog w=.ok (.string (TL++⟨#[32,61,32]⟩)) w:=fun w=>run_string_add_sum w _ _ (by show TL.size+3<=_; omega)
  have hsz:(TL++(⟨#[32,61,32]⟩:ByteArray)).size=TL.size+3:=by simp only [ByteArray.size_append]; rfl
  have hA2:∀ w,(Op.stringOp .add (TL++⟨#[32,61,32]⟩) TR).run Tryz.prog w=.ok (.string (TL++⟨#[32,61,32]⟩++TR)) w:=fun w=>run_string_add_sum w _ _ (by omega)
  clear h s3 s4 hxe hTL hTR hsz
  go_enter Tryz.func68,Tryz.ntmps68
  go_wp2_with fail
  go_quiet (fail)
  go_wp2
  go_ret
  exact ⟨by rw [HF.out]; rfl,_,rfl⟩
 | false =>
  rw [hxe] at x0
  have HF:Hid (x.text=TL++(⟨#[32,33,61,32]⟩:ByteArray)++TR):=by show _=_; unfold ST.text; rw [hxe,hTL,hTR]; rfl
  have hA1:∀ w,(Op.stringOp .add TL ⟨#[32,33,61,32]⟩).run Tryz.prog w=.ok (.string (TL++⟨#[32,33,61,32]⟩)) w:=fun w=>run_string_add_sum w _ _ (by show TL.size+4<=_; omega)
  have hsz:(TL++(⟨#[32,33,61,32]⟩:ByteArray)).size=TL.size+4:=by simp only [ByteArray.size_append]; rfl
  have hA2:∀ w,(Op.stringOp .add (TL++⟨#[32,33,61,32]⟩) TR).run Tryz.prog w=.ok (.string (TL++⟨#[32,33,61,32]⟩++TR)) w:=fun w=>run_string_add_sum w _ _ (by omega)
  clear h s3 s4 hxe hTL hTR hsz
  go_enter Tryz.func68,Tryz.ntmps68
  go_wp2_with fail
  go_quiet (fail)
  go_wp2
  go_ret
  exact ⟨by rw [HF.out]; rfl,_,rfl⟩
theorem Both.sides {S:WS} {L:List ST} (h:Both S L) {x:ST} (hx:x ∈ L):x.l.text.size<=1000/\x.r.text.size<=1000:=by
 obtain ⟨y,_,_,d1,d2⟩:=h.holds.said.fromR x hx
 have k:∀ (t:Trm) (i:Nat),DenE S t i->t.text.size<=1000:=fun t i d=>by
  have:=h.text.short (i+1) i
  rw [den_plain h.holds.fine.web.base d (i+1) (by omega)] at this
  rw [text_size]
  exact this
 exact ⟨k _ _ d1,k _ _ d2⟩
theorem saidL_any (w:World) (xb:Nat) (Z:Nat->Prop) (S:WS) (L:List ST) (M:List Nat) (h:BothAt w xb Z S L M) :
  Calls Tryz.prog 34 #[.pointer (some ⟨xb,0,none⟩)] w fun e w'=>∃ v,e=.returned (.tuple #[v,.bool true])/\Upd [] w w'/\StrRow w' w.heap.size v (saidOf S):=by
 obtain ⟨bb,rb,Zb,Zr,c0,c1,hb,hr,z1,z2⟩:=h.ex
 obtain ⟨i0,hi,hz0,hz1,hz2⟩:=info_parts info_str
 have HS:=hide (bookSaid_any w bb Zb S hb h.both.holds.tags h.both.text)
 obtain ⟨sv,cs,d0,hrow⟩:=hr.said
 obtain ⟨a,cap,hv,hc1,hc2,hform⟩:=hrow.row.form
 subst hv
 obtain ⟨n,hn⟩:∃ n,L.length=n:=⟨_,rfl⟩
 have hcs:cs.length=n:=by rw [hrow.len,hn]
 rw [hcs] at hc1 hform d0
 have hn40:n<=40:=by rw [<- hn,<- h.both.length]; exact h.both.saids
 have Hn:=hide hn
 have Hcs:=hide hcs
 have Hform:=hide hform
 have Hkids:=hide hrow.kids
 have Hsides:=hide (fun (x:ST) (hx:x ∈ L)=>h.both.sides hx)
 have HE:Hid (saidOf S=L.map ST.text):=h.both.holds.texts
 have hxlt:=h.lt
 have hrlt:=hr.lt
 have HC1:=hide c1
 have HD0:=hide d0
 unfold maxLen at hc2
 clear h hb hr z1 z2 hrow hform hn hcs c1 d0
 go_enter Tryz.func34,Tryz.ntmps34
 go_wp2_with (go_at_call 17; refine HS.out.mono ?_; rintro e w2 ⟨lv,rfl,hu2,hr2⟩; have HU2:=hide hu2; have HR2:=hide hr2; have hs2:=hu2.size; clear hu2 hr2)
 go_loopw [5,6] (fun mv i wr=>∃ j:Nat,j<=n/\i=.int .i64 j/\Hid (Upd [] w2 wr/\StrRow wr w2.heap.size mv ((L.map ST.text).take j))) (fun _ i _=>n - (intOf i).toNat)
 case atStart=>exact ⟨0,Nat.zero_le _,rfl,Upd.refl _ _,⟨rfl,.inl ⟨rfl,rfl⟩⟩⟩
 case round =>
  obtain ⟨j,hj,rfl,HJ⟩:=hrel
  obtain ⟨hU,hT⟩:=HJ.out
  have hUw:=HU2.out.trans hU
  have k1:=(hUw.cell (p:=⟨xb,1,none⟩) hxlt (by simp)).trans HC1.out
  have k2:=(hUw.cell (p:=⟨rb,0,none⟩) hrlt (by simp)).trans HD0.out
  clear c0
  by_cases hjn:j < n
  ·have hjI:(j:Int) < (n:Int):=by omega
   obtain ⟨x,hx⟩:∃ x,L[j]?=some x:=⟨_,List.getElem?_eq_getElem (by rw [Hn.out]; exact hjn)⟩
   obtain ⟨c,hc⟩:∃ c,cs[j]?=some c:=⟨_,List.getElem?_eq_getElem (by rw [Hcs.out]; exact hjn)⟩
   obtain ⟨g,rfl,hg1,_,hg3⟩:=Hform.out (by omega)
   have q0:=(hUw.cell (p:=⟨g,j,none⟩) hg1 (by simp)).trans (hg3 j c hc)
   obtain ⟨sz1,sz2⟩:=Hsides.out x (List.mem_of_getElem? hx)
   have HT:=hide (refText_any wr _ x c ((Hkids.out j c x hc hx).later hUw (fun _ _=>by simp)) (by omega) (by omega))
   have hxm:(L.map ST.text)[j]?=some x.text:=by rw [List.getElem?_map,hx]; rfl
   have hlj:((L.map ST.text).take j).length=j:=by rw [List.length_take,List.length_map,Hn.out]; omega
   obtain ⟨X,hX⟩:∃ X,x.text=X:=⟨_,rfl⟩
   rw [hX] at HT hxm
   have Hxm:=hide hxm
   have HTk:=hide hT
   have Hlj:=hide hlj
   have HUr:=hide hU
   have hsr:=hU.size
   have hone:Hid (∀ u ∈ [Value.string X],u.oneCell'=true):=(fun u hu'=>by simp at hu'; subst hu'; rfl)
   have hlm:j+1<=maxLen:=by unfold maxLen; omega
   have hlb:(j+1) * 16<=140737488355328:=by omega
   clear hX hx hc hg1 hg3 hxm hlj hT hU hUw sz1 sz2 HJ
   go_wp2_with (first
    | (go_at_call 68; refine HT.out.mono ?_; rintro e w4 ⟨rfl,m,hw4⟩; rw [hw4]; clear hw4 w4; have hrw:=(((Upd.refl [] wr).drewN m).alloc (.cells #[.string X] 9)).ownsRow HTk.out (fun _ _=>by simp); rw [Hlj.out] at hrw; have Hrw:=hide hrw; have Hnews:Hid (∀ j u,[Value.string X][j]?=some u->((wr.drewN m).alloc (.cells #[.string X] 9)).cell? ((⟨(wr.drewN m).heap.size,0,none⟩:Addr).add j)=some u):=World.news_of_block (heap_alloc_new _ _); clear hrw)
    | (at_builtin; go_must (refine wpList_append_lies _ rfl _ _ 50 rfl w2.heap.size 9 i0 (.string ⟨#[]⟩) 1 16 Tryz.underlying50 hi hz0 hz1 hz2 rfl (by decide) _ _ _ rfl Hrw.out ⟨wr.heap.size,0,none⟩ 1 1 [.string X] rfl rfl Hnews.out hone.out (by decide) hlm hlb (by simp; omega) _ rfl ?_); intro g1 cap1 w5 hown5 hgrow5 hat5 hlt5))
   refine ⟨⟨j+1,by omega,by simp,?_,?_⟩,by simp [intOf]; omega⟩
   ·exact ((HUr.out.drewN m).alloc _).trans' (show Upd u5.ownBlock.toList _ w5 from Upd.of_grown hgrow5) (fun k hk hl=>by
     have:=own_geT HTk.out (show u5.ownBlock=some k by simpa using hk)
     omega)
   ·unfold StrRow
    rw [take_succ_get Hxm.out,List.map_append,List.length_append,Hlj.out]
    exact hown5
  ·have hjI:¬ (j:Int) < (n:Int):=by omega
   have hje:(L.map ST.text).take j=L.map ST.text:=List.take_of_length_le (by rw [List.length_map,Hn.out]; omega)
   rw [hje] at hT
   have HSt:=hide (sameTexts_any wr _ _ lv _ (saidOf S) (L.map ST.text) (show StrRow wr w.heap.size lv (saidOf S) from hU.ownsRow HR2.out (fun _ _=>by simp)) hT)
   have HD:Hid (decide (saidOf S=L.map ST.text)=true):=by show _=_; rw [decide_eq_true_eq]; exact HE.out
   rw [HD.out] at HSt
   have HUw:=hide hUw
   have HUr:=hide hU
   clear hje hT hU hUw HJ
   go_wp2_with (go_at_call 66; refine HSt.out.mono ?_; rintro e w4 ⟨rfl,m,hw4⟩; rw [hw4]; clear hw4 w4)
   go_ret2
   exact ⟨_,rfl,HUw.out.drewN _,(HUr.out.drewN m).ownsRow HR2.out (fun _ _=>by simp)⟩
end Go.Proofs.YtmfkpllnmmfpiaaGreatDoor
