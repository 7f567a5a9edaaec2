/- WebWhy -/
import Derived.Test.YtmfkpllnmmfpiaaGreatDoorWhyOtherA
import Derived.Test.YtmfkpllnmmfpiaaGreatDoorPlacesA
import Derived.Maps.OwnIn
import Derived.Sort.CutIn
import Derived.RangeFuncBox
set_option maxHeartbeats 16000000
set_option maxRecDepth 100000
namespace Go.Proofs.YtmfkpllnmmfpiaaGreatDoor
open Go.RowKit Go.Shelf
attribute [local go_sem] Oper.semAt_some
structure WhyOne (w3 W:World) (ob B7 B8 Bp:Nat) (c:SntX) (xs:List SntX) (j jp:Nat):Prop where
 why:WhyAt w3 W ob (fun k=>k=B7\/k=B8\/k=Bp) (otherM c xs j)
 c7:W.cell? ⟨B7,0,none⟩=some (.pointer (some ⟨ob,0,none⟩))
 c8:W.cell? ⟨B8,0,none⟩=some (.slice (some ⟨Bp,0,none⟩) xs.length xs.length)
 pl:W.ownsRow w3.heap.size 3 1 (.slice (some ⟨Bp,0,none⟩) xs.length xs.length) xs.length (intsOf (trailsTo c xs jp))
 ne:B7 ≠ Bp/\B8 ≠ Bp/\B7 ≠ B8
 low:w3.heap.size<=B7/\w3.heap.size<=B8
theorem WhyOne.own {w3 W W':World} {ob B7 B8 Bp j jp:Nat} {c:SntX} {xs:List SntX} (h:WhyOne w3 W ob B7 B8 Bp c xs j jp) (U:Upd [] W W'):WhyOne w3 W' ob B7 B8 Bp c xs j jp:=by
 have l7:=h.why.mn B7 (.inl rfl)
 have l8:=h.why.mn B8 (.inr (.inl rfl))
 have hs:=U.size
 exact ⟨h.why.step U (fun k hk=>by cases hk) (fun k hk=>⟨by have:=h.why.mn k hk; omega,.inl hk⟩),(U.cell (p:=⟨B7,0,none⟩) l7 (by simp)).trans h.c7,(U.cell (p:=⟨B8,0,none⟩) l8 (by simp)).trans h.c8,U.ownsRow h.pl (fun _ _=>by simp),h.ne,h.low⟩
theorem WhyOne.place {w3 W:World} {ob B7 B8 Bp j:Nat} {c:SntX} {xs:List SntX} (h:WhyOne w3 W ob B7 B8 Bp c xs j j) (hj:j < xs.length):WhyOne w3 (W.setCell ⟨Bp,j,none⟩ (.int .i64 (otherM c xs j).trail.length)) ob B7 B8 Bp c xs j (j+1):=by
 have U:Upd [Bp] W (W.setCell ⟨Bp,j,none⟩ (.int .i64 (otherM c xs j).trail.length)):=(Upd.refl _ W).setCell (by simp) _
 have l7:=h.why.mn B7 (.inl rfl)
 have l8:=h.why.mn B8 (.inr (.inl rfl))
 have hs:=U.size
 obtain ⟨n1,n2,n3⟩:=h.ne
 refine ⟨h.why.step U (fun k hk=>?_) (fun k hk=>⟨by have:=h.why.mn k hk; omega,.inl hk⟩),(U.cell (p:=⟨B7,0,none⟩) l7 (by simpa using n1)).trans h.c7,(U.cell (p:=⟨B8,0,none⟩) l8 (by simpa using n2)).trans h.c8,?_,h.ne,h.low⟩
 ·simp only [List.mem_singleton] at hk
  subst hk
  exact ⟨own_ge h.pl (k:=k) rfl,.inr (.inr rfl)⟩
 ·rw [trailsTo_succ c xs j hj]
  exact ownsRow_set1 h.pl
theorem WhyOne.call {w3 W W':World} {ob B7 B8 Bp j j' jp:Nat} {c:SntX} {xs:List SntX} {Ho Ho':Hd} (h:WhyOne w3 W ob B7 B8 Bp c xs j jp) (hw:WebAt W ob Ho (fun k=>w3.heap.size<=k/\¬ (k=B7\/k=B8\/k=Bp)) (otherM c xs j)) (hw':WebAt W' ob Ho' (fun k=>(w3.heap.size<=k/\¬ (k=B7\/k=B8\/k=Bp))\/W.heap.size<=k) (otherM c xs j')) (U:Upd (Ho.blocks ob) W W'):WhyOne w3 W' ob B7 B8 Bp c xs j' jp:=by
 have l7:=h.why.mn B7 (.inl rfl)
 have l8:=h.why.mn B8 (.inr (.inl rfl))
 refine ⟨h.why.call hw hw' U,(U.cell (p:=⟨B7,0,none⟩) l7 (fun hm=>(hw.inZ _ hm).2 (.inl rfl))).trans h.c7,(U.cell (p:=⟨B8,0,none⟩) l8 (fun hm=>(hw.inZ _ hm).2 (.inr (.inl rfl)))).trans h.c8,U.ownsRow h.pl (fun k hk hm=>?_),h.ne,h.low⟩
 simp only [own_slice,Option.some.injEq] at hk
 subst hk
 exact (hw.inZ _ hm).2 (.inr (.inr rfl))
theorem wpIn_via {F:Fence} {n:Nat} {P:Program} {c:Code} {Q:Exit->Act->World->Prop} {a:Act} {w:World} (post:World->Prop) (h:∃ A1,c.wpIn F n P (fun e a' w'=>e=.normal/\a'=A1/\post w') a w/\∀ w',post w'->Q .normal A1 w'):c.wpIn F n P Q a w:=by
 obtain ⟨A1,h1,h2⟩:=h
 refine wpIn_mono h1 ?_
 rintro e a' w' ⟨rfl,rfl,h3⟩
 exact h2 w' h3
def onlyRet (Q:Exit->Act->World->Prop):Exit->Act->World->Prop
 | .normal,a,w=>Q .normal a w
 | .ret,a,w=>Q .ret a w
 | .exit _,_,_=>False
 | .goto _,_,_=>False
 | .panic _,_,_=>False
 | .outgrown,_,_=>False
theorem onlyRet_le {Q:Exit->Act->World->Prop}:∀ e a w,onlyRet Q e a w->Q e a w
 | .normal,_,_,h=>h
 | .ret,_,_,h=>h
 | .exit _,_,_,h=>h.elim
 | .goto _,_,_,h=>h.elim
 | .panic _,_,_,h=>h.elim
 | .outgrown,_,_,h=>h.elim
theorem webWhy_yes (w:World) (wb n:Nat) (H:Hd) (Z F:Nat->Prop) (S:WS) (l r:V3) (k:Int) (x:Snt n) (h:WebAt w wb H Z S) (hs:IsSnt w F n l k r x) (hFZ:∀ k,F k->¬ Z k) (hZ:∀ k,Z k->k < w.heap.size)
  (hF:Fine S) (hx:NarrowS x) (hz:sizeS x<=100) (hn:S.shapes.length<=100) (hsd:S.said.length<=40) (htag:∀ x ∈ S.said,x.1<=1) (hO:OtherOK ⟨n,contra x⟩ (sentsX S)) (hfo:followsM S x=true) :
  Calls Tryz.prog 61 #[.pointer (some ⟨wb,0,none⟩),.agg #[l.1,l.2.1,l.2.2,.int .i64 k,r.1,r.2.1,r.2.2]] w fun e w'=>∃ v m H',e=.returned (.tuple #[v,.bool true])/\w.heap.size<=m/\WebAt w' wb H' (fun k=>Z k\/(w.heap.size<=k/\k < m)) S/\Upd (H.blocks wb) w w'/\(∀ k ∈ H'.blocks wb,k ∈ H.blocks wb\/w.heap.size<=k)/\w'.ownsRow m 3 1 v (whyL (otherM ⟨n,contra x⟩ (sentsX S)) (sentsX S)).length (intsOf (whyL (otherM ⟨n,contra x⟩ (sentsX S)) (sentsX S))):=by
 obtain ⟨hl,hk,hr⟩:=hs
 obtain ⟨a,p,g,ll,cap,rfl⟩:=hl.form
 obtain ⟨a',p',g',ll',cap',rfl⟩:=hr.form
 simp only
 subst hk
 obtain ⟨A1,hA1⟩:∃ A1,A1=w.alloc (.cells #[.string a,.int .i64 p,.slice g ll cap,.int .i64 (signInt x.eq),.string a',.int .i64 p',.slice g' ll' cap'] 101):=⟨_,rfl⟩
 have U1:Upd [] w A1:=hA1 ▸ (Upd.refl [] w).alloc _
 have hA1s:A1.heap.size=w.heap.size+1:=by rw [hA1]; simp
 have b3:∀ o,o < 7->A1.cell? ⟨w.heap.size,o,none⟩=[Value.string a,.int .i64 p,.slice g ll cap,.int .i64 (signInt x.eq),.string a',.int .i64 p',.slice g' ll' cap'][o]?:=fun o ho=>by
  rw [hA1]
  match o,ho with
  | 0,_=>go_simp
  | 1,_=>go_simp
  | 2,_=>go_simp
  | 3,_=>go_simp
  | 4,_=>go_simp
  | 5,_=>go_simp
  | 6,_=>go_simp
  | o+7,ho=>omega
 have HFo:=hide (webFollows_any A1 wb n H Z (fun k=>F k/\k < w.heap.size) S (.string a,.int .i64 p,.slice g ll cap) (.string a',.int .i64 p',.slice g' ll' cap') (signInt x.eq) x (h.later U1 (fun _ _=>by simp)) ⟨(hl.mono (F':=fun k=>F k/\k < w.heap.size) fun k hk hl=>⟨hk,hl⟩).later U1 (fun _ _=>by simp),rfl,(hr.mono (F':=fun k=>F k/\k < w.heap.size) fun k hk hl=>⟨hk,hl⟩).later U1 (fun _ _=>by simp)⟩ (fun k hk=>hFZ k hk.1) (fun k hk=>by have:=hZ k hk; omega) hF hx (by omega) (by omega))
 rw [hfo] at HFo
 have Hcon:=hide (fun (w2:World)=>contrary_any w2 a a' p p' g g' ll cap ll' cap' x.eq)
 have HB:=hide hF.web.base
 have Hh:=hide h
 have HZ:=hide hZ
 have HFZ:=hide hFZ
 have Hl:=hide (hl.mono (F':=fun k=>F k/\k < w.heap.size) fun k hk hl=>⟨hk,hl⟩)
 have Hr:=hide (hr.mono (F':=fun k=>F k/\k < w.heap.size) fun k hk hl=>⟨hk,hl⟩)
 have HU1:=hide U1
 have HO:=hide hO
 have HSe:=hide (fun (w2:World) (H2:Hd) (Z2:Nat->Prop) (h2:WebAt w2 wb H2 Z2 S) (hz2:∀ k,Z2 k->k < w2.heap.size)=>webSents_any w2 wb H2 Z2 S h2 hF.web.base hz2 (by omega) htag)
 have HNew:=hide (fun (w3:World)=>webNew_any w3)
 have hNs:(sentsX S).length<=40:=by simp [sentsX]; exact hsd
 clear h hl hr hF hx hz hn hsd htag hO hfo hFZ hZ U1
 simp only at HFo
 generalize signInt x.eq=sg at *
 refine (callsIn_wide (n:=3)).1 ?_
 refine callsIn_of_wp_marks Tryz.func61 rfl trivial ?_ rfl
 refine wpIn_mono (Q:=onlyRet _) (wpIn_wide.2 ?_) onlyRet_le
 simp only [Tryz.ntmps61,List.size_toArray,List.length_cons,List.length_nil,Nat.reduceAdd,Nat.reduceSub,Array.replicate_succ,Array.replicate_zero,List.push_toArray,List.append_toArray,List.nil_append,List.cons_append]
 go_upto_region 1 with (fail)
 rw [<- hA1]
 clear hA1
 have c0:=b3 0 (by omega)
 have c1:=b3 1 (by omega)
 have c2:=b3 2 (by omega)
 have c3:=b3 3 (by omega)
 have c4:=b3 4 (by omega)
 have c5:=b3 5 (by omega)
 have c6:=b3 6 (by omega)
 simp at c0 c1 c2 c3 c4 c5 c6
 go_upto_region 3 with (go_at_call 60; refine HFo.out.mono ?_; rintro e w2 ⟨rfl,H2,hw2,hu2,hH2⟩; have Hw2:=hide hw2; have Hu2:=hide hu2; have HH2:=hide hH2; clear hw2 hu2 hH2)
 have hwb:w.heap.size ∉ H.blocks wb:=fun hm=>by have:=HZ.out _ (Hh.out.inZ _ hm); omega
 have hA1l:w.heap.size < A1.heap.size:=by omega
 have HC2:Hid (∀ o,w2.cell? ⟨w.heap.size,o,none⟩=A1.cell? ⟨w.heap.size,o,none⟩):=fun o=>Hu2.out.cell (p:=⟨w.heap.size,o,none⟩) hA1l hwb
 have hs2:=Hu2.out.size
 clear HFo
 go_upto_region 4 with (go_at_call 99; refine (HSe.out w2 H2 (fun k=>(Z k\/A1.heap.size<=k)/\k < w2.heap.size) (Hw2.out.mono (fun k hk hl=>⟨hk,hl⟩)) (fun k hk=>hk.2)).mono ?_; rintro e w3 ⟨v3,cs3,rfl,hu3,hrow3,hall3⟩; obtain ⟨g3,cap3,rfl⟩:=slice_len hrow3; have Hu3:=hide hu3; have Hrow3:=hide hrow3; have Hall3:=hide hall3; clear hu3 hrow3 hall3)
 clear HSe
 have hs3:=Hu3.out.size
 go_upto_region 5 with (go_at_call 90; refine (HNew.out w3).mono ?_; rintro e w4 ⟨ob,Ho,rfl,hw4,hu4⟩; have Hw4:=hide hw4; have Hu4:=hide hu4; clear hw4 hu4)
 clear HNew
 have hs4:=Hu4.out.size
 obtain ⟨A5,hA5⟩:∃ A5,A5=w4.alloc (.cells #[.pointer (some ⟨ob,0,none⟩)] 27):=⟨_,rfl⟩
 have U5:Upd [] w4 A5:=hA5 ▸ (Upd.refl [] w4).alloc _
 have hA5s:A5.heap.size=w4.heap.size+1:=by rw [hA5]; simp
 have hc7:A5.cell? ⟨w4.heap.size,0,none⟩=some (.pointer (some ⟨ob,0,none⟩)):=by rw [hA5]; go_simp
 rw [<- hA5]
 clear hA5
 have HC5:Hid (∀ o,A5.cell? ⟨w.heap.size,o,none⟩=A1.cell? ⟨w.heap.size,o,none⟩):=fun o=>((((Hu3.out.trans Hu4.out).trans U5).cell (p:=⟨w.heap.size,o,none⟩) (by show w.heap.size < _; omega) (by simp))).trans (HC2.out o)
 have d0:=(HC5.out 0).trans c0
 have d1:=(HC5.out 1).trans c1
 have d2:=(HC5.out 2).trans c2
 have d3:=(HC5.out 3).trans c3
 have d4:=(HC5.out 4).trans c4
 have d5:=(HC5.out 5).trans c5
 have d6:=(HC5.out 6).trans c6
 have HW5:Hid (WhyAt w3 A5 ob (fun k=>k=w4.heap.size) noWS):=by
  refine ⟨⟨Ho,((Hw4.out.mono (Z':=fun k=>w3.heap.size<=k/\k < w4.heap.size) (fun k hk hl=>⟨hk,hl⟩)).later U5 (fun _ _=>by simp)).mono (fun k hk _=>⟨hk.1,by omega⟩)⟩,fun k hk=>by omega,Hu4.out.trans U5⟩
 have HUall:Hid (Upd (H.blocks wb) A1 A5):=(Hu2.out).trans ((((Hu3.out.trans Hu4.out).trans U5)).mono (fun x hx _=>by cases hx))
 have HSay:Hid (∀ (u:World),Upd [] A5 u->∃ Hq,WebAt u ob Hq (fun k=>w3.heap.size<=k/\¬ k=w4.heap.size) noWS/\Calls Tryz.prog 57 #[.pointer (some ⟨ob,0,none⟩),.agg #[.string a,.int .i64 p,.slice g ll cap,.int .i64 (signInt (!x.eq)),.string a',.int .i64 p',.slice g' ll' cap']] u fun e w'=>∃ H',e=.returned (.tuple #[])/\WebAt w' ob H' (fun k=>(w3.heap.size<=k/\¬ k=w4.heap.size)\/u.heap.size<=k) (otherM ⟨n,contra x⟩ (sentsX S) 0)/\Upd (Hq.blocks ob) u w'):=fun u hu=>by
  obtain ⟨Hq,hq⟩:=HW5.out.other
  have hq':=hq.later hu (fun _ _=>by simp)
  refine ⟨Hq,hq',?_⟩
  have hU:Upd (H.blocks wb) w u:=((HU1.out.mono (fun x hx _=>by cases hx)).trans HUall.out).trans (hu.mono (fun x hx _=>by cases hx))
  have hnF:∀ k,F k/\k < w.heap.size->k ∉ H.blocks wb:=fun k hk hm=>HFZ.out k hk.1 (Hh.out.inZ k hm)
  have hO:=HO.out.first
  have hO2:sizeS (contra x)<=150:=hO.2
  have hc:=webSay_any u ob n Hq (fun k=>(w3.heap.size<=k/\¬ k=w4.heap.size)/\k < u.heap.size) (fun k=>F k/\k < w.heap.size) noWS (.string a,.int .i64 p,.slice g ll cap) (.string a',.int .i64 p',.slice g' ll' cap') (signInt (!x.eq)) (contra x) (hq'.mono (fun k hk hl=>⟨hk,hl⟩)) ⟨Hl.out.later hU hnF,rfl,Hr.out.later hU hnF⟩ (fun k hk hz=>by have:=hk.2; have:=hz.1.1; omega) (fun k hk=>hk.2) noWS_fine hO.1 (by simp [noWS]; omega) (by simp [noWS])
  refine hc.mono ?_
  rintro e w6 ⟨H6,he,hw6,hu6,_⟩
  exact ⟨H6,he,hw6.mono (fun k hk _=>hk.imp (fun h=>h.1) id),hu6⟩
 have hlt7:w4.heap.size < A5.heap.size:=by omega
 have HK5:Hid (∀ u,Upd [] A5 u->(∀ o,u.cell? ⟨w.heap.size,o,none⟩=A5.cell? ⟨w.heap.size,o,none⟩)/\u.cell? ⟨w4.heap.size,0,none⟩=some (.pointer (some ⟨ob,0,none⟩))):=fun u hu=>⟨fun o=>hu.cell (p:=⟨w.heap.size,o,none⟩) (by show w.heap.size < _; omega) (by simp),(hu.cell (p:=⟨w4.heap.size,0,none⟩) hlt7 (by simp)).trans hc7⟩
 have HK6:Hid (∀ (u w6:World) (Hq:Hd),Upd [] A5 u->WebAt u ob Hq (fun k=>w3.heap.size<=k/\¬ k=w4.heap.size) noWS->Upd (Hq.blocks ob) u w6->(∀ o,w6.cell? ⟨w.heap.size,o,none⟩=u.cell? ⟨w.heap.size,o,none⟩)/\w6.cell? ⟨w4.heap.size,0,none⟩=u.cell? ⟨w4.heap.size,0,none⟩):=fun u w6 Hq hu hq h6=>by
  have:=hu.size
  exact ⟨fun o=>h6.cell (p:=⟨w.heap.size,o,none⟩) (by show w.heap.size < _; omega) (fun hm=>by have h9:w3.heap.size<=w.heap.size:=(hq.inZ _ hm).1; omega),h6.cell (p:=⟨w4.heap.size,0,none⟩) (by show w4.heap.size < _; omega) (fun hm=>(hq.inZ _ hm).2 rfl)⟩
 clear c0 c1 c2 c3 c4 c5 c6 U5
 go_region_held3 (fun w'=>w'.cell? ⟨w4.heap.size,0,none⟩=some (.pointer (some ⟨ob,0,none⟩))/\w'.cell? ⟨w.heap.size,0,none⟩=some (.string a)/\w'.cell? ⟨w.heap.size,1,none⟩=some (.int .i64 p)/\w'.cell? ⟨w.heap.size,2,none⟩=some (.slice g ll cap)/\w'.cell? ⟨w.heap.size,3,none⟩=some (.int .i64 sg)/\w'.cell? ⟨w.heap.size,4,none⟩=some (.string a')/\w'.cell? ⟨w.heap.size,5,none⟩=some (.int .i64 p')/\w'.cell? ⟨w.heap.size,6,none⟩=some (.slice g' ll' cap')) ((first | go_keep | (refine ⟨?_,?_,?_,?_,?_,?_,?_,?_⟩ <;> go_simp)))
  (first
   | (go_at_call 98; refine (Hcon.out _).mono ?_; rintro e u ⟨rfl,hu⟩; have Hu:=hide ((Upd.refl [] A5).drew.trans hu); obtain ⟨z1,z2⟩:=HK5.out u Hu.out; have y0:=(z1 0).trans d0; have y1:=(z1 1).trans d1; have y2:=(z1 2).trans d2; have y3:=(z1 3).trans d3; have y4:=(z1 4).trans d4; have y5:=(z1 5).trans d5; have y6:=(z1 6).trans d6; clear hu z1)
   | (go_at_call 57; obtain ⟨Hq,hq,hcall⟩:=HSay.out u Hu.out; refine hcall.mono ?_; rintro e w6 ⟨H6,rfl,hw6,hu6⟩; obtain ⟨z3,z4⟩:=HK6.out u w6 Hq Hu.out hq hu6; have x0:=(z3 0).trans y0; have x1:=(z3 1).trans y1; have x2:=(z3 2).trans y2; have x3:=(z3 3).trans y3; have x4:=(z3 4).trans y4; have x5:=(z3 5).trans y5; have x6:=(z3 6).trans y6; have x7:=z4.trans z2; have Hq2:=hide hq; have Hw6:=hide hw6; have Hu6:=hide hu6; clear hq hw6 hu6 hcall z3 z4))
 have HW6:=hide (((HW5.out.step Hu.out (fun k hk=>by cases hk) (fun k hk=>⟨by have:=HW5.out.mn k hk; have:=Hu.out.size; omega,.inl hk⟩)):WhyAt w3 u ob (fun k=>k=w4.heap.size) noWS).call Hq2.out Hw6.out Hu6.out)
 have hs6:w4.heap.size < w6.heap.size:=HW6.out.mn _ rfl
 have hs36:=HW6.out.upd.size
 have hmk:=fun W=>run_make_row' (P:=Tryz.prog) 44 3 (.int .i64 0) 8 Tryz.underlying44 info_int rfl .i64 .i64 (sentsX S).length (by omega) (by omega) W
 obtain ⟨A8,hA8⟩:∃ A8,A8=(w6.alloc (.cells (madeCells #[.int .i64 0] (sentsX S).length) 3)).alloc (.cells #[.slice (some ⟨w6.heap.size,0,none⟩) (sentsX S).length (sentsX S).length] 44):=⟨_,rfl⟩
 have HOne:Hid (WhyOne w3 A8 ob w4.heap.size (w6.heap.size+1) w6.heap.size ⟨n,contra x⟩ (sentsX S) 0 0):=by
  have U8:Upd [] w6 A8:=hA8 ▸ (((Upd.refl [] w6).alloc _).alloc _)
  have e8:A8.heap.size=w6.heap.size+2:=by rw [hA8]; simp
  refine ⟨HW6.out.step U8 (fun k hk=>by cases hk) (fun k hk=>?_),(U8.cell (p:=⟨w4.heap.size,0,none⟩) hs6 (by simp)).trans x7,by rw [hA8]; go_simp,?_,⟨by omega,by omega,by omega⟩,⟨by omega,by omega⟩⟩
  ·rcases hk with rfl | rfl | rfl
   ·exact ⟨by omega,.inl rfl⟩
   ·exact ⟨by omega,.inr (by omega)⟩
   ·exact ⟨by omega,.inr (by omega)⟩
  ·rw [trailsTo_zero,hA8]
   exact ((Upd.refl [] _).alloc _).ownsRow (zeros_own w6 w3.heap.size (sentsX S).length hs36 (by unfold maxLen; omega)) (fun _ _=>by simp)
 have HU36:=hide HW6.out.upd
 have HU26:Hid (Upd (H.blocks wb) A1 w2):=Hu2.out
 clear HSay HK5 HK6 Hcon HW5 HUall HC2 HC5 HW6 Hw6 Hu6 Hq2 d0 d1 d2 d3 d4 d5 d6 y0 y1 y2 y3 y4 y5 y6 x0 x1 x2 x3 x4 x5 x6 x7 z2 hc7 hlt7 b3 Hw4 Hu4 Hl Hr HFZ
 go_upto_region 7 with (fail)
 rw [<- hA8]
 clear hA8 hmk
 have HGet:Hid (∀ j,j < (sentsX S).length->∃ (b:Nat) (a1:ByteArray) (p1:Int) (g1:Option Addr) (l1 d1:Nat) (k1:Int) (a2:ByteArray) (p2:Int) (g2:Option Addr) (l2 d2:Nat),g3=some ⟨b,0,none⟩/\b < w3.heap.size/\(∀ o,o < 7->w3.cell? ⟨b,j * 7+o,none⟩=[Value.string a1,.int .i64 p1,.slice g1 l1 d1,.int .i64 k1,.string a2,.int .i64 p2,.slice g2 l2 d2][o]?)/\∀ (hj:j < (sentsX S).length),IsX w3 (fun k=>k < w3.heap.size) ((.string a1,.int .i64 p1,.slice g1 l1 d1),k1,(.string a2,.int .i64 p2,.slice g2 l2 d2)) (sentsX S)[j]):=fun j hj=>by
  obtain ⟨b,hb⟩:∃ b,g3=some ⟨b,0,none⟩:=by
   rcases ownsRow_slice Hrow3.out with ⟨_,h0⟩ | ⟨b,cap,h1,_,_⟩
   ·omega
   ·cases h1; exact ⟨b,rfl⟩
  subst hb
  obtain ⟨q,hq,hiq⟩:=Hall3.out.get (i:=j) (List.getElem?_eq_getElem hj)
  have hcells:=row7_cells Hrow3.out hq
  obtain ⟨ql,qk,qr⟩:=q
  obtain ⟨a1,p1,g1,l1,d1,e1⟩:=hiq.1.form
  obtain ⟨a2,p2,g2,l2,d2,e2⟩:=hiq.2.2.form
  simp only at e1 e2
  subst e1 e2
  exact ⟨b,a1,p1,g1,l1,d1,qk,a2,p2,g2,l2,d2,rfl,ownsRow_lt Hrow3.out rfl,hcells,fun hj=>hiq.mono (fun k _ hl=>hl)⟩
 have hN40:((sentsX S).length:Int)<=40:=by omega
 generalize hxs:sentsX S=xs at *
 generalize hcc:(⟨n,contra x⟩:SntX)=c at *
 go_wp2_with fail
 go_loopw [31] (fun i wr=>∃ j:Nat,j<=xs.length/\i=.int .i64 j/\Hid (WhyOne w3 wr ob w4.heap.size (w6.heap.size+1) w6.heap.size c xs j j)) (fun i _=>xs.length - (intOf i).toNat)
 case atStart=>exact ⟨0,Nat.zero_le _,rfl,HOne.out⟩
 case round =>
  obtain ⟨j,hj,rfl,HJ⟩:=hrel
  clear HOne
  by_cases hjn:j < xs.length
  ·have hjI:(j:Int) < (xs.length:Int):=by omega
   obtain ⟨b,a1,p1,g1,l1,d1,k1,a2,p2,g2,l2,d2,rfl,hbl,hcs,hisx⟩:=HGet.out j hjn
   have U3:=HJ.out.why.upd
   have m0:wr.cell? ⟨b,j * 7,none⟩=some (.string a1):=(U3.cell (p:=⟨b,j * 7,none⟩) hbl (by simp)).trans (hcs 0 (by omega))
   have m1:wr.cell? ⟨b,j * 7+1,none⟩=some (.int .i64 p1):=(U3.cell (p:=⟨b,j * 7+1,none⟩) hbl (by simp)).trans (hcs 1 (by omega))
   have m2:wr.cell? ⟨b,j * 7+2,none⟩=some (.slice g1 l1 d1):=(U3.cell (p:=⟨b,j * 7+2,none⟩) hbl (by simp)).trans (hcs 2 (by omega))
   have m3:wr.cell? ⟨b,j * 7+3,none⟩=some (.int .i64 k1):=(U3.cell (p:=⟨b,j * 7+3,none⟩) hbl (by simp)).trans (hcs 3 (by omega))
   have m4:wr.cell? ⟨b,j * 7+4,none⟩=some (.string a2):=(U3.cell (p:=⟨b,j * 7+4,none⟩) hbl (by simp)).trans (hcs 4 (by omega))
   have m5:wr.cell? ⟨b,j * 7+5,none⟩=some (.int .i64 p2):=(U3.cell (p:=⟨b,j * 7+5,none⟩) hbl (by simp)).trans (hcs 5 (by omega))
   have m6:wr.cell? ⟨b,j * 7+6,none⟩=some (.slice g2 l2 d2):=(U3.cell (p:=⟨b,j * 7+6,none⟩) hbl (by simp)).trans (hcs 6 (by omega))
   obtain ⟨A10,hA10⟩:∃ A10,A10=wr.alloc (.cells #[.string a1,.int .i64 p1,.slice g1 l1 d1,.int .i64 k1,.string a2,.int .i64 p2,.slice g2 l2 d2] 101):=⟨_,rfl⟩
   have U10:Upd [] wr A10:=hA10 ▸ (Upd.refl [] wr).alloc _
   have e10:A10.heap.size=wr.heap.size+1:=by rw [hA10]; simp
   have HJ2:=hide (HJ.out.own U10)
   have q7:=HJ2.out.c7
   have q8:=HJ2.out.c8
   have hlen:=trailsTo_length c xs j
   have qp:=row1_cell HJ2.out.pl (i:=j) (by omega)
   have qf:=HJ2.out.pl.frozenAt j
   have n0:A10.cell? ⟨wr.heap.size,0,none⟩=some (.string a1):=by rw [hA10]; go_simp
   have n1:A10.cell? ⟨wr.heap.size,1,none⟩=some (.int .i64 p1):=by rw [hA10]; go_simp
   have n2:A10.cell? ⟨wr.heap.size,2,none⟩=some (.slice g1 l1 d1):=by rw [hA10]; go_simp
   have n3:A10.cell? ⟨wr.heap.size,3,none⟩=some (.int .i64 k1):=by rw [hA10]; go_simp
   have n4:A10.cell? ⟨wr.heap.size,4,none⟩=some (.string a2):=by rw [hA10]; go_simp
   have n5:A10.cell? ⟨wr.heap.size,5,none⟩=some (.int .i64 p2):=by rw [hA10]; go_simp
   have n6:A10.cell? ⟨wr.heap.size,6,none⟩=some (.slice g2 l2 d2):=by rw [hA10]; go_simp
   have HHe:Hid (∀ W,Upd [] A10 W->Calls Tryz.prog 56 #[.pointer (some ⟨ob,0,none⟩)] W fun e w'=>e=.returned (.int .i64 (otherM c xs j).trail.length)/\w'=W):=fun W hu=>by
    obtain ⟨Hq,hq⟩:=(HJ2.out.own hu).why.other
    exact here_any W ob Hq _ _ hq
   have HSay:Hid (∀ W,WhyOne w3 W ob w4.heap.size (w6.heap.size+1) w6.heap.size c xs j (j+1)->∃ Hq,WebAt W ob Hq (fun k=>w3.heap.size<=k/\¬ (k=w4.heap.size\/k=w6.heap.size+1\/k=w6.heap.size)) (otherM c xs j)/\Calls Tryz.prog 57 #[.pointer (some ⟨ob,0,none⟩),.agg #[.string a1,.int .i64 p1,.slice g1 l1 d1,.int .i64 k1,.string a2,.int .i64 p2,.slice g2 l2 d2]] W fun e w'=>∃ H',e=.returned (.tuple #[])/\WebAt w' ob H' (fun k=>(w3.heap.size<=k/\¬ (k=w4.heap.size\/k=w6.heap.size+1\/k=w6.heap.size))\/W.heap.size<=k) (otherM c xs (j+1))/\Upd (Hq.blocks ob) W w'):=fun W hW=>by
    obtain ⟨Hq,hq⟩:=hW.why.other
    refine ⟨Hq,hq,?_⟩
    obtain ⟨o1,o2⟩:=HO.out.narrow xs[j] (List.getElem_mem hjn)
    have o3:=HO.out.len j
    have o4:=HO.out.said j (by omega)
    have o5:sizeS xs[j].2<=150:=o2
    have hI:=(hisx hjn).later hW.why.upd (fun _ _=>by simp)
    have hc:=webSay_any W ob xs[j].1 Hq (fun k=>(w3.heap.size<=k/\¬ (k=w4.heap.size\/k=w6.heap.size+1\/k=w6.heap.size))/\k < W.heap.size) (fun k=>k < w3.heap.size) (otherM c xs j) (.string a1,.int .i64 p1,.slice g1 l1 d1) (.string a2,.int .i64 p2,.slice g2 l2 d2) k1 xs[j].2 (hq.mono (fun k hk hl=>⟨hk,hl⟩)) hI (fun k hk hz=>by have:=hz.1.1; omega) (fun k hk=>hk.2) (HO.out.fine j) o1 (by omega) (by omega)
    rw [<- (HO.out.succ j hjn).1] at hc
    refine hc.mono ?_
    rintro e w7 ⟨H7,he,hw7,hu7,_⟩
    exact ⟨H7,he,hw7.mono (fun k hk _=>hk.imp (fun h=>h.1) id),hu7⟩
   have HPl:=hide (HJ2.out.place hjn)
   generalize htl:(otherM c xs j).trail.length=tl at *
   have Hps:w6.heap.size < wr.heap.size:=HJ.out.why.mn _ (.inr (.inr rfl))
   have hpne:w6.heap.size ≠ wr.heap.size:=by omega
   clear U3 hcs
   go_upto_region 10 with (fail)
   rw [<- hA10]
   clear hA10 m0 m1 m2 m3 m4 m5 m6
   go_region_with (go_at_call 56; refine (HHe.out _ (by first | exact (Upd.refl [] A10).drew | exact Upd.refl [] A10)).mono ?_; rintro e w9 ⟨rfl,hw9⟩; rw [hw9]; clear hw9 w9)
   all_goals (
    have HA11:=hide (HPl.out.own (Upd.refl [] _).drew)
    obtain ⟨A11,hA11⟩:∃ A11,A11=(A10.setCell ⟨w6.heap.size,j,none⟩ (.int .i64 tl)).drew:=⟨_,rfl⟩
    have r7:=HA11.out.c7
    have hne7:wr.heap.size ≠ w6.heap.size:=by omega
    have n0':A11.cell? ⟨wr.heap.size,0,none⟩=some (.string a1):=by rw [hA11]; go_simp
    have n1':A11.cell? ⟨wr.heap.size,1,none⟩=some (.int .i64 p1):=by rw [hA11]; go_simp
    have n2':A11.cell? ⟨wr.heap.size,2,none⟩=some (.slice g1 l1 d1):=by rw [hA11]; go_simp
    have n3':A11.cell? ⟨wr.heap.size,3,none⟩=some (.int .i64 k1):=by rw [hA11]; go_simp
    have n4':A11.cell? ⟨wr.heap.size,4,none⟩=some (.string a2):=by rw [hA11]; go_simp
    have n5':A11.cell? ⟨wr.heap.size,5,none⟩=some (.int .i64 p2):=by rw [hA11]; go_simp
    have n6':A11.cell? ⟨wr.heap.size,6,none⟩=some (.slice g2 l2 d2):=by rw [hA11]; go_simp
    rw [<- hA11] at HA11 r7 ⊢
    clear hA11 n0 n1 n2 n3 n4 n5 n6 HPl HJ2 HHe q7 q8 qp qf
    obtain ⟨Hq,hq,hcall⟩:=HSay.out A11 HA11.out
    have HCall:=hide hcall
    have Hqq:=hide hq
    clear hcall hq HSay
    go_wp2_with (go_at_call 57; refine HCall.out.mono ?_; rintro e w7 ⟨H7,rfl,hw7,hu7⟩; have HN:=hide (HA11.out.call Hqq.out hw7 hu7); clear hw7 hu7)
    exact ⟨⟨j+1,by omega,by go_num,HN.out⟩,by simp [intOf]; omega⟩)
  ·obtain rfl:j=xs.length:=by omega
   have hge:¬ (xs.length:Int) < (xs.length:Int):=by omega
   have HBw:=hide (fun (W:World)=>backward_any g3 xs.length cap3 W)
   have hs3r:=HJ.out.why.upd.size
   obtain ⟨W0,hW0⟩:∃ W0,W0=((wr.alloc (.cells #[.slice none 0 0] 44)).alloc (.cells #[.slice none 0 0] 163)).alloc (.cells #[.slice g3 xs.length cap3] 163):=⟨_,rfl⟩
   have e0:W0.heap.size=wr.heap.size+3:=by rw [hW0]; simp
   have U0:Upd [] wr W0:=hW0 ▸ ((((Upd.refl [] wr).alloc _).alloc _).alloc _)
   have i11:W0.cell? ⟨wr.heap.size,0,none⟩=some (.slice none 0 0)/\W0.frozen? ⟨wr.heap.size,0,none⟩=false:=by rw [hW0]; exact ⟨by go_simp,by go_simp⟩
   have i12:W0.cell? ⟨wr.heap.size+1,0,none⟩=some (.slice none 0 0)/\W0.frozen? ⟨wr.heap.size+1,0,none⟩=false:=by rw [hW0]; exact ⟨by go_simp,by go_simp⟩
   have i13:W0.cell? ⟨wr.heap.size+2,0,none⟩=some (.slice g3 xs.length cap3):=by rw [hW0]; go_simp
   have l7:=HJ.out.why.mn w4.heap.size (.inl rfl)
   have l8:=HJ.out.why.mn (w6.heap.size+1) (.inr (.inl rfl))
   have HStart:Hid (∀ o,WhySt w3 ((W0.alloc (.deferred (some []))).alloc o) ob w4.heap.size (w6.heap.size+1) w6.heap.size wr.heap.size (wr.heap.size+1) (wr.heap.size+2) [w4.heap.size,w6.heap.size+1,w6.heap.size,wr.heap.size,wr.heap.size+1,wr.heap.size+2,W0.heap.size,W0.heap.size+1] (.slice g3 xs.length cap3) c xs (.slice none 0 0) (.slice none 0 0) [] [] (otherM c xs xs.length)):=fun o=>by
    have U:=((U0.alloc (.deferred (some []))).alloc o)
    have UW:=(((Upd.refl [] W0).alloc (.deferred (some []))).alloc o)
    have eo:((W0.alloc (.deferred (some []))).alloc o).heap.size=wr.heap.size+5:=by simp; omega
    have h1:=HJ.out.own U
    refine ⟨HJ.out.why.step U (fun k hk=>by cases hk) (fun k hk=>?_),h1.c7,h1.c8,h1.pl,(UW.cell (p:=⟨wr.heap.size,0,none⟩) (by show wr.heap.size < _; omega) (by simp)).trans i11.1,(UW.frozen (p:=⟨wr.heap.size,0,none⟩) (by show wr.heap.size < _; omega) (by simp)).trans i11.2,(UW.cell (p:=⟨wr.heap.size+1,0,none⟩) (by show wr.heap.size+1 < _; omega) (by simp)).trans i12.1,(UW.frozen (p:=⟨wr.heap.size+1,0,none⟩) (by show wr.heap.size+1 < _; omega) (by simp)).trans i12.2,(UW.cell (p:=⟨wr.heap.size+2,0,none⟩) (by show wr.heap.size+2 < _; omega) (by simp)).trans i13,World.ownsRow_nil _ _ _ _,⟨[],World.ownsRow_nil _ _ _ _,trivial⟩,fun k hk=>?_,?_,fun k hk=>?_,fun k hk=>?_,fun k hk=>?_,fun k hk=>?_⟩
    ·rcases hk with hk | hk | hk
     ·simp only [List.mem_cons,List.not_mem_nil,or_false] at hk
      omega
     ·simp [Value.ownBlock] at hk
     ·simp [Value.ownBlock] at hk
    ·simp only [List.mem_cons,List.not_mem_nil,or_false] at hk ⊢
     omega
    ·simp only [List.nodup_cons,List.mem_cons,List.not_mem_nil,or_false,not_or,List.nodup_nil,not_false_eq_true,and_true]
     omega
    ·simp [Value.ownBlock] at hk
    ·simp [Value.ownBlock] at hk
    ·simp [Value.ownBlock] at hk
    ·simp only [List.mem_cons,List.not_mem_nil,or_false] at hk
     omega
   go_upto_region 16 with (go_at_call 100; refine (HBw.out _).mono ?_; rintro e w9 ⟨rfl,hw9⟩; rw [hw9]; clear hw9 w9)
   rw [<- hW0]
   clear hW0 HJ HBw i11 i12 i13 hge hjn hj
   obtain ⟨B7,hB7⟩:∃ B,w4.heap.size=B:=⟨_,rfl⟩
   obtain ⟨Bp,hBp⟩:∃ B,w6.heap.size=B:=⟨_,rfl⟩
   obtain ⟨B11,hB11⟩:∃ B,wr.heap.size=B:=⟨_,rfl⟩
   obtain ⟨D,hD⟩:∃ D,W0.heap.size=D:=⟨_,rfl⟩
   rw [hB7,hBp,hB11,hD] at HStart
   have HQ:Hid ([B7,Bp+1,Bp,B11,B11+1,B11+2].Nodup/\D=B11+3/\B7 < Bp/\Bp+1 < B11):=by
    have:=(HStart.out (.deferred none)).nodup
    exact ⟨this,by omega,by omega,by omega⟩
   obtain ⟨cq,hcq⟩:∃ cq:Nat->V7,cq=fun i=>(cs3[i]?).getD ((.string ⟨#[]⟩,.int .i64 0,.slice none 0 0),0,(.string ⟨#[]⟩,.int .i64 0,.slice none 0 0)):=⟨_,rfl⟩
   have HCq:Hid (∀ i,i < xs.length->∃ (b:Nat) (a1:ByteArray) (p1:Int) (g1:Option Addr) (l1 d1:Nat) (k1:Int) (a2:ByteArray) (p2:Int) (g2:Option Addr) (l2 d2:Nat),g3=some ⟨b,0,none⟩/\b < w3.heap.size/\cq i=((.string a1,.int .i64 p1,.slice g1 l1 d1),k1,(.string a2,.int .i64 p2,.slice g2 l2 d2))/\(∀ o,o < 7->w3.cell? ⟨b,i * 7+o,none⟩=(v7 (cq i))[o]?)/\∀ (hi:i < xs.length),IsX w3 (fun k=>k < w3.heap.size) (cq i) xs[i]):=fun i hi=>by
    obtain ⟨b,hb⟩:∃ b,g3=some ⟨b,0,none⟩:=by
     rcases ownsRow_slice Hrow3.out with ⟨_,h0⟩ | ⟨b,cap,h1,_,_⟩
     ·omega
     ·cases h1; exact ⟨b,rfl⟩
    subst hb
    obtain ⟨q,hq,hiq⟩:=Hall3.out.get (i:=i) (List.getElem?_eq_getElem hi)
    have hcells:=row7_cells Hrow3.out hq
    have hcqi:cq i=q:=by rw [hcq]; simp only; rw [hq]; rfl
    rw [hcqi]
    obtain ⟨ql,qk,qr⟩:=q
    obtain ⟨a1,p1,g1,l1,d1,e1⟩:=hiq.1.form
    obtain ⟨a2,p2,g2,l2,d2,e2⟩:=hiq.2.2.form
    simp only at e1 e2
    subst e1 e2
    exact ⟨b,a1,p1,g1,l1,d1,qk,a2,p2,g2,l2,d2,rfl,ownsRow_lt Hrow3.out rfl,rfl,hcells,fun hj=>hiq.mono (fun k _ hl=>hl)⟩
   clear hcq HGet
   rw [hB7,hBp,hB11]
   have HD:=hide hD
   have hsz2:w.heap.size<=w2.heap.size/\w2.heap.size<=w3.heap.size:=by omega
   have HSz:=hide hsz2
   clear hD e0 hB7 hBp hB11 hA5s l7 l8 hs3r hs36 hs6 hs4 hs3 hs2 U0 hsz2
   refine (wpIn_wide (n:=3)).1 ?_
   refine range_law rfl (by omega) (gf:=131) (lb:=#[.pointer (some ⟨B11+2,0,none⟩)]) rfl trivial (enters_of Tryz.func131 (by kernel_rfl) rfl) (encs:=fun i:Nat=>#[.int .i64 (i:Int),agg7 (cq i)]) (N:=xs.length) (nth:=fun k=>xs.length - 1 - k) (RowRead (B11+2) g3 xs.length cap3 cq)
    (fun l J W hRD hY h0=>backward1_in Fence.wide (3 - 1) trivial rfl (by omega) l (B11+2) g3 xs.length cap3 cq (fun i hi=>by obtain ⟨b,a1,p1,g1,l1,d1,k1,a2,p2,g2,l2,d2,_,_,e,_⟩:=HCq.out i hi; rw [e]; exact ⟨a1,p1,g1,l1,d1,a2,p2,g2,l2,d2,rfl,rfl⟩) (by omega) J W hRD hY h0) (fun _=>rfl)
    (fun k W=>∃ nv ev,WhySt w3 W ob B7 (Bp+1) Bp B11 (B11+1) (B11+2) [B7,Bp+1,Bp,B11,B11+1,B11+2,D,D+1] (.slice g3 xs.length cap3) c xs nv ev (whyR (otherM c xs) xs k).1 (whyR (otherM c xs) xs k).2 (otherM c xs (xs.length - k))) ?rRd ?rPut ?rZero ?rRound ?rDone
   case rRd =>
    rintro k W ⟨nv,ev,h⟩
    refine ⟨h.cs,fun i hi=>?_⟩
    obtain ⟨b,a1,p1,g1,l1,d1,k1,a2,p2,g2,l2,d2,hb,hbl,e,hc,_⟩:=HCq.out i hi
    exact ⟨b,hb,fun o ho=>(h.why.upd.cell (p:=⟨b,i * 7+o,none⟩) hbl (by simp)).trans (hc o ho)⟩
   case rPut =>
    rintro k W o hlt ⟨nv,ev,h⟩
    rw [HD.out]
    refine ⟨nv,ev,h.put (by simp) (fun hm=>?_) o⟩
    have:=HQ.out
    simp only [List.mem_cons,List.not_mem_nil,or_false] at hm
    omega
   case rZero=>exact fun o=>⟨_,_,HStart.out o⟩
   case rRound =>
    rintro k W hk ⟨nv,ev,hst⟩ hlt
    rw [HD.out] at hlt ⊢
    obtain ⟨ns,es,hwr⟩:∃ ns es,whyR (otherM c xs) xs k=(ns,es):=⟨_,_,rfl⟩
    have hwl:=whyR_len (otherM c xs) xs k
    have HSub:=hide (whyR_sub (otherM c xs) xs k)
    rw [hwr] at hst hwl HSub
    simp only at hst hwl HSub
    obtain ⟨gn,capn,hnv⟩:=slice_len hst.nr
    obtain ⟨ge,cape,hev⟩:∃ g cap,ev=.slice g es.length cap:=by
     obtain ⟨ds,hr,_⟩:=hst.er
     exact slice_len hr
    subst hnv hev
    have hwr2:=hide hwr
    clear hwr
    obtain ⟨i,hi⟩:∃ i,xs.length - 1 - k=i:=⟨_,rfl⟩
    have hil:i < xs.length:=by omega
    obtain ⟨b,a1,p1,g1,l1,d1,k1,a2,p2,g2,l2,d2,hb,hbl,hcqi,hcs,hisx⟩:=HCq.out i hil
    clear hb hbl hcs
    have hIX:=hisx hil
    rw [hcqi] at hIX
    have HIX:=hide hIX
    simp only [hi,hcqi,agg7]
    have hst1:=(hst.alloc (.cells #[.string a1,.int .i64 p1,.slice g1 l1 d1,.int .i64 k1,.string a2,.int .i64 p2,.slice g2 l2 d2] 101))
    have hDm:D+1 ∈ [B7,Bp+1,Bp,B11,B11+1,B11+2,D,D+1]:=by simp
    have hDn:D+1 ∉ [B7,Bp+1,Bp,B11,B11+1,B11+2]:=fun hm=>by
     have:=HQ.out
     simp only [List.mem_cons,List.not_mem_nil,or_false] at hm
     omega
    have HSt1:=hide (fun o=>hst1.put (l:=D+1) (by simp) hDn o)
    have HT2:Hid (Two2 D W (W.alloc (.cells #[.string a1,.int .i64 p1,.slice g1 l1 d1,.int .i64 k1,.string a2,.int .i64 p2,.slice g2 l2 d2] 101))):=Two2.of_upd ((Upd.refl [] W).alloc _) hlt (by simp) (by simp)
    clear hst1 hisx hIX hst
    gi_wp2
    refine ⟨HT2.out,fun o=>?_⟩
    obtain ⟨W1,hW1⟩:∃ W1,W1=(W.alloc (.cells #[.string a1,.int .i64 p1,.slice g1 l1 d1,.int .i64 k1,.string a2,.int .i64 p2,.slice g2 l2 d2] 101)).putObj (D+1) o:=⟨_,rfl⟩
    have HS:=hide (HSt1.out o)
    have hDW:W.heap.size ∉ [D+1]:=by simp; omega
    have HN14:Hid (∀ q,W1.cell? ⟨W.heap.size,q,none⟩=(W.alloc (.cells #[.string a1,.int .i64 p1,.slice g1 l1 d1,.int .i64 k1,.string a2,.int .i64 p2,.slice g2 l2 d2] 101)).cell? ⟨W.heap.size,q,none⟩):=fun q=>by
     rw [hW1]
     exact (upd_putObj _ (D+1) o).cell (p:=⟨W.heap.size,q,none⟩) (by show W.heap.size < _; simp) hDW
    have n0:W1.cell? ⟨W.heap.size,0,none⟩=some (.string a1):=(HN14.out 0).trans (by go_simp)
    have n1:W1.cell? ⟨W.heap.size,1,none⟩=some (.int .i64 p1):=(HN14.out 1).trans (by go_simp)
    have n2:W1.cell? ⟨W.heap.size,2,none⟩=some (.slice g1 l1 d1):=(HN14.out 2).trans (by go_simp)
    have n3:W1.cell? ⟨W.heap.size,3,none⟩=some (.int .i64 k1):=(HN14.out 3).trans (by go_simp)
    have n4:W1.cell? ⟨W.heap.size,4,none⟩=some (.string a2):=(HN14.out 4).trans (by go_simp)
    have n5:W1.cell? ⟨W.heap.size,5,none⟩=some (.int .i64 p2):=(HN14.out 5).trans (by go_simp)
    have n6:W1.cell? ⟨W.heap.size,6,none⟩=some (.slice g2 l2 d2):=(HN14.out 6).trans (by go_simp)
    rw [<- hW1] at HS ⊢
    clear hW1 HSt1 HT2 HN14 hDn hDm
    have ek:xs.length - k=i+1:=by omega
    have ek1:xs.length - (k+1)=i:=by omega
    rw [ek] at HS
    rw [ek1]
    have q7:=HS.out.c7
    have q8:=HS.out.c8
    have hlen:=trailsTo_length c xs xs.length
    have qp:=row1_cell HS.out.pl (i:=i) (by omega)
    have eqp:(trailsTo c xs xs.length).getD i 0=(otherM c xs i).trail.length:=by rw [List.getD_eq_getElem?_getD,trailsTo_get c xs xs.length i hil,if_pos hil]; rfl
    rw [eqp] at qp
    have hiI:(i:Int) < (xs.length:Int):=by omega
    have HBk:Hid (∀ W2,Upd [] W1 W2->Calls Tryz.prog 59 #[.pointer (some ⟨ob,0,none⟩),.int .i64 (otherM c xs i).trail.length] W2 fun e w'=>e=.returned (.tuple #[])/\WhySt w3 w' ob B7 (Bp+1) Bp B11 (B11+1) (B11+2) [W.heap.size,B7,Bp+1,Bp,B11,B11+1,B11+2,D,D+1] (.slice g3 xs.length cap3) c xs (.slice gn ns.length capn) (.slice ge es.length cape) ns es (otherM c xs i)/\∀ q ∈ [W.heap.size,D,D+1],w'.heap[q]?=W1.heap[q]?):=fun W2 hu=>by
     have hS2:=HS.out.later hu
     obtain ⟨Hq,hq⟩:=hS2.why.other
     have hfi:=HO.out.fine (i+1)
     have hbk:=backTo_any W2 ob Hq _ (otherM c xs (i+1)) (otherM c xs i) hq (HO.out.succ i hil).2 (by have:=HO.out.len (i+1); have:=HO.out.said (i+1) (by omega); have:=(hfi.trail (by omega) (by omega)).1; omega)
     refine hbk.mono ?_
     rintro e w' ⟨he,H',hw',hu',_⟩
     refine ⟨he,hS2.call hq (hw'.mono (fun k hk _=>.inl hk)) hu',fun q hq2=>?_⟩
     have hqm:q ∈ [W.heap.size,B7,Bp+1,Bp,B11,B11+1,B11+2,D,D+1]:=by
      simp only [List.mem_cons,List.not_mem_nil,or_false] at hq2 ⊢
      omega
     exact (hS2.lies hq hu' hqm).trans (hu.block q (HS.out.lt hqm) (by simp))
    have HCw:Hid (∀ W2,WhySt w3 W2 ob B7 (Bp+1) Bp B11 (B11+1) (B11+2) [W.heap.size,B7,Bp+1,Bp,B11,B11+1,B11+2,D,D+1] (.slice g3 xs.length cap3) c xs (.slice gn ns.length capn) (.slice ge es.length cape) ns es (otherM c xs i)->Calls Tryz.prog 97 #[.pointer (some ⟨ob,0,none⟩),.slice ge es.length cape] W2 fun e w'=>e=.returned (.bool (clashM (sayAll (otherM c xs i) es)))/\WhySt w3 w' ob B7 (Bp+1) Bp B11 (B11+1) (B11+2) [W.heap.size,B7,Bp+1,Bp,B11,B11+1,B11+2,D,D+1] (.slice g3 xs.length cap3) c xs (.slice gn ns.length capn) (.slice ge es.length cape) ns es (otherM c xs i)/\∀ q ∈ [W.heap.size,D,D+1],w'.heap[q]?=W2.heap[q]?):=fun W2 hS2=>by
     obtain ⟨Hq,hq⟩:=hS2.why.other
     obtain ⟨ds,hr,ha⟩:=hS2.er
     obtain ⟨r1,r2⟩:=HO.out.room i es HSub.out
     have hcw:=clashWith_any W2 ob Hq _ (fun k=>k < w3.heap.size\/(Value.slice ge es.length cape).ownBlock=some k) (otherM c xs i) (.slice ge es.length cape) ds es hq (own_base0 hr) (fun k hk=>.inr hk) (ha.mono fun a b hab=>hab.mono fun k hk _=>.inl hk) (fun k hk hz=>hk.elim (fun h=>by have:=hz.1; omega) (fun h=>hz.2 (.inr (.inr h)))) (HO.out.fine i) r2 r1 (by have:=HO.out.said i (by omega); omega)
     refine hcw.mono ?_
     rintro e w' ⟨he,H',hw',hu',_⟩
     refine ⟨he,hS2.call hq hw' hu',fun q hq2=>hS2.lies hq hu' ?_⟩
     simp only [List.mem_cons,List.not_mem_nil,or_false] at hq2 ⊢
     omega
    generalize htl:(otherM c xs i).trail.length=tl at *

    have hmo:Tryz.prog.follows .mixedOrders=true:=by kernel_rfl
    gi_wp2
    refine wpIn_via (fun w11=>WhySt w3 w11 ob B7 (Bp+1) Bp B11 (B11+1) (B11+2) [W.heap.size,B7,Bp+1,Bp,B11,B11+1,B11+2,D,D+1] (.slice g3 xs.length cap3) c xs (.slice gn ns.length capn) (.slice ge es.length cape) ns es (otherM c xs i)/\∀ q ∈ [W.heap.size,D,D+1],w11.heap[q]?=W1.heap[q]?) ?_
    apply Exists.intro
    apply And.intro
    case left =>
     gi_region_with_o (first | gi_at_call 59 | (refine ⟨trivial,?_⟩; gi_at_call 59); refine (CallsIn.inRound (D+1) (callsIn_wide.2 (HBk.out _ (by first | exact (Upd.refl [] W1).drew | exact Upd.refl [] W1)))).mono ?_; rintro e w11 ⟨rfl,hs11,hb11⟩; have HS11:=hide hs11; have Hb11:=hide hb11; clear hs11 hb11)
     all_goals exact ⟨rfl,rfl,HS11.out,Hb11.out⟩
    case right =>
     clear HBk hmo q7 q8 qp
     rintro w11 ⟨hs11,hb11⟩
     have r7:=hs11.c7
     have r12:=hs11.c12
     have c14:∀ q,w11.cell? ⟨W.heap.size,q,none⟩=W1.cell? ⟨W.heap.size,q,none⟩:=fun q=>World.cell?_of_block (w:=W1) (hb11 _ (by simp))
     have HCl:=hide (HCw.out w11 hs11)
     have Hb11:=hide hb11
     have HC14:=hide c14
     clear hs11 hb11 HCw c14
     by_cases hcl:clashM (sayAll (otherM c xs i) es)=true
     ·have ewr:whyR (otherM c xs) xs (k+1)=(ns,es):=by
       have e2:xs.length - (k+1)=i:=by omega
       simp only [whyR,e2,hwr2.out]
       rw [if_pos hcl]
      have HEw:=hide ewr
      rw [hcl] at HCl
      clear ewr hcl
      gi_wp2_with (first | gi_at_call 97 | (refine ⟨trivial,?_⟩; gi_at_call 97); refine (CallsIn.inRound (D+1) (callsIn_wide.2 HCl.out)).mono ?_; rintro e w12 ⟨rfl,hs12,hb12⟩; have HS12:=hide hs12; have Hb12:=hide hb12; clear hs12 hb12)
      refine ⟨⟨(Hb12.out _ (by simp)).trans (Hb11.out _ (by simp)),(Hb12.out _ (by simp)).trans (Hb11.out _ (by simp))⟩,_,_,by rw [HEw.out]; exact HS12.out.less (fun q hq=>by simp only [List.mem_cons,List.not_mem_nil,or_false] at hq ⊢; omega)⟩
     ·have hcf:clashM (sayAll (otherM c xs i) es)=false:=by simpa using hcl
      have ewr:whyR (otherM c xs) xs (k+1)=(ns++[i],es++[xs[i]]):=by
       have e2:xs.length - (k+1)=i:=by omega
       simp only [whyR,e2,hwr2.out]
       rw [if_neg hcl,List.getElem?_eq_getElem hil]
       rfl
      have HEw:=hide ewr
      rw [hcf] at HCl
      clear ewr hcl hcf
      gi_upto_region 20 with (first | gi_at_call 97 | (refine ⟨trivial,?_⟩; gi_at_call 97); refine (CallsIn.inRound (D+1) (callsIn_wide.2 HCl.out)).mono ?_; rintro e w12 ⟨rfl,hs12,hb12⟩; have HS12:=hide hs12; have Hb12:=hide hb12; clear hs12 hb12)
      obtain ⟨i4,hi4,hz40,hz41,hz42⟩:=info_parts info_int
      obtain ⟨i7,hi7,hz70,hz71,hz72⟩:=info_parts info_readSent
      have hQD:D ≠ B11/\D+1 ≠ B11/\W.heap.size ≠ B11/\D ≠ B11+1/\D+1 ≠ B11+1/\W.heap.size ≠ B11+1:=by have:=HQ.out; omega
      have HQD:=hide hQD
      have r11:=HS12.out.c11
      have hrowN:(w12.alloc (.cells #[.int .i64 (i:Int)] 3)).ownsRow w3.heap.size 3 1 (.slice gn ns.length capn) ns.length (intsOf ns):=((Upd.refl [] w12).alloc _).ownsRow HS12.out.nr (fun _ _=>by simp)
      have hbase1:w3.heap.size<=(w12.alloc (.cells #[.int .i64 (i:Int)] 3)).heap.size:=by have:=HS12.out.why.upd.size; simp; omega
      have hlm1:ns.length+1<=maxLen:=by unfold maxLen; omega
      have hlb1:(ns.length+1) * 8<=140737488355328:=by omega
      have HGn:=hide (fun (w13:World) (X:Obj)=>(HS12.out.box_grown (w1:=w13) (X:=X)).1)
      have hne11:B11 ≠ w12.heap.size:=by have:=HS12.out.lt (HS12.out.inQ B11 (by simp)); omega
      have hone1:∀ u ∈ [Value.int .i64 (i:Int)],u.oneCell'=true:=by intro u hu'; simp at hu'; subst hu'; rfl
      clear hQD r12 r7 HCl
      gi_upto_region 21 with (gi_at_builtin; refine wpListIn_append_own_at _ rfl _ _ 44 rfl w3.heap.size 3 i4 (.int .i64 0) 1 8 Tryz.underlying44 hi4 hz40 hz41 hz42 rfl (by decide) (.slice gn ns.length capn) ns.length (intsOf ns) rfl hrowN ⟨w12.heap.size,0,none⟩ 1 1 [.int .i64 (i:Int)] rfl rfl (cell_one_new _ _ _) hone1 hlm1 hlb1 hbase1 ?_; intro v13 w13 hown13 hgrow13 hnil13 hat13; obtain ⟨g13,cap13,rfl⟩:=ownsRow_succ hown13; obtain ⟨s11,t11⟩:=HGn.out w13 _ hgrow13; have HN13:=hide (HS12.out.number hown13 hgrow13 hat13); have HL13:=hide (fun (q:Nat)=>HS12.out.number_lies (v':=.slice (some ⟨g13,0,none⟩) (ns.length+1) cap13) hgrow13 (q:=q)); clear hown13 hgrow13 hnil13 hat13)
      obtain ⟨w14,hw14⟩:∃ w14,w14=w13.setCell ⟨B11,0,none⟩ (.slice (some ⟨g13,0,none⟩) (ns.length+1) cap13):=⟨_,rfl⟩
      rw [<- hw14] at HN13 HL13 ⊢
      clear hw14 s11 t11 HGn hrowN hbase1 hlm1 hlb1 hone1 hne11 r11
      have k12:=HN13.out.c12
      obtain ⟨ds,hrE,haE⟩:=HN13.out.er
      have HrE:=hide hrE
      have HaE:=hide haE
      have C14:∀ q,w14.cell? ⟨W.heap.size,q,none⟩=W1.cell? ⟨W.heap.size,q,none⟩:=fun q=>(World.cell?_of_block (w:=w12) (HL13.out W.heap.size (by simp) HQD.out.2.2.1)).trans ((World.cell?_of_block (w:=w11) (Hb12.out _ (by simp))).trans (HC14.out q))
      have m0:=(C14 0).trans n0
      have m1:=(C14 1).trans n1
      have m2:=(C14 2).trans n2
      have m3:=(C14 3).trans n3
      have m4:=(C14 4).trans n4
      have m5:=(C14 5).trans n5
      have m6:=(C14 6).trans n6
      have hrowE:(w14.alloc (.cells #[.string a1,.int .i64 p1,.slice g1 l1 d1,.int .i64 k1,.string a2,.int .i64 p2,.slice g2 l2 d2] 101)).ownsRow w3.heap.size 101 7 (.slice ge es.length cape) es.length (flat7 ds):=((Upd.refl [] w14).alloc _).ownsRow hrE (fun _ _=>by simp)
      have hbase2:w3.heap.size<=(w14.alloc (.cells #[.string a1,.int .i64 p1,.slice g1 l1 d1,.int .i64 k1,.string a2,.int .i64 p2,.slice g2 l2 d2] 101)).heap.size:=by have:=HN13.out.why.upd.size; simp; omega
      have hlm2:es.length+1<=maxLen:=by unfold maxLen; omega
      have hlb2:(es.length+1) * 104<=140737488355328:=by omega
      have HGe:=hide (fun (w15:World) (X:Obj)=>(HN13.out.box_grown (w1:=w15) (X:=X)).2)
      have hnews2:=World.news_of_block (heap_alloc_new w14 (.cells #[.string a1,.int .i64 p1,.slice g1 l1 d1,.int .i64 k1,.string a2,.int .i64 p2,.slice g2 l2 d2] 101))
      have hone2:∀ u ∈ [Value.string a1,.int .i64 p1,.slice g1 l1 d1,.int .i64 k1,.string a2,.int .i64 p2,.slice g2 l2 d2],u.oneCell'=true:=by intro u hu'; simp at hu'; rcases hu' with rfl | rfl | rfl | rfl | rfl | rfl | rfl <;> rfl
      have hne12:B11+1 ≠ w14.heap.size:=by have:=HN13.out.lt (HN13.out.inQ (B11+1) (by simp)); omega
      have Hd:=hide (HIX.out.later HN13.out.why.upd (fun _ _=>by simp))
      clear hrE haE C14 n0 n1 n2 n3 n4 n5 n6
      gi_wp2_with (gi_at_builtin; refine wpListIn_append_own_at _ rfl _ _ 163 rfl w3.heap.size 101 i7 (.agg #[.string ⟨#[]⟩,.int .i64 0,.slice none 0 0,.int .i64 0,.string ⟨#[]⟩,.int .i64 0,.slice none 0 0]) 7 104 Tryz.underlying163 hi7 hz70 hz71 hz72 rfl (by decide) (.slice ge es.length cape) es.length (flat7 ds) rfl hrowE ⟨w14.heap.size,0,none⟩ 1 1 [.string a1,.int .i64 p1,.slice g1 l1 d1,.int .i64 k1,.string a2,.int .i64 p2,.slice g2 l2 d2] rfl rfl hnews2 hone2 hlm2 hlb2 hbase2 ?_; intro v15 w15 hown15 hgrow15 hnil15 hat15; obtain ⟨g15,cap15,rfl⟩:=ownsRow_succ hown15; obtain ⟨s12,t12⟩:=HGe.out w15 _ hgrow15; have HN15:=hide (HN13.out.sentence (d:=((.string a1,.int .i64 p1,.slice g1 l1 d1),k1,(.string a2,.int .i64 p2,.slice g2 l2 d2))) HrE.out HaE.out Hd.out hown15 hgrow15 hat15); have HL15:=hide (fun (q:Nat)=>HN13.out.sentence_lies (v':=.slice (some ⟨g15,0,none⟩) (es.length+1) cap15) hgrow15 (q:=q)); clear hown15 hgrow15 hnil15 hat15)
      refine ⟨⟨(HL15.out (D+1) (by simp) HQD.out.2.2.2.2.1).trans ((HL13.out (D+1) (by simp) HQD.out.2.1).trans ((Hb12.out _ (by simp)).trans (Hb11.out _ (by simp)))),(HL15.out D (by simp) HQD.out.2.2.2.1).trans ((HL13.out D (by simp) HQD.out.1).trans ((Hb12.out _ (by simp)).trans (Hb11.out _ (by simp))))⟩,_,_,by rw [HEw.out]; exact HN15.out.less (fun q hq=>by simp only [List.mem_cons,List.not_mem_nil,or_false] at hq ⊢; omega)⟩
   case rDone =>
    rintro W ⟨nv,ev,hst⟩ hlt hK
    rw [HD.out] at hK ⊢
    obtain ⟨ns,es,hwr⟩:∃ ns es,whyR (otherM c xs) xs xs.length=(ns,es):=⟨_,_,rfl⟩
    have hwl:=whyR_len (otherM c xs) xs xs.length
    have Hwl:Hid (whyL (otherM c xs) xs=ns.reverse):=by show _=_; unfold whyL; rw [hwr]
    rw [hwr] at hst hwl
    simp only at hst hwl
    obtain ⟨gn,capn,hnv⟩:=slice_len hst.nr
    subst hnv
    have HRv:=hide (reverse_any W w3.heap.size (.slice gn ns.length capn) ns hst.nr (by omega))
    have r11:=hst.c11
    have q11:=hst.inQ B11 (by simp)
    have HKp:Hid (∀ w',Upd (Value.slice gn ns.length capn).ownBlock.toList W w'->w'.cell? ⟨B11,0,none⟩=some (.slice gn ns.length capn)/\w'.heap[D]?=some (.deferred (some []))):=fun w' hu=>by
     have no:∀ q,q ∈ [B7,Bp+1,Bp,B11,B11+1,B11+2,D,D+1]->q ∉ (Value.slice gn ns.length capn).ownBlock.toList:=fun q hq hm=>hst.nQ q (by simpa using hm) hq
     exact ⟨(hu.cell (p:=⟨B11,0,none⟩) (hst.lt q11) (no _ q11)).trans hst.c11,(hu.block D (hst.lt (by simp)) (no D (by simp))).trans hK⟩
    have HSt:=hide hst
    clear hst hK hwr
    go_wp2_with (go_at_call 101; refine HRv.out.mono ?_; rintro e w20 ⟨rfl,hr20,hu20⟩; obtain ⟨s11,hK20⟩:=HKp.out w20 hu20; have HR20:=hide hr20; have HU20:=hide hu20; have HK20:=hide hK20; clear hr20 hu20 hK20)
    refine ⟨by simp,.inl ⟨_,_,rfl,run_takeDeferred HK20.out,?_⟩⟩
    have UD:Upd [D] w20 (w20.putObj D (.deferred none)):=upd_putObj _ _ _
    have hlow:w3.heap.size<=D:=HSt.out.low D (by simp)
    have hge:∀ q ∈ (Value.slice gn ns.length capn).ownBlock.toList,w3.heap.size<=q:=fun q hq=>own_ge HSt.out.nr (by simpa using hq)
    have U3:Upd [] w3 (w20.putObj D (.deferred none)):=(HSt.out.why.upd.trans' HU20.out (fun q hq hl=>by have:=hge q hq; omega)).trans' UD (fun q hq hl=>by simp only [List.mem_singleton] at hq; omega)
    have U2:Upd [] w2 (w20.putObj D (.deferred none)):=Hu3.out.trans U3
    have hnD:∀ q,(Value.slice gn ns.length capn).ownBlock=some q->q ∉ [D]:=fun q hq hm=>by
     simp only [List.mem_singleton] at hm
     subst hm
     exact HSt.out.nQ _ hq (by simp)
    refine ⟨_,results_tmp2 (fn:=Tryz.f61) (t:=4) (u:=5) rfl _ _ _,.slice gn ns.length capn,w2.heap.size,H2,rfl,HSz.out.1,?_,?_,?_,?_⟩
    ·exact ((Hw2.out.mono (Z':=fun k=>(Z k\/A1.heap.size<=k)/\k < w2.heap.size) (fun k hk hl=>⟨hk,hl⟩)).later U2 (fun _ _=>by simp)).mono (fun k hk _=>hk.1.elim .inl (fun h=>.inr ⟨by omega,hk.2⟩))
    ·exact ((HU1.out.mono (fun x hx _=>by cases hx)).trans HU26.out).trans (U2.mono (fun x hx _=>by cases hx))
    ·exact fun k hk=>(HH2.out k hk).imp id (fun h=>by omega)
    ·rw [hxs,hcc,Hwl.out,List.length_reverse]
     exact own_base (UD.ownsRow HR20.out hnD) HSz.out.2
end Go.Proofs.YtmfkpllnmmfpiaaGreatDoor
