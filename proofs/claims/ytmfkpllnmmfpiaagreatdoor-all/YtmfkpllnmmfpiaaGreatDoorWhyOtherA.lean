/- WhyHeap, WhyOther -/
import Derived.Test.YtmfkpllnmmfpiaaGreatDoorReverseA
import Derived.Test.YtmfkpllnmmfpiaaGreatDoorPlainTextA
set_option maxHeartbeats 16000000
set_option maxRecDepth 100000
namespace Go.Proofs.YtmfkpllnmmfpiaaGreatDoor
open Go.RowKit
structure WhyAt (w3 W:World) (ob:Nat) (Mn:Nat->Prop) (T:WS):Prop where
 other:∃ Ho,WebAt W ob Ho (fun k=>w3.heap.size<=k/\¬ Mn k) T
 mn:∀ k,Mn k->k < W.heap.size
 upd:Upd [] w3 W
theorem WhyAt.step {w3 W W':World} {ob:Nat} {Mn Mn':Nat->Prop} {T:WS} {L:List Nat} (h:WhyAt w3 W ob Mn T) (U:Upd L W W') (hL:∀ k ∈ L,w3.heap.size<=k/\Mn k) (hM:∀ k,Mn' k->k < W'.heap.size/\(Mn k\/W.heap.size<=k)):WhyAt w3 W' ob Mn' T:=by
 obtain ⟨Ho,hw⟩:=h.other
 refine ⟨⟨Ho,((hw.mono (Z':=fun k=>(w3.heap.size<=k/\¬ Mn k)/\k < W.heap.size) (fun k hk hl=>⟨hk,hl⟩)).later U (fun k hk hm=>hk.1.2 (hL k hm).2)).mono (fun k hk _=>⟨hk.1.1,fun hm=>?_⟩)⟩,fun k hk=>(hM k hk).1,h.upd.trans' U (fun x hx hl=>by have:=(hL x hx).1; omega)⟩
 rcases (hM k hm).2 with h1 | h1
 ·exact hk.1.2 h1
 ·have:=hk.2
  omega
theorem WhyAt.call {w3 W W':World} {ob:Nat} {Mn:Nat->Prop} {T T':WS} {Ho Ho':Hd} (h:WhyAt w3 W ob Mn T) (hw:WebAt W ob Ho (fun k=>w3.heap.size<=k/\¬ Mn k) T) (hw':WebAt W' ob Ho' (fun k=>(w3.heap.size<=k/\¬ Mn k)\/W.heap.size<=k) T') (U:Upd (Ho.blocks ob) W W'):WhyAt w3 W' ob Mn T':=by
 have hs:=h.upd.size
 refine ⟨⟨Ho',hw'.mono (fun k hk _=>?_)⟩,fun k hk=>Nat.lt_of_lt_of_le (h.mn k hk) U.size,h.upd.trans' U (fun x hx hl=>by have:=(hw.inZ x hx).1; omega)⟩
 rcases hk with hk | hk
 ·exact hk
 ·exact ⟨by omega,fun hm=>by have:=h.mn k hm; omega⟩
def trailsTo (c:SntX) (xs:List SntX) (j:Nat):List Nat:=(List.range xs.length).map fun i=>if i < j then (otherM c xs i).trail.length else 0
theorem trailsTo_length (c:SntX) (xs:List SntX) (j:Nat):(trailsTo c xs j).length=xs.length:=by simp [trailsTo]
theorem trailsTo_get (c:SntX) (xs:List SntX) (j i:Nat) (h:i < xs.length):(trailsTo c xs j)[i]?=some (if i < j then (otherM c xs i).trail.length else 0):=by
 unfold trailsTo
 rw [List.getElem?_map,List.getElem?_range h]
 rfl
theorem trailsTo_zero (c:SntX) (xs:List SntX):trailsTo c xs 0=List.replicate xs.length 0:=by
 refine List.ext_getElem? fun i=>?_
 by_cases h:i < xs.length
 ·rw [trailsTo_get c xs 0 i h,if_neg (by omega),List.getElem?_replicate,if_pos h]
 ·rw [List.getElem?_eq_none (by rw [trailsTo_length]; omega),List.getElem?_eq_none (by simp; omega)]
theorem trailsTo_succ (c:SntX) (xs:List SntX) (j:Nat) (hj:j < xs.length):trailsTo c xs (j+1)=(trailsTo c xs j).set j (otherM c xs j).trail.length:=by
 refine List.ext_getElem? fun i=>?_
 by_cases h:i < xs.length
 ·rw [trailsTo_get c xs (j+1) i h,List.getElem?_set,trailsTo_length,trailsTo_get c xs j i h]
  by_cases e:j=i
  ·subst e
   rw [if_pos rfl,if_pos hj,if_pos (by omega)]
  ·rw [if_neg e]
   by_cases hij:i < j
   ·rw [if_pos hij,if_pos (by omega)]
   ·rw [if_neg hij,if_neg (by omega)]
 ·rw [List.getElem?_eq_none (by rw [trailsTo_length]; omega),List.getElem?_eq_none (by simp [trailsTo_length]; omega)]
structure WhySt (w3 W:World) (ob B7 B8 Bp B11 B12 Bs:Nat) (Q:List Nat) (v3:Value) (c:SntX) (xs:List SntX) (nv ev:Value) (ns:List Nat) (es:List SntX) (T:WS):Prop where
 why:WhyAt w3 W ob (fun k=>k ∈ Q\/nv.ownBlock=some k\/ev.ownBlock=some k) T
 c7:W.cell? ⟨B7,0,none⟩=some (.pointer (some ⟨ob,0,none⟩))
 c8:W.cell? ⟨B8,0,none⟩=some (.slice (some ⟨Bp,0,none⟩) xs.length xs.length)
 pl:W.ownsRow w3.heap.size 3 1 (.slice (some ⟨Bp,0,none⟩) xs.length xs.length) xs.length (intsOf (trailsTo c xs xs.length))
 c11:W.cell? ⟨B11,0,none⟩=some nv
 f11:W.frozen? ⟨B11,0,none⟩=false
 c12:W.cell? ⟨B12,0,none⟩=some ev
 f12:W.frozen? ⟨B12,0,none⟩=false
 cs:W.cell? ⟨Bs,0,none⟩=some v3
 nr:W.ownsRow w3.heap.size 3 1 nv ns.length (intsOf ns)
 er:∃ ds,W.ownsRow w3.heap.size 101 7 ev es.length (flat7 ds)/\AllIs (IsX W (fun k=>k < w3.heap.size)) ds es
 inQ:∀ k ∈ [B7,B8,Bp,B11,B12,Bs],k ∈ Q
 nodup:[B7,B8,Bp,B11,B12,Bs].Nodup
 nQ:∀ k,nv.ownBlock=some k->k ∉ Q
 eQ:∀ k,ev.ownBlock=some k->k ∉ Q
 ne:∀ k,nv.ownBlock=some k->ev.ownBlock ≠ some k
 low:∀ k ∈ Q,w3.heap.size<=k
theorem WhySt.lt {w3 W:World} {ob B7 B8 Bp B11 B12 Bs:Nat} {Q:List Nat} {v3:Value} {c:SntX} {xs:List SntX} {nv ev:Value} {ns:List Nat} {es:List SntX} {T:WS} (h:WhySt w3 W ob B7 B8 Bp B11 B12 Bs Q v3 c xs nv ev ns es T) {k:Nat} (hk:k ∈ Q):k < W.heap.size:=h.why.mn k (.inl hk)
theorem WhySt.keep {w3 W W':World} {ob B7 B8 Bp B11 B12 Bs:Nat} {Q Q':List Nat} {v3:Value} {c:SntX} {xs:List SntX} {nv ev:Value} {ns:List Nat} {es:List SntX} {T T':WS} {L:List Nat} (h:WhySt w3 W ob B7 B8 Bp B11 B12 Bs Q v3 c xs nv ev ns es T) (U:Upd L W W') (hL:∀ k ∈ L,w3.heap.size<=k/\k ∉ [B7,B8,Bp,B11,B12,Bs]/\nv.ownBlock ≠ some k/\ev.ownBlock ≠ some k)
  (hw:WhyAt w3 W' ob (fun k=>k ∈ Q'\/nv.ownBlock=some k\/ev.ownBlock=some k) T') (hQ:∀ k ∈ [B7,B8,Bp,B11,B12,Bs],k ∈ Q') (hQ2:∀ k ∈ Q',k ∈ Q\/W.heap.size<=k):WhySt w3 W' ob B7 B8 Bp B11 B12 Bs Q' v3 c xs nv ev ns es T':=by
 have no:∀ k ∈ [B7,B8,Bp,B11,B12,Bs],k ∉ L:=fun k hk hm=>(hL k hm).2.1 hk
 have lt:∀ k ∈ [B7,B8,Bp,B11,B12,Bs],k < W.heap.size:=fun k hk=>h.lt (h.inQ k hk)
 have cell:∀ k ∈ [B7,B8,Bp,B11,B12,Bs],∀ o,W'.cell? ⟨k,o,none⟩=W.cell? ⟨k,o,none⟩:=fun k hk o=>U.cell (p:=⟨k,o,none⟩) (lt k hk) (no k hk)
 have froz:∀ k ∈ [B7,B8,Bp,B11,B12,Bs],∀ o,W'.frozen? ⟨k,o,none⟩=W.frozen? ⟨k,o,none⟩:=fun k hk o=>U.frozen (p:=⟨k,o,none⟩) (lt k hk) (no k hk)
 obtain ⟨ds,hr,ha⟩:=h.er
 have hs:=h.why.upd.size
 refine ⟨hw,(cell B7 (by simp) 0).trans h.c7,(cell B8 (by simp) 0).trans h.c8,U.ownsRow h.pl (fun k hk=>?_),(cell B11 (by simp) 0).trans h.c11,(froz B11 (by simp) 0).trans h.f11,(cell B12 (by simp) 0).trans h.c12,(froz B12 (by simp) 0).trans h.f12,(cell Bs (by simp) 0).trans h.cs,U.ownsRow h.nr (fun k hk hm=>(hL k hm).2.2.1 hk),⟨ds,U.ownsRow hr (fun k hk hm=>(hL k hm).2.2.2 hk),ha.mono fun a b hab=>hab.later U (fun k hk hm=>by have:=(hL k hm).1; omega)⟩,hQ,h.nodup,fun k hk hm=>?_,fun k hk hm=>?_,h.ne,fun k hk=>?_⟩
 ·simp only [own_slice,Option.some.injEq] at hk
  subst hk
  exact no Bp (by simp)
 ·rcases hQ2 k hm with h1 | h1
  ·exact h.nQ k hk h1
  ·have:=ownsRow_lt h.nr hk
   omega
 ·rcases hQ2 k hm with h1 | h1
  ·exact h.eQ k hk h1
  ·have:=ownsRow_lt hr hk
   omega
 ·rcases hQ2 k hk with h1 | h1
  ·exact h.low k h1
  ·omega
theorem WhySt.alloc {w3 W:World} {ob B7 B8 Bp B11 B12 Bs:Nat} {Q:List Nat} {v3:Value} {c:SntX} {xs:List SntX} {nv ev:Value} {ns:List Nat} {es:List SntX} {T:WS} (h:WhySt w3 W ob B7 B8 Bp B11 B12 Bs Q v3 c xs nv ev ns es T) (X:Obj):WhySt w3 (W.alloc X) ob B7 B8 Bp B11 B12 Bs (W.heap.size :: Q) v3 c xs nv ev ns es T:=by
 have U:=(Upd.refl [] W).alloc X
 refine h.keep U (fun k hk=>by cases hk) (h.why.step U (fun k hk=>by cases hk) (fun k hk=>?_)) (fun k hk=>by simp [h.inQ k hk]) (fun k hk=>?_)
 ·rcases hk with hk | hk
  ·simp only [List.mem_cons] at hk
   rcases hk with rfl | hk
   ·exact ⟨by simp,.inr (Nat.le_refl _)⟩
   ·have:=h.lt hk
    exact ⟨by simp; omega,.inl (.inl hk)⟩
  ·have:=h.why.mn k (.inr hk)
   exact ⟨by simp; omega,.inl (.inr hk)⟩
 ·simp only [List.mem_cons] at hk
  rcases hk with rfl | hk
  ·exact .inr (Nat.le_refl _)
  ·exact .inl hk
theorem upd_putObj (W:World) (l:Nat) (o:Obj):Upd [l] W (W.putObj l o):=Upd.of_grown (row:=some l) (grownBy_putObj' W l o)
theorem WhySt.put {w3 W:World} {ob B7 B8 Bp B11 B12 Bs:Nat} {Q:List Nat} {v3:Value} {c:SntX} {xs:List SntX} {nv ev:Value} {ns:List Nat} {es:List SntX} {T:WS} (h:WhySt w3 W ob B7 B8 Bp B11 B12 Bs Q v3 c xs nv ev ns es T) {l:Nat} (hl:l ∈ Q) (hl2:l ∉ [B7,B8,Bp,B11,B12,Bs]) (o:Obj):WhySt w3 (W.putObj l o) ob B7 B8 Bp B11 B12 Bs Q v3 c xs nv ev ns es T:=by
 have U:=upd_putObj W l o
 have hlow:=h.low l hl
 have hs:=U.size
 refine h.keep U (fun k hk=>?_) (h.why.step U (fun k hk=>?_) (fun k hk=>?_)) h.inQ (fun k hk=>.inl hk)
 ·simp only [List.mem_singleton] at hk
  subst hk
  exact ⟨hlow,hl2,fun e=>h.nQ k e hl,fun e=>h.eQ k e hl⟩
 ·simp only [List.mem_singleton] at hk
  subst hk
  exact ⟨hlow,.inl hl⟩
 ·have:=h.why.mn k hk
  exact ⟨by omega,.inl hk⟩
theorem WhySt.less {w3 W:World} {ob B7 B8 Bp B11 B12 Bs B:Nat} {Q:List Nat} {v3:Value} {c:SntX} {xs:List SntX} {nv ev:Value} {ns:List Nat} {es:List SntX} {T:WS} (h:WhySt w3 W ob B7 B8 Bp B11 B12 Bs (B :: Q) v3 c xs nv ev ns es T) (hQ:∀ k ∈ [B7,B8,Bp,B11,B12,Bs],k ∈ Q):WhySt w3 W ob B7 B8 Bp B11 B12 Bs Q v3 c xs nv ev ns es T:=by
 refine h.keep (Upd.refl [] W) (fun k hk=>by cases hk) (h.why.step (Upd.refl [] W) (fun k hk=>by cases hk) (fun k hk=>?_)) hQ (fun k hk=>.inl (by simp [hk]))
 have hk':k ∈ B :: Q\/nv.ownBlock=some k\/ev.ownBlock=some k:=hk.imp (fun h=>by simp [h]) id
 exact ⟨h.why.mn k hk',.inl hk'⟩
theorem WhySt.call {w3 W W':World} {ob B7 B8 Bp B11 B12 Bs:Nat} {Q:List Nat} {v3:Value} {c:SntX} {xs:List SntX} {nv ev:Value} {ns:List Nat} {es:List SntX} {T T':WS} {Ho Ho':Hd} (h:WhySt w3 W ob B7 B8 Bp B11 B12 Bs Q v3 c xs nv ev ns es T) (hw:WebAt W ob Ho (fun k=>w3.heap.size<=k/\¬ (k ∈ Q\/nv.ownBlock=some k\/ev.ownBlock=some k)) T) (hw':WebAt W' ob Ho' (fun k=>(w3.heap.size<=k/\¬ (k ∈ Q\/nv.ownBlock=some k\/ev.ownBlock=some k))\/W.heap.size<=k) T') (U:Upd (Ho.blocks ob) W W'):WhySt w3 W' ob B7 B8 Bp B11 B12 Bs Q v3 c xs nv ev ns es T':=by
 refine h.keep U (fun k hk=>?_) (h.why.call hw hw' U) h.inQ (fun k hk=>.inl hk)
 have hz:=hw.inZ k hk
 exact ⟨hz.1,fun hm=>hz.2 (.inl (h.inQ k hm)),fun e=>hz.2 (.inr (.inl e)),fun e=>hz.2 (.inr (.inr e))⟩
theorem WhySt.later {w3 W W':World} {ob B7 B8 Bp B11 B12 Bs:Nat} {Q:List Nat} {v3:Value} {c:SntX} {xs:List SntX} {nv ev:Value} {ns:List Nat} {es:List SntX} {T:WS} (h:WhySt w3 W ob B7 B8 Bp B11 B12 Bs Q v3 c xs nv ev ns es T) (U:Upd [] W W'):WhySt w3 W' ob B7 B8 Bp B11 B12 Bs Q v3 c xs nv ev ns es T :=
 h.keep U (fun k hk=>by cases hk) (h.why.step U (fun k hk=>by cases hk) (fun k hk=>⟨Nat.lt_of_lt_of_le (h.why.mn k hk) U.size,.inl hk⟩)) h.inQ (fun k hk=>.inl hk)
theorem WhySt.lies {w3 W W':World} {ob B7 B8 Bp B11 B12 Bs:Nat} {Q:List Nat} {v3:Value} {c:SntX} {xs:List SntX} {nv ev:Value} {ns:List Nat} {es:List SntX} {T:WS} {Ho:Hd} (h:WhySt w3 W ob B7 B8 Bp B11 B12 Bs Q v3 c xs nv ev ns es T) (hw:WebAt W ob Ho (fun k=>w3.heap.size<=k/\¬ (k ∈ Q\/nv.ownBlock=some k\/ev.ownBlock=some k)) T) (U:Upd (Ho.blocks ob) W W') {k:Nat} (hk:k ∈ Q):W'.heap[k]?=W.heap[k]?:=U.block k (h.lt hk) (fun hm=>(hw.inZ k hm).2 (.inl hk))
theorem WhySt.number {w3 W w1:World} {ob B7 B8 Bp B11 B12 Bs:Nat} {Q:List Nat} {v3:Value} {c:SntX} {xs:List SntX} {nv ev v':Value} {ns:List Nat} {es:List SntX} {T:WS} {X:Obj} {k0:Nat} (h:WhySt w3 W ob B7 B8 Bp B11 B12 Bs Q v3 c xs nv ev ns es T) (hown:w1.ownsRow w3.heap.size 3 1 v' (ns.length+1) (intsOf ns++[.int .i64 (k0:Nat)])) (hgrow:(W.alloc X).grownBy w1 nv.ownBlock) (hat:v'.ownBlock=nv.ownBlock\/v'.ownBlock=some (W.alloc X).heap.size) :
  WhySt w3 (w1.setCell ⟨B11,0,none⟩ v') ob B7 B8 Bp B11 B12 Bs Q v3 c xs v' ev (ns++[k0]) es T:=by
 have hs:=h.why.upd.size
 have hN:∀ k,v'.ownBlock=some k->nv.ownBlock=some k\/W.heap.size+1<=k:=fun k hk=>by
  rcases hat with e | e
  ·exact .inl (e ▸ hk)
  ·rw [hk] at e
   simp at e
   exact .inr (by omega)
 have hlt':∀ k,v'.ownBlock=some k->k < w1.heap.size:=fun k hk=>ownsRow_lt hown hk
 have B11Q:=h.inQ B11 (by simp)
 have hB11:=h.lt B11Q
 obtain ⟨n1,n2,n3,n4,n5,_⟩:B7 ≠ B11/\B8 ≠ B11/\Bp ≠ B11/\B12 ≠ B11/\Bs ≠ B11/\True:=by
  have:=h.nodup
  simp only [List.nodup_cons,List.mem_cons,not_or] at this
  obtain ⟨⟨a1,a2,a3,a4,a5,_⟩,⟨b1,b2,b3,b4,_⟩,⟨c1,c2,c3,_⟩,⟨d1,d2,_⟩,_⟩:=this
  exact ⟨a3,b2,c1,fun e=>d1 e.symm,fun e=>d2 e.symm,trivial⟩
 have U1:Upd nv.ownBlock.toList W w1:=((Upd.refl nv.ownBlock.toList W).alloc X).trans (Upd.of_grown hgrow)
 have U:Upd (B11 :: nv.ownBlock.toList) W (w1.setCell ⟨B11,0,none⟩ v'):=(U1.mono (fun x hx _=>by simp at hx ⊢; exact .inr hx)).setCell (by simp) _
 have hsz:w1.heap.size=(w1.setCell ⟨B11,0,none⟩ v').heap.size:=by simp [World.setCell]
 have no:∀ k ∈ [B7,B8,Bp,B12,Bs],k ∉ B11 :: nv.ownBlock.toList:=fun k hk hm=>by
  simp only [List.mem_cons,Option.mem_toList] at hm
  rcases hm with rfl | hm
  ·simp only [List.mem_cons,List.not_mem_nil,or_false] at hk
   rcases hk with e | e | e | e | e
   ·exact n1 e.symm
   ·exact n2 e.symm
   ·exact n3 e.symm
   ·exact n4 e.symm
   ·exact n5 e.symm
  ·refine h.nQ k hm (h.inQ k ?_)
   simp only [List.mem_cons,List.not_mem_nil,or_false] at hk ⊢
   omega
 have inn:∀ k ∈ [B7,B8,Bp,B12,Bs],k ∈ Q:=fun k hk=>h.inQ k (by simp only [List.mem_cons,List.not_mem_nil,or_false] at hk ⊢; omega)
 have cell:∀ k ∈ [B7,B8,Bp,B12,Bs],∀ o,(w1.setCell ⟨B11,0,none⟩ v').cell? ⟨k,o,none⟩=W.cell? ⟨k,o,none⟩:=fun k hk o=>U.cell (p:=⟨k,o,none⟩) (h.lt (inn k hk)) (no k hk)
 have froz:∀ k ∈ [B7,B8,Bp,B12,Bs],∀ o,(w1.setCell ⟨B11,0,none⟩ v').frozen? ⟨k,o,none⟩=W.frozen? ⟨k,o,none⟩:=fun k hk o=>U.frozen (p:=⟨k,o,none⟩) (h.lt (inn k hk)) (no k hk)
 have B11no:B11 ∉ nv.ownBlock.toList:=fun hm=>h.nQ B11 (by simpa using hm) B11Q
 have c11:=(U1.cell (p:=⟨B11,0,none⟩) hB11 B11no).trans h.c11
 have f11:=(U1.frozen (p:=⟨B11,0,none⟩) hB11 B11no).trans h.f11
 obtain ⟨ds,hr,ha⟩:=h.er
 have US:Upd [B11] w1 (w1.setCell ⟨B11,0,none⟩ v'):=(Upd.refl _ w1).setCell (by simp) _
 have hlater:∀ a b,IsX W (fun k=>k < w3.heap.size) a b->IsX (w1.setCell ⟨B11,0,none⟩ v') (fun k=>k < w3.heap.size) a b:=fun a b hab=>hab.later U (fun k hk hm=>by
  simp only [List.mem_cons,Option.mem_toList] at hm
  rcases hm with rfl | hm
  ·have:=h.low _ B11Q
   omega
  ·have:=own_ge h.nr hm
   omega)
 refine ⟨h.why.step U (fun k hk=>?_) (fun k hk=>?_),(cell B7 (by simp) 0).trans h.c7,(cell B8 (by simp) 0).trans h.c8,U.ownsRow h.pl (fun k hk=>?_),?_,?_,(cell B12 (by simp) 0).trans h.c12,(froz B12 (by simp) 0).trans h.f12,(cell Bs (by simp) 0).trans h.cs,?_,⟨ds,U.ownsRow hr (fun k hk hm=>?_),ha.mono hlater⟩,h.inQ,h.nodup,fun k hk hm=>?_,h.eQ,fun k hk he=>?_,h.low⟩
 ·simp only [List.mem_cons,Option.mem_toList] at hk
  rcases hk with rfl | hk
  ·exact ⟨h.low _ B11Q,.inl B11Q⟩
  ·exact ⟨own_ge h.nr hk,.inr (.inl hk)⟩
 ·have s1:=U1.size
  rcases hk with hk | hk | hk
  ·exact ⟨by have:=h.lt hk; omega,.inl (.inl hk)⟩
  ·refine ⟨by have:=hlt' k hk; omega,?_⟩
   rcases hN k hk with e | e
   ·exact .inl (.inr (.inl e))
   ·exact .inr (by omega)
  ·exact ⟨by have:=h.why.mn k (.inr (.inr hk)); omega,.inl (.inr (.inr hk))⟩
 ·simp only [own_slice,Option.some.injEq] at hk
  subst hk
  exact no Bp (by simp)
 ·exact World.cell?_setCell_same' _ _ _ (by rw [c11]; rfl)
 ·rw [World.frozen?_setCell]
  exact f11
 ·have h1:=US.ownsRow hown (fun k hk hm=>by
   simp only [List.mem_singleton] at hm
   subst hm
   rcases hN k hk with e | e
   ·exact h.nQ k e B11Q
   ·omega)
  have e1:(ns++[k0]).length=ns.length+1:=by simp
  have e2:intsOf (ns++[k0])=intsOf ns++[.int .i64 (k0:Nat)]:=by simp [intsOf]
  rw [e1,e2]
  exact h1
 ·simp only [List.mem_cons,Option.mem_toList] at hm
  rcases hm with rfl | hm
  ·exact h.eQ _ hk B11Q
  ·exact h.ne k hm hk
 ·rcases hN k hk with e | e
  ·exact h.nQ k e hm
  ·have:=h.lt hm
   omega
 ·rcases hN k hk with e | e
  ·exact h.ne k e he
  ·have:=ownsRow_lt hr he
   omega
theorem WhySt.number_lies {w3 W w1:World} {ob B7 B8 Bp B11 B12 Bs:Nat} {Q:List Nat} {v3:Value} {c:SntX} {xs:List SntX} {nv ev v':Value} {ns:List Nat} {es:List SntX} {T:WS} {X:Obj} (h:WhySt w3 W ob B7 B8 Bp B11 B12 Bs Q v3 c xs nv ev ns es T) (hgrow:(W.alloc X).grownBy w1 nv.ownBlock) {q:Nat} (hq:q ∈ Q) (hne:q ≠ B11):(w1.setCell ⟨B11,0,none⟩ v').heap[q]?=W.heap[q]?:=by
 have U1:Upd nv.ownBlock.toList W w1:=((Upd.refl nv.ownBlock.toList W).alloc X).trans (Upd.of_grown hgrow)
 have U:Upd (B11 :: nv.ownBlock.toList) W (w1.setCell ⟨B11,0,none⟩ v'):=(U1.mono (fun x hx _=>by simp at hx ⊢; exact .inr hx)).setCell (by simp) _
 refine U.block q (h.lt hq) (fun hm=>?_)
 simp only [List.mem_cons,Option.mem_toList] at hm
 rcases hm with hm | hm
 ·exact hne hm
 ·exact h.nQ q hm hq
theorem WhySt.sentence_lies {w3 W w1:World} {ob B7 B8 Bp B11 B12 Bs:Nat} {Q:List Nat} {v3:Value} {c:SntX} {xs:List SntX} {nv ev v':Value} {ns:List Nat} {es:List SntX} {T:WS} {X:Obj} (h:WhySt w3 W ob B7 B8 Bp B11 B12 Bs Q v3 c xs nv ev ns es T) (hgrow:(W.alloc X).grownBy w1 ev.ownBlock) {q:Nat} (hq:q ∈ Q) (hne:q ≠ B12):(w1.setCell ⟨B12,0,none⟩ v').heap[q]?=W.heap[q]?:=by
 have U1:Upd ev.ownBlock.toList W w1:=((Upd.refl ev.ownBlock.toList W).alloc X).trans (Upd.of_grown hgrow)
 have U:Upd (B12 :: ev.ownBlock.toList) W (w1.setCell ⟨B12,0,none⟩ v'):=(U1.mono (fun x hx _=>by simp at hx ⊢; exact .inr hx)).setCell (by simp) _
 refine U.block q (h.lt hq) (fun hm=>?_)
 simp only [List.mem_cons,Option.mem_toList] at hm
 rcases hm with hm | hm
 ·exact hne hm
 ·exact h.eQ q hm hq
theorem WhySt.box_grown {w3 W w1:World} {ob B7 B8 Bp B11 B12 Bs:Nat} {Q:List Nat} {v3:Value} {c:SntX} {xs:List SntX} {nv ev:Value} {ns:List Nat} {es:List SntX} {T:WS} {X:Obj} (h:WhySt w3 W ob B7 B8 Bp B11 B12 Bs Q v3 c xs nv ev ns es T):((W.alloc X).grownBy w1 nv.ownBlock->w1.cell? ⟨B11,0,none⟩=some nv/\w1.frozen? ⟨B11,0,none⟩=false)/\((W.alloc X).grownBy w1 ev.ownBlock->w1.cell? ⟨B12,0,none⟩=some ev/\w1.frozen? ⟨B12,0,none⟩=false):=by
 have q11:=h.inQ B11 (by simp)
 have q12:=h.inQ B12 (by simp)
 constructor
 ·intro hgrow
  have U1:Upd nv.ownBlock.toList W w1:=((Upd.refl nv.ownBlock.toList W).alloc X).trans (Upd.of_grown hgrow)
  have no:B11 ∉ nv.ownBlock.toList:=fun hm=>h.nQ B11 (by simpa using hm) q11
  exact ⟨(U1.cell (p:=⟨B11,0,none⟩) (h.lt q11) no).trans h.c11,(U1.frozen (p:=⟨B11,0,none⟩) (h.lt q11) no).trans h.f11⟩
 ·intro hgrow
  have U1:Upd ev.ownBlock.toList W w1:=((Upd.refl ev.ownBlock.toList W).alloc X).trans (Upd.of_grown hgrow)
  have no:B12 ∉ ev.ownBlock.toList:=fun hm=>h.eQ B12 (by simpa using hm) q12
  exact ⟨(U1.cell (p:=⟨B12,0,none⟩) (h.lt q12) no).trans h.c12,(U1.frozen (p:=⟨B12,0,none⟩) (h.lt q12) no).trans h.f12⟩
theorem WhySt.sentence {w3 W w1:World} {ob B7 B8 Bp B11 B12 Bs:Nat} {Q:List Nat} {v3:Value} {c x:SntX} {xs:List SntX} {nv ev v':Value} {ns:List Nat} {es:List SntX} {T:WS} {X:Obj} {ds:List V7} {d:V7} (h:WhySt w3 W ob B7 B8 Bp B11 B12 Bs Q v3 c xs nv ev ns es T) (hr:W.ownsRow w3.heap.size 101 7 ev es.length (flat7 ds)) (ha:AllIs (IsX W (fun k=>k < w3.heap.size)) ds es) (hd:IsX W (fun k=>k < w3.heap.size) d x)
  (hown:w1.ownsRow w3.heap.size 101 7 v' (es.length+1) (flat7 ds++v7 d)) (hgrow:(W.alloc X).grownBy w1 ev.ownBlock) (hat:v'.ownBlock=ev.ownBlock\/v'.ownBlock=some (W.alloc X).heap.size) :
  WhySt w3 (w1.setCell ⟨B12,0,none⟩ v') ob B7 B8 Bp B11 B12 Bs Q v3 c xs nv v' ns (es++[x]) T:=by
 have hs:=h.why.upd.size
 have hN:∀ k,v'.ownBlock=some k->ev.ownBlock=some k\/W.heap.size+1<=k:=fun k hk=>by
  rcases hat with e | e
  ·exact .inl (e ▸ hk)
  ·rw [hk] at e
   simp at e
   exact .inr (by omega)
 have hlt':∀ k,v'.ownBlock=some k->k < w1.heap.size:=fun k hk=>ownsRow_lt hown hk
 have B12Q:=h.inQ B12 (by simp)
 have hB12:=h.lt B12Q
 obtain ⟨n1,n2,n3,n4,n5,_⟩:B7 ≠ B12/\B8 ≠ B12/\Bp ≠ B12/\B11 ≠ B12/\Bs ≠ B12/\True:=by
  have:=h.nodup
  simp only [List.nodup_cons,List.mem_cons,not_or] at this
  obtain ⟨⟨a1,a2,a3,a4,a5,_⟩,⟨b1,b2,b3,b4,_⟩,⟨c1,c2,c3,_⟩,⟨d1,d2,_⟩,⟨e1,_⟩,_⟩:=this
  exact ⟨a4,b3,c2,d1,fun e=>e1 e.symm,trivial⟩
 have U1:Upd ev.ownBlock.toList W w1:=((Upd.refl ev.ownBlock.toList W).alloc X).trans (Upd.of_grown hgrow)
 have U:Upd (B12 :: ev.ownBlock.toList) W (w1.setCell ⟨B12,0,none⟩ v'):=(U1.mono (fun x hx _=>by simp at hx ⊢; exact .inr hx)).setCell (by simp) _
 have hsz:w1.heap.size=(w1.setCell ⟨B12,0,none⟩ v').heap.size:=by simp [World.setCell]
 have no:∀ k ∈ [B7,B8,Bp,B11,Bs],k ∉ B12 :: ev.ownBlock.toList:=fun k hk hm=>by
  simp only [List.mem_cons,Option.mem_toList] at hm
  rcases hm with rfl | hm
  ·simp only [List.mem_cons,List.not_mem_nil,or_false] at hk
   rcases hk with e | e | e | e | e
   ·exact n1 e.symm
   ·exact n2 e.symm
   ·exact n3 e.symm
   ·exact n4 e.symm
   ·exact n5 e.symm
  ·refine h.eQ k hm (h.inQ k ?_)
   simp only [List.mem_cons,List.not_mem_nil,or_false] at hk ⊢
   omega
 have inn:∀ k ∈ [B7,B8,Bp,B11,Bs],k ∈ Q:=fun k hk=>h.inQ k (by simp only [List.mem_cons,List.not_mem_nil,or_false] at hk ⊢; omega)
 have cell:∀ k ∈ [B7,B8,Bp,B11,Bs],∀ o,(w1.setCell ⟨B12,0,none⟩ v').cell? ⟨k,o,none⟩=W.cell? ⟨k,o,none⟩:=fun k hk o=>U.cell (p:=⟨k,o,none⟩) (h.lt (inn k hk)) (no k hk)
 have froz:∀ k ∈ [B7,B8,Bp,B11,Bs],∀ o,(w1.setCell ⟨B12,0,none⟩ v').frozen? ⟨k,o,none⟩=W.frozen? ⟨k,o,none⟩:=fun k hk o=>U.frozen (p:=⟨k,o,none⟩) (h.lt (inn k hk)) (no k hk)
 have B12no:B12 ∉ ev.ownBlock.toList:=fun hm=>h.eQ B12 (by simpa using hm) B12Q
 have c12:=(U1.cell (p:=⟨B12,0,none⟩) hB12 B12no).trans h.c12
 have f12:=(U1.frozen (p:=⟨B12,0,none⟩) hB12 B12no).trans h.f12
 have US:Upd [B12] w1 (w1.setCell ⟨B12,0,none⟩ v'):=(Upd.refl _ w1).setCell (by simp) _
 have hlater:∀ a b,IsX W (fun k=>k < w3.heap.size) a b->IsX (w1.setCell ⟨B12,0,none⟩ v') (fun k=>k < w3.heap.size) a b:=fun a b hab=>hab.later U (fun k hk hm=>by
  simp only [List.mem_cons,Option.mem_toList] at hm
  rcases hm with rfl | hm
  ·have:=h.low _ B12Q
   omega
  ·have:=own_ge hr hm
   omega)
 refine ⟨h.why.step U (fun k hk=>?_) (fun k hk=>?_),(cell B7 (by simp) 0).trans h.c7,(cell B8 (by simp) 0).trans h.c8,U.ownsRow h.pl (fun k hk=>?_),(cell B11 (by simp) 0).trans h.c11,(froz B11 (by simp) 0).trans h.f11,?_,?_,(cell Bs (by simp) 0).trans h.cs,U.ownsRow h.nr (fun k hk hm=>?_),⟨ds++[d],?_,AllIs.snoc (hlater _ _ hd) (ha.mono hlater)⟩,h.inQ,h.nodup,h.nQ,fun k hk hm=>?_,fun k hk he=>?_,h.low⟩
 ·simp only [List.mem_cons,Option.mem_toList] at hk
  rcases hk with rfl | hk
  ·exact ⟨h.low _ B12Q,.inl B12Q⟩
  ·exact ⟨own_ge hr hk,.inr (.inr hk)⟩
 ·have s1:=U1.size
  rcases hk with hk | hk | hk
  ·exact ⟨by have:=h.lt hk; omega,.inl (.inl hk)⟩
  ·exact ⟨by have:=h.why.mn k (.inr (.inl hk)); omega,.inl (.inr (.inl hk))⟩
  ·refine ⟨by have:=hlt' k hk; omega,?_⟩
   rcases hN k hk with e | e
   ·exact .inl (.inr (.inr e))
   ·exact .inr (by omega)
 ·simp only [own_slice,Option.some.injEq] at hk
  subst hk
  exact no Bp (by simp)
 ·exact World.cell?_setCell_same' _ _ _ (by rw [c12]; rfl)
 ·rw [World.frozen?_setCell]
  exact f12
 ·simp only [List.mem_cons,Option.mem_toList] at hm
  rcases hm with rfl | hm
  ·exact h.nQ _ hk B12Q
  ·exact h.ne k hk hm
 ·have h1:=US.ownsRow hown (fun k hk hm=>by
   simp only [List.mem_singleton] at hm
   subst hm
   rcases hN k hk with e | e
   ·exact h.eQ k e B12Q
   ·omega)
  have e1:(es++[x]).length=es.length+1:=by simp
  rw [e1,flat7_append]
  simpa [flat7] using h1
 ·rcases hN k hk with e | e
  ·exact h.eQ k e hm
  ·have:=h.lt hm
   omega
 ·rcases hN k he with e | e
  ·exact h.ne k hk e
  ·have:=ownsRow_lt h.nr hk
   omega
structure OtherOK (c:SntX) (xs:List SntX):Prop where
 fine:∀ j,Fine (otherM c xs j)
 len:∀ j,(otherM c xs j).shapes.length<=250
 said:∀ j,j<=xs.length->(otherM c xs j).said.length=j+1
 succ:∀ (j:Nat) (hj:j < xs.length),otherM c xs (j+1)=sayM (otherM c xs j) xs[j].2/\Goes (otherM c xs j) (otherM c xs (j+1))
 room:∀ j (ys:List SntX),(∀ y ∈ ys,y ∈ xs)->RoomX (otherM c xs j) ys/\allOf NarrowX ys
 narrow:∀ y ∈ xs,NarrowX y/\sizeX y<=150
 first:NarrowX c/\sizeX c<=150
theorem Holds.said_len {S:WS} {L:List ST} (h:Holds S L):S.said.length=L.length:=h.said.length
theorem Under.other {B:WS} {K:List ST} (h:Under B K) {c:SntX} {xs:List SntX} (hc:SubX K c) (hx:∀ x ∈ xs,SubX K x):OtherOK c xs:=by
 have key:∀ j,Holds (otherM c xs j) ([]++[eraseX c]++(xs.take j).map eraseX)/\∀ t,known ([]++[eraseX c]++(xs.take j).map eraseX) t->known K t:=fun j=>by
  obtain ⟨_,h1,h2⟩:=h.say Holds.none (fun t ⟨s,hs,_⟩=>by cases hs) hc
  obtain ⟨_,h3,_,h4⟩:=h.sayAll (xs.take j) h1 h2 (fun x hm=>hx x (List.mem_of_mem_take hm))
  exact ⟨h3,h4⟩
 have hlen:∀ j,(otherM c xs j).shapes.length<=250:=fun j=>by
  have:=h.holds.fewer (key j).1 (key j).2
  have:=h.few
  omega
 refine ⟨fun j=>(key j).1.fine,hlen,fun j hj=>?_,fun j hj=>?_,fun j ys hy=>?_,fun y hy=>⟨(hx y hy).1,(hx y hy).2.1⟩,⟨hc.1,hc.2.1⟩⟩
 ·rw [(key j).1.said_len]
  simp
  omega
 ·have e:otherM c xs (j+1)=sayM (otherM c xs j) xs[j].2:=by
   unfold otherM
   rw [List.take_succ_eq_append_getElem hj,sayAll_snoc]
  have hxj:=hx xs[j] (List.getElem_mem hj)
  have E:=sayM_end (key j).1.fine.web hxj.1 (by have:=hlen j; have:sizeX xs[j]<=150:=hxj.2.1; unfold sizeX at this; omega)
  exact ⟨e,by rw [e]; exact E.goes _ (Goes.refl _)⟩
 ·obtain ⟨h1,_,h3,_⟩:=h.sayAll ys (key j).1 (key j).2 (fun y hm=>hx y (hy y hm))
  exact ⟨h1,h3⟩
theorem whyR_sub (O:Nat->WS) (xs:List SntX):∀ d,∀ y ∈ (whyR O xs d).2,y ∈ xs
 | 0,y,hy=>by simp [whyR] at hy
 | d+1,y,hy=>by
  unfold whyR at hy
  split at hy
  ·exact whyR_sub O xs d y hy
  ·simp only [List.mem_append,Option.mem_toList] at hy
   rcases hy with hy | hy
   ·exact whyR_sub O xs d y hy
   ·exact List.mem_of_getElem? hy
theorem whyR_len (O:Nat->WS) (xs:List SntX):∀ d,(whyR O xs d).1.length<=d/\(whyR O xs d).2.length<=d
 | 0=>⟨Nat.le_refl _,Nat.le_refl _⟩
 | d+1=>by
  have:=whyR_len O xs d
  unfold whyR
  split
  ·omega
  ·simp only [List.length_append,List.length_singleton]
   have h2:(xs[xs.length - (d+1)]?).toList.length<=1:=by cases xs[xs.length - (d+1)]? <;> simp
   omega
end Go.Proofs.YtmfkpllnmmfpiaaGreatDoor
