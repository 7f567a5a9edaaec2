/- RefHeap -/
import Derived.Test.YtmfkpllnmmfpiaaGreatDoorRefPosA
import Derived.Test.YtmfkpllnmmfpiaaGreatDoorPlainTextA
set_option maxHeartbeats 16000000
set_option maxRecDepth 100000
namespace Go.Proofs.YtmfkpllnmmfpiaaGreatDoor
open Go.RowKit
theorem info_refPtr:(Tryz.prog.info? 170).map (fun i=>(i.zero,i.size,i.bytes))=some (some (.pointer none),1,8):=by kernel_rfl
def ptrs (cs:List Nat):List Value:=cs.map fun c=>.pointer (some ⟨c,0,none⟩)
inductive IsRT (w:World) (Z:Nat->Prop):Trm->Nat->Prop where
 | mk {nm:ByteArray} {ps:List Trm} {b:Nat} {v:Value} {cs:List Nat}:b < w.heap.size->Z b->w.cell? ⟨b,0,none⟩=some (.string nm)->w.cell? ⟨b,1,none⟩=some v->w.cell? ⟨b,2,none⟩=some (.string (Trm.node nm ps).text) ->
  w.ownsRow 0 170 1 v ps.length (ptrs cs)->(∀ q,v.ownBlock=some q->Z q)->cs.length=ps.length ->
  (∀ (i c:Nat) (p:Trm),cs[i]?=some c->ps[i]?=some p->IsRT w Z p c)->IsRT w Z (.node nm ps) b
theorem IsRT.mono {w:World} {Z Z':Nat->Prop} {t:Trm} {b:Nat} (h:IsRT w Z t b) (hm:∀ k,Z k->k < w.heap.size->Z' k):IsRT w Z' t b:=by
 induction h with
 | mk hb hz h0 h1 h2 hr hv hl _ ih=>exact .mk hb (hm _ hz hb) h0 h1 h2 hr (fun q hq=>hm q (hv q hq) (ownsRow_lt hr hq)) hl ih
theorem IsRT.later {w w':World} {L:List Nat} {Z:Nat->Prop} {t:Trm} {b:Nat} (h:IsRT w Z t b) (hu:Upd L w w') (hL:∀ k,Z k->k ∉ L):IsRT w' Z t b:=by
 induction h with
 | mk hb hz h0 h1 h2 hr hv hl _ ih=>exact .mk (Nat.lt_of_lt_of_le hb hu.size) hz ((hu.cell hb (hL _ hz)).trans h0) ((hu.cell hb (hL _ hz)).trans h1) ((hu.cell hb (hL _ hz)).trans h2) (hu.ownsRow hr (fun k hk=>hL k (hv k hk))) hv hl ih
theorem IsRT.lt {w:World} {Z:Nat->Prop} {t:Trm} {b:Nat} (h:IsRT w Z t b):b < w.heap.size:=by cases h; assumption
theorem IsRT.text {w:World} {Z:Nat->Prop} {t:Trm} {b:Nat} (h:IsRT w Z t b):w.cell? ⟨b,2,none⟩=some (.string t.text):=by cases h; assumption
structure TBld (w wr:World) (xb tb:Nat) (s:ByteArray) (x:Sc) (nm T:ByteArray) (acc:List Trm) (v:Value) (cs:List Nat):Prop where
 scan:ScanAt wr xb s x
 xlt:xb < w.heap.size
 tge:w.heap.size<=tb
 lt:tb < wr.heap.size
 free:∀ o,wr.frozen? ⟨tb,o,none⟩=false
 c0:wr.cell? ⟨tb,0,none⟩=some (.string nm)
 c1:wr.cell? ⟨tb,1,none⟩=some v
 c2:wr.cell? ⟨tb,2,none⟩=some (.string T)
 row:wr.ownsRow (tb+1) 170 1 v acc.length (ptrs cs)
 len:cs.length=acc.length
 kids:∀ (i c:Nat) (p:Trm),cs[i]?=some c->acc[i]?=some p->IsRT wr (fun k=>tb < k/\v.ownBlock ≠ some k) p c
 upd:Upd [xb] w wr
section
variable {w wr w2 w3:World} {xb tb:Nat} {s:ByteArray} {x x2:Sc} {nm T:ByteArray} {acc:List Trm} {v:Value} {cs:List Nat}
theorem TBld.scanned (h:TBld w wr xb tb s x nm T acc v cs) (hs:ScanAt w2 xb s x2) (hu:Upd [xb] wr w2):TBld w w2 xb tb s x2 nm T acc v cs:=by
 have h1:=h.xlt
 have h2:=h.tge
 have hn:tb ∉ [xb]:=by simp; omega
 exact ⟨hs,h1,h2,Nat.lt_of_lt_of_le h.lt hu.size,fun o=>(hu.frozen (p:=⟨tb,o,none⟩) h.lt hn).trans (h.free o),(hu.cell h.lt hn).trans h.c0,(hu.cell h.lt hn).trans h.c1,(hu.cell h.lt hn).trans h.c2,
  hu.ownsRow h.row (fun k hk hm=>by have:=own_geT h.row hk; simp at hm; omega),h.len,fun i c p hc hp=>(h.kids i c p hc hp).later hu (fun k hk hm=>by simp at hm; omega),h.upd.trans hu⟩
theorem TBld.next (h:TBld w wr xb tb s x nm T acc v cs) {z:Int} (hz:z=x.pos+1):TBld w (wr.setCell ⟨xb,1,none⟩ (.int .i64 z)) xb tb s x.next nm T acc v cs :=
 h.scanned (h.scan.set1 (p:=x.pos+1) (by omega)) ((Upd.refl [xb] wr).setCell (by simp) _)
theorem TBld.texted (h:TBld w wr xb tb s x nm T acc v cs) (T':ByteArray):TBld w (wr.setCell ⟨tb,2,none⟩ (.string T')) xb tb s x nm T' acc v cs:=by
 have h1:=h.xlt
 have h2:=h.tge
 have h0:=h.lt
 have hu:Upd [tb] wr (wr.setCell ⟨tb,2,none⟩ (.string T')):=(Upd.refl [tb] wr).setCell (by simp) _
 have g0:=h.c0
 have g1:=h.c1
 have g2:=h.c2
 have gf:=h.free
 exact ⟨h.scan.later hu (by simp; omega),h1,h2,by simpa using h0,fun o=>by simpa using gf o,by go_simp,by go_simp,by go_simp,
  hu.ownsRow h.row (fun k hk hm=>by have:=own_geT h.row hk; simp at hm; omega),h.len,fun i c p hc hp=>(h.kids i c p hc hp).later hu (fun k hk hm=>by simp at hm; omega),h.upd.setCell (.inr h2) _⟩
theorem TBld.begin_ {X:Obj} (hs:ScanAt w2 xb s x) (hx:xb < w.heap.size) (hu:Upd [xb] w w2) (hX:X=.cells #[.string nm,.slice none 0 0,.string T] 169):TBld w (w2.alloc X) xb w2.heap.size s x nm T [] (.slice none 0 0) []:=by
 have hsz:=hu.size
 subst hX
 refine ⟨hs.later (L:=[]) ((Upd.refl [] w2).alloc _) (by simp),hx,hsz,by simp,fun o=>by go_simp,by go_simp,by go_simp,by go_simp,?_,rfl,fun i c p hc=>by simp at hc,hu.alloc _⟩
 exact ⟨rfl,.inl ⟨rfl,rfl⟩⟩
theorem TBld.kid {c B g cap:Nat} {p:Trm} {X:Obj} (h:TBld w wr xb tb s x nm T acc v cs) (hp:IsRT wr (fun k=>B<=k) p c) (hB:tb < B) (hv:∀ q,v.ownBlock=some q->q < B)
  (hg:(wr.alloc X).grownBy w3 v.ownBlock) (hat:v.ownBlock=some g\/g=(wr.alloc X).heap.size) (hown:w3.ownsRow (tb+1) 170 1 (.slice (some ⟨g,0,none⟩) (acc.length+1) cap) (acc.length+1) (ptrs cs++[.pointer (some ⟨c,0,none⟩)])) :
  TBld w (w3.setCell ⟨tb,1,none⟩ (.slice (some ⟨g,0,none⟩) (acc.length+1) cap)) xb tb s x nm T (acc++[p]) (.slice (some ⟨g,0,none⟩) (acc.length+1) cap) (cs++[c]):=by
 have h1:=h.xlt
 have h2:=h.tge
 have h0:=h.lt
 have hge:∀ q,v.ownBlock=some q->tb < q/\q < wr.heap.size:=fun q hq=>⟨own_geT h.row hq,ownsRow_lt h.row hq⟩
 have U:Upd v.ownBlock.toList wr w3:=((Upd.refl _ wr).alloc X).trans (Upd.of_grown hg)
 have hnt:tb ∉ v.ownBlock.toList:=fun hm=>by have:=hge tb (by simpa using hm); omega
 have hnx:xb ∉ v.ownBlock.toList:=fun hm=>by have:=hge xb (by simpa using hm); omega
 have hsz:=U.size
 have hu:Upd [tb] w3 (w3.setCell ⟨tb,1,none⟩ (.slice (some ⟨g,0,none⟩) (acc.length+1) cap)):=(Upd.refl [tb] w3).setCell (by simp) _
 have g0:=(U.cell (p:=⟨tb,0,none⟩) h0 hnt).trans h.c0
 have g1:=(U.cell (p:=⟨tb,1,none⟩) h0 hnt).trans h.c1
 have g2:=(U.cell (p:=⟨tb,2,none⟩) h0 hnt).trans h.c2
 have gf:∀ o,w3.frozen? ⟨tb,o,none⟩=false:=fun o=>(U.frozen (p:=⟨tb,o,none⟩) h0 hnt).trans (h.free o)
 have hgt:tb < g:=by rcases hat with hat | hat; exact (hge g hat).1; simp at hat; omega
 have hlt3:tb < w3.heap.size:=by omega
 refine ⟨(h.scan.later U hnx).later hu (by simp; omega),h1,h2,by simpa using hlt3,fun o=>by simpa using gf o,by go_simp,by go_simp,by go_simp,?_,by simp [h.len],?_,?_⟩
 ·have:=hu.ownsRow hown (fun k hk hm=>by simp [Value.ownBlock] at hk hm; omega)
  simpa [ptrs] using this
 ·intro i c' p' hc' hp'
  have hfr:∀ q,(tb < q/\v.ownBlock ≠ some q)->q < wr.heap.size->tb < q/\(Value.slice (some ⟨g,0,none⟩) (acc.length+1) cap).ownBlock ≠ some q:=fun q hq hl=>⟨hq.1,fun e=>by
   simp only [own_slice,Option.some.injEq] at e
   subst e
   rcases hat with hat | hat
   ·exact hq.2 hat
   ·simp at hat; omega⟩
  by_cases hi:i < acc.length
  ·rw [List.getElem?_append_left (by rw [h.len]; exact hi)] at hc'
   rw [List.getElem?_append_left hi] at hp'
   have k1:IsRT wr (fun k=>(tb < k/\v.ownBlock ≠ some k)/\k < wr.heap.size) p' c':=(h.kids i c' p' hc' hp').mono fun q hq hl=>⟨hq,hl⟩
   have k2:=(k1.later U (fun q hq hm=>hq.1.2 (by simpa using hm))).later hu (fun q hq hm=>by simp at hm; omega)
   exact k2.mono fun q hq _=>hfr q hq.1 hq.2
  ·have hi2:i=acc.length:=by
    have:=(List.getElem?_eq_some_iff.1 hp').1
    simp at this
    omega
   subst hi2
   rw [<- h.len,List.getElem?_concat_length] at hc'
   rw [List.getElem?_concat_length] at hp'
   obtain rfl:=Option.some.inj hc'
   obtain rfl:=Option.some.inj hp'
   have k1:IsRT wr (fun k=>B<=k/\k < wr.heap.size) p c:=hp.mono fun q hq hl=>⟨hq,hl⟩
   have k2:=(k1.later U (fun q hq hm=>by have:=hv q (by simpa using hm); omega)).later hu (fun q hq hm=>by simp at hm; omega)
   exact k2.mono fun q hq _=>hfr q ⟨by omega,fun e=>by have:=hv q e; omega⟩ hq.2
 ·exact (h.upd.trans' U (fun k hk hl=>by have:=hge k (by simpa using hk); omega)).setCell (.inr h2) _
theorem TBld.done (h:TBld w wr xb tb s x nm T acc v cs) (hT:T=(Trm.node nm acc).text):IsRT wr (fun k=>w.heap.size<=k/\k < wr.heap.size) (.node nm acc) tb:=by
 subst hT
 have h2:=h.tge
 exact .mk h.lt ⟨h.tge,h.lt⟩ h.c0 h.c1 h.c2 (ownsRow_base h.row fun _ _=>Nat.zero_le _) (fun q hq=>⟨by have:=own_geT h.row hq; omega,ownsRow_lt h.row hq⟩) h.len (fun i c p hc hp=>(h.kids i c p hc hp).mono fun q hq hl=>⟨by omega,hl⟩)
end
end Go.Proofs.YtmfkpllnmmfpiaaGreatDoor
