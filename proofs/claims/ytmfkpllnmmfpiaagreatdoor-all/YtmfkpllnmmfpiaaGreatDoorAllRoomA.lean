/- RowBuild, AllPaint, AllMark2, AllRoom -/
import Derived.Test.YtmfkpllnmmfpiaaGreatDoorRowCmpA
import Derived.Test.YtmfkpllnmmfpiaaGreatDoorPlacesA
import Derived.Test.YtmfkpllnmmfpiaaGreatDoorPlainTextA
import Derived.Test.YtmfkpllnmmfpiaaGreatDoorJoinHeapA
set_option maxHeartbeats 16000000
set_option maxRecDepth 100000
namespace Go.Proofs.YtmfkpllnmmfpiaaGreatDoor
open Go.RowKit Go.Shelf Go.Sort
theorem info_apiRow:(Tryz.prog.info? 88).map (fun i=>(i.zero,i.size,i.bytes))=some (some (.agg #[.string ⟨#[]⟩,.slice none 0 0,.int .i64 0]),3,48):=by kernel_rfl
abbrev RX:=RowP × Value
def encR (x:RX):List Value:=[.string x.1.name,x.2,.int .i64 x.1.value]
def flatR (xs:List RX):List Value:=xs.flatMap encR
theorem flatR_append (a b:List RX):flatR (a++b)=flatR a++flatR b:=by simp [flatR]
theorem flatR_length (xs:List RX):(flatR xs).length=xs.length * 3:=by
 induction xs with
 | nil=>rfl
 | cons x xs ih=>simp only [flatR,List.flatMap_cons,List.length_append] at ih ⊢; simp [encR,ih]; omega
def rowOf (S:WS) (pl:List Nat) (i:Nat):RowP:=⟨(shapeAt S i).1,(partsL (shapeAt S i)).map fun k=>pl.getD k 0,pl.getD i 0⟩
def rowsTo (S:WS) (pl:List Nat) (j:Nat):List RowP:=(List.range j).map (rowOf S pl)
theorem rowsTo_succ (S:WS) (pl:List Nat) (j:Nat):rowsTo S pl (j+1)=rowsTo S pl j++[rowOf S pl j]:=by simp [rowsTo,List.range_succ]
structure Rowing (w3 wr:World) (v:Value) (xs:List RX):Prop where
 row:wr.ownsRow w3.heap.size 88 3 v xs.length (flatR xs)
 args:∀ (i:Nat) (x:RX),xs[i]?=some x->wr.ownsRow w3.heap.size 3 1 x.2 x.1.args.length (intsOf x.1.args)
 out:∀ (i:Nat) (x:RX),xs[i]?=some x->∀ k,x.2.ownBlock=some k->v.ownBlock ≠ some k
 sep:∀ (i j:Nat) (x y:RX),xs[i]?=some x->xs[j]?=some y->i ≠ j->∀ k,x.2.ownBlock=some k->y.2.ownBlock ≠ some k
 upd:Upd [] w3 wr
 made:v.ownBlock ≠ none
theorem Rowing.next {w3 wr w4 w5 w6:World} {v vA:Value} {xs:List RX} {r:RowP} {g cap B:Nat} (h:Rowing w3 wr v xs) (hu:Upd [] wr w4) (hA:w4.ownsRow B 3 1 vA r.args.length (intsOf r.args)) (hB:wr.heap.size<=B) (hu5:Upd [] w4 w5) (hg:w5.grownBy w6 v.ownBlock) (hat:v.ownBlock=some g\/g=w5.heap.size)
  (hown:w6.ownsRow w3.heap.size 88 3 (.slice (some ⟨g,0,none⟩) (xs.length+1) cap) (xs.length+1) (flatR xs++[.string r.name,vA,.int .i64 r.value])):Rowing w3 w6 (.slice (some ⟨g,0,none⟩) (xs.length+1) cap) (xs++[(r,vA)]):=by
 have s1:=h.upd.size
 have s2:=hu.size
 have s3:=hu5.size
 have U:Upd v.ownBlock.toList w5 w6:=Upd.of_grown hg
 have hAlt:∀ k,vA.ownBlock=some k->B<=k/\k < w4.heap.size:=fun k hk=>⟨own_geT hA hk,ownsRow_lt hA hk⟩
 have hvlt:∀ k,v.ownBlock=some k->w3.heap.size<=k/\k < wr.heap.size:=fun k hk=>⟨own_geT h.row hk,ownsRow_lt h.row hk⟩
 have key:∀ (i:Nat) (x:RX),(xs++[(r,vA)])[i]?=some x->(xs[i]?=some x/\i < xs.length)\/(i=xs.length/\x=(r,vA)):=fun i x hx=>by
  by_cases hi:i < xs.length
  ·rw [List.getElem?_append_left hi] at hx
   exact .inl ⟨hx,hi⟩
  ·have hi2:i=xs.length:=by
    have:=(List.getElem?_eq_some_iff.1 hx).1
    simp at this
    omega
   subst hi2
   rw [List.getElem?_concat_length] at hx
   exact .inr ⟨rfl,(Option.some.inj hx).symm⟩
 have hout:∀ (i:Nat) (x:RX),(xs++[(r,vA)])[i]?=some x->∀ k,x.2.ownBlock=some k->v.ownBlock ≠ some k/\k < w5.heap.size:=fun i x hx k hk=>by
  rcases key i x hx with ⟨hx',_⟩ | ⟨_,rfl⟩
  ·exact ⟨h.out i x hx' k hk,by have:=ownsRow_lt (h.args i x hx') hk; omega⟩
  ·have:=hAlt k hk
   exact ⟨fun e=>by have:=hvlt k e; omega,by omega⟩
 refine ⟨?_,fun i x hx=>?_,fun i x hx k hk e=>?_,fun i j x y hx hy hij k hk e=>?_,((h.upd.trans hu).trans hu5).trans' U (fun k hk hl=>?_),by simp [own_slice]⟩
 ·rw [List.length_append,flatR_append]
  exact hown
 ·have ho:=fun k hk=>(hout i x hx k hk).1
  rcases key i x hx with ⟨hx',_⟩ | ⟨_,rfl⟩
  ·exact U.ownsRow ((hu.trans hu5).ownsRow (h.args i x hx') (fun _ _=>by simp)) (fun k hk hm=>ho k hk (by simpa using hm))
  ·have hb:w4.ownsRow w3.heap.size 3 1 vA r.args.length (intsOf r.args):=ownsRow_base hA fun k hk=>by have:=hAlt k hk; omega
   exact U.ownsRow (hu5.ownsRow hb (fun _ _=>by simp)) (fun k hk hm=>ho k hk (by simpa using hm))
 ·obtain ⟨h1,h2⟩:=hout i x hx k hk
  simp only [own_slice,Option.some.injEq] at e
  subst e
  rcases hat with hat | hat
  ·exact h1 hat
  ·omega
 ·rcases key i x hx with ⟨hx',hi⟩ | ⟨rfl,rfl⟩
  ·rcases key j y hy with ⟨hy',hj⟩ | ⟨rfl,rfl⟩
   ·exact h.sep i j x y hx' hy' hij k hk e
   ·have:=ownsRow_lt (h.args i x hx') hk
    have:=hAlt k e
    omega
  ·rcases key j y hy with ⟨hy',hj⟩ | ⟨rfl,rfl⟩
   ·have:=ownsRow_lt (h.args j y hy') e
    have:=hAlt k hk
    omega
   ·exact hij rfl
 ·have:=hvlt k (by simpa using hk)
  omega
structure RowBld (w4 wr:World) (SB RB:Nat) (s:Sh) (val:Nat) (vA:Value) (bs:List Nat):Prop where
 box:BoxSh wr SB s
 sb:SB < RB
 lt:RB < wr.heap.size
 free:∀ o,wr.frozen? ⟨RB,o,none⟩=false
 c0:wr.cell? ⟨RB,0,none⟩=some (.string s.1)
 c1:wr.cell? ⟨RB,1,none⟩=some vA
 c2:wr.cell? ⟨RB,2,none⟩=some (.int .i64 val)
 row:wr.ownsRow (RB+1) 3 1 vA bs.length (intsOf bs)
 ge:w4.heap.size<=SB
 upd:Upd [] w4 wr
theorem RowBld.grown {w4 wr w1 w3:World} {SB RB val:Nat} {s:Sh} {vA:Value} {bs:List Nat} (h:RowBld w4 wr SB RB s val vA bs) (hu:Upd [] wr w1) (hg:w1.grownBy w3 vA.ownBlock):w3.cell? ⟨RB,1,none⟩=some vA/\∀ o,w3.frozen? ⟨RB,o,none⟩=false:=by
 have hnt:RB ∉ vA.ownBlock.toList:=fun hm=>by have:=own_geT h.row (by simpa using hm); omega
 have U:Upd vA.ownBlock.toList wr w3:=(hu.mono (fun x hx _=>by cases hx)).trans (Upd.of_grown hg)
 exact ⟨(U.cell (p:=⟨RB,1,none⟩) h.lt hnt).trans h.c1,fun o=>(U.frozen (p:=⟨RB,o,none⟩) h.lt hnt).trans (h.free o)⟩
theorem RowBld.next {w4 wr w1 w3:World} {SB RB val g cap a:Nat} {s:Sh} {vA:Value} {bs:List Nat} (h:RowBld w4 wr SB RB s val vA bs) (hu:Upd [] wr w1) (hg:w1.grownBy w3 vA.ownBlock) (hat:vA.ownBlock=some g\/g=w1.heap.size)
  (hown:w3.ownsRow (RB+1) 3 1 (.slice (some ⟨g,0,none⟩) (bs.length+1) cap) (bs.length+1) (intsOf bs++[.int .i64 a])):RowBld w4 (w3.setCell ⟨RB,1,none⟩ (.slice (some ⟨g,0,none⟩) (bs.length+1) cap)) SB RB s val (.slice (some ⟨g,0,none⟩) (bs.length+1) cap) (bs++[a]):=by
 have h0:=h.lt
 have hs:=hu.size
 have hge:=h.ge
 have hsb:=h.sb
 have hs4:=h.upd.size
 have hvge:∀ k,vA.ownBlock=some k->RB < k/\k < wr.heap.size:=fun k hk=>⟨own_geT h.row hk,ownsRow_lt h.row hk⟩
 have hnt:RB ∉ vA.ownBlock.toList:=fun hm=>by have:=hvge RB (by simpa using hm); omega
 have U:Upd vA.ownBlock.toList wr w3:=(hu.mono (fun x hx _=>by cases hx)).trans (Upd.of_grown hg)
 have g0:=(U.cell (p:=⟨RB,0,none⟩) h.lt hnt).trans h.c0
 have g1:=(U.cell (p:=⟨RB,1,none⟩) h.lt hnt).trans h.c1
 have g2:=(U.cell (p:=⟨RB,2,none⟩) h.lt hnt).trans h.c2
 have gf:∀ o,w3.frozen? ⟨RB,o,none⟩=false:=fun o=>(U.frozen (p:=⟨RB,o,none⟩) h.lt hnt).trans (h.free o)
 have hlt3:RB < w3.heap.size:=Nat.lt_of_lt_of_le h.lt U.size
 have hgt:RB < g:=by rcases hat with hat | hat; exact (hvge g hat).1; omega
 have hu3:Upd [RB] w3 (w3.setCell ⟨RB,1,none⟩ (.slice (some ⟨g,0,none⟩) (bs.length+1) cap)):=(Upd.refl [RB] w3).setCell (by simp) _
 have UU:Upd (RB :: vA.ownBlock.toList) wr (w3.setCell ⟨RB,1,none⟩ (.slice (some ⟨g,0,none⟩) (bs.length+1) cap)):=(U.mono (fun x hx _=>by simp at hx ⊢; exact .inr hx)).setCell (by simp) _
 refine ⟨?_,hsb,by simpa using hlt3,fun o=>by simpa using gf o,by go_simp,by go_simp,by go_simp,?_,hge,h.upd.trans' UU (fun k hk hl=>?_)⟩
 ·have hb:=h.box
  have hSn:SB ∉ RB :: vA.ownBlock.toList:=fun hm=>by
   simp at hm
   rcases hm with hm | hm
   ·omega
   ·have:=hvge SB hm; omega
  exact hb.later UU hSn
 ·have:=hu3.ownsRow hown (fun k hk hm=>by simp [Value.ownBlock] at hk hm; omega)
  simpa [intsOf] using this
 ·simp at hk
  rcases hk with hk | hk
  ·omega
  ·have:=hvge k hk; omega
def LocalP (s:Nat) (P:World->Nat->Nat->Prop):Prop:=∀ w w' g o,(∀ c,c < s->w'.cell? ⟨g,o+c,none⟩=w.cell? ⟨g,o+c,none⟩)->P w g o->P w' g o
def PT (k:Nat) (w:World) (g o:Nat):Prop:=w.cell? ⟨g,o,none⟩=some (.string (labelT k))
def PI (k:Nat) (w:World) (g o:Nat):Prop:=w.cell? ⟨g,o,none⟩=some (.int .i64 (-1 - (k:Int)))
def PL (k:Nat) (w:World) (g o:Nat):Prop:=∃ a c,w.cell? ⟨g,o,none⟩=some (.slice a (k+1) c)
def PR (k:Nat) (w:World) (g o:Nat):Prop:=w.cell? ⟨g,o,none⟩=some (.string ⟨#[]⟩)/\w.cell? ⟨g,o+1,none⟩=some (.slice none 0 0)/\w.cell? ⟨g,o+2,none⟩=some (.int .i64 (-1 - (k:Int)))
theorem localT (k:Nat):LocalP 1 (PT k):=fun _ _ _ _ h hp=>(h 0 (by omega)).trans hp
theorem localI (k:Nat):LocalP 1 (PI k):=fun _ _ _ _ h hp=>(h 0 (by omega)).trans hp
theorem localL (k:Nat):LocalP 1 (PL k):=fun _ _ _ _ h ⟨a,c,hp⟩=>⟨a,c,(h 0 (by omega)).trans hp⟩
theorem localR (k:Nat):LocalP 3 (PR k):=fun _ _ _ _ h hp=>⟨(h 0 (by omega)).trans hp.1,(h 1 (by omega)).trans hp.2.1,(h 2 (by omega)).trans hp.2.2⟩
structure Painted (w w2:World) (g o n s:Nat) (P:World->Nat->Nat->Prop):Prop where
 upd:Upd [g] w w2
 upd0:n=0->Upd [] w w2
 out:g < w.heap.size->∀ o',o' < o\/o+n * s<=o'->w2.cell? ⟨g,o',none⟩=w.cell? ⟨g,o',none⟩
 froz:g < w.heap.size->∀ o',w2.frozen? ⟨g,o',none⟩=w.frozen? ⟨g,o',none⟩
 there:g < w.heap.size->∀ o',(w.cell? ⟨g,o',none⟩).isSome=true->(w2.cell? ⟨g,o',none⟩).isSome=true
 ents:∀ i,i < n->P w2 g (o+i * s)
theorem Painted.start {w w1:World} (hu:Upd [] w w1) (g o s:Nat) (P:World->Nat->Nat->Prop):Painted w w1 g o 0 s P :=
 ⟨hu.mono (fun x hx _=>(by cases hx)),fun _=>hu,fun hg o' _=>hu.cell (p:=⟨g,o',none⟩) hg (by simp),fun hg o'=>hu.frozen (p:=⟨g,o',none⟩) hg (by simp),fun hg o' h=>by rw [hu.cell (p:=⟨g,o',none⟩) hg (by simp)]; exact h,fun i hi=>absurd hi (Nat.not_lt_zero _)⟩
theorem Painted.next {w wr w2:World} {g o j s:Nat} {P:World->Nat->Nat->Prop} (hl:LocalP s P) (h:Painted w wr g o j s P) (hu:Upd [g] wr w2) (hout:∀ o',o' < o+j * s\/o+j * s+s<=o'->w2.cell? ⟨g,o',none⟩=wr.cell? ⟨g,o',none⟩) (hf:∀ o',w2.frozen? ⟨g,o',none⟩=wr.frozen? ⟨g,o',none⟩)
  (hs:∀ o',(wr.cell? ⟨g,o',none⟩).isSome=true->(w2.cell? ⟨g,o',none⟩).isSome=true) (hp:P w2 g (o+j * s)):Painted w w2 g o (j+1) s P:=by
 refine ⟨h.upd.trans hu,fun e=>absurd e (by omega),fun hg o' ho=>?_,fun hg o'=>(hf o').trans (h.froz hg o'),fun hg o' ho=>hs o' (h.there hg o' ho),fun i hi=>?_⟩
 ·rw [Nat.add_mul] at ho
  exact (hout o' (by omega)).trans (h.out hg o' (by omega))
 ·by_cases e:i < j
  ·refine hl wr w2 g _ (fun c hc=>hout _ (.inl ?_)) (h.ents i e)
   have:=Nat.mul_le_mul_right s (show i+1<=j by omega)
   rw [Nat.add_mul] at this
   omega
  ·obtain rfl:i=j:=by omega
   exact hp
theorem painted_of {w w1:World} {g o n:Nat} {x:Value} {P:World->Nat->Nat->Prop} (hu:Upd [] w w1) (hg:0 < n->g < w.heap.size) (hP:∀ w' o,w'.cell? ⟨g,o,none⟩=some x->P w' g o) (hc:∀ i,i < n->(w.cell? ⟨g,o+i,none⟩).isSome=true):Painted w (paint w1 g o n x) g o n 1 P:=by
 have hc1:∀ i,i < n->(w1.cell? ⟨g,o+i,none⟩).isSome=true:=fun i hi=>by rw [hu.cell (p:=⟨g,o+i,none⟩) (hg (by omega)) (by simp)]; exact hc i hi
 refine ⟨(hu.mono (fun x hx _=>(by cases hx))).trans (paint_upd _ _ _ _ _),fun e=>by subst e; exact hu,fun hg o' ho=>?_,fun hg o'=>?_,fun hg o' h=>?_,fun i hi=>hP _ _ ?_⟩
 ·rw [paint_out (by omega)]
  exact hu.cell (p:=⟨g,o',none⟩) hg (by simp)
 ·rw [paint_frozen]
  exact hu.frozen (p:=⟨g,o',none⟩) hg (by simp)
 ·by_cases hi:o<=o'/\o' < o+n
  ·obtain ⟨i,rfl⟩:∃ i,o'=o+i:=⟨o' - o,by omega⟩
   rw [paint_in hc1 (by omega)]
   rfl
  ·rw [paint_out (by omega),hu.cell (p:=⟨g,o',none⟩) hg (by simp)]
   exact h
 ·rw [Nat.mul_one]
  exact paint_in hc1 hi
def Marked2 (w w':World) (wb f:Nat) (V:Nat->Value) (E:Nat->List Value) (v:Value) (g o n s:Nat) (P:World->Nat->Nat->Prop):Prop :=
 ∃ w2 v',Painted w w2 g o n s P/\Wrl w' wb (setW V f v') (setW E f (E f++[v]))/\Moved w (V f) v'/\Upd (wb :: (V f).ownBlock.toList) w2 w'
theorem Marked1.two {w w':World} {wb f:Nat} {V:Nat->Value} {E:Nat->List Value} {v:Value} {a:Option Addr} {g o n cap:Nat} {x:Value} {P:World->Nat->Nat->Prop} (h:Marked1 w w' wb f V E v g o n x) (hm:MayW w wb V 1 a n cap g o) (hP:∀ w' o,w'.cell? ⟨g,o,none⟩=some x->P w' g o):Marked2 w w' wb f V E v g o n 1 P:=by
 obtain ⟨w1,v',h1,h2,h3,h4⟩:=h
 exact ⟨_,v',painted_of h1 hm.lt hP (fun i hi=>(hm.cell i (by omega)).1),h2,h3,h4⟩
theorem mark_two (w:World) (wb:Nat) (V:Nat->Value) (E:Nat->List Value) (a:Option Addr) (n cap g o:Nat) (h:Wrl w wb V E) (hm:MayW w wb V 1 a n cap g o) (hE:(E 1).length<=100000000000) :
  Calls Tryz.prog 69 #[.pointer (some ⟨wb,0,none⟩),.slice a n cap] w fun e w'=>e=.returned (.tuple #[])/\Marked2 w w' wb 1 V E (.slice a n cap) g o n 1 (PT (E 1).length) :=
 (mark_any w wb V E a n cap g o h hm hE).mono fun _ _ ⟨he,hk⟩=>⟨he,hk.two hm (fun _ _ e=>e)⟩
theorem markInts_two (w:World) (wb:Nat) (V:Nat->Value) (E:Nat->List Value) (a:Option Addr) (n cap g o:Nat) (h:Wrl w wb V E) (hm:MayW w wb V 1 a n cap g o) (hE:(E 3).length<=100000000000) :
  Calls Tryz.prog 72 #[.pointer (some ⟨wb,0,none⟩),.slice a n cap] w fun e w'=>e=.returned (.tuple #[])/\Marked2 w w' wb 3 V E (.slice a n cap) g o n 1 (PI (E 3).length) :=
 (markInts_any w wb V E a n cap g o h hm hE).mono fun _ _ ⟨he,hk⟩=>⟨he,hk.two hm (fun _ _ e=>e)⟩
theorem Wrl.painted {w w2:World} {wb:Nat} {V:Nat->Value} {E:Nat->List Value} {a:Option Addr} {n cap g o s j:Nat} {P:World->Nat->Nat->Prop} (h:Wrl w wb V E) (hm:MayW w wb V s a n cap g o) (hp:Painted w w2 g o j s P) (hj:0 < j->0 < n):Wrl w2 wb V E:=by
 by_cases h0:0 < j
 ·exact h.later hp.upd (fun k hk hm'=>by simp at hm'; subst hm'; exact hm.out (hj h0) hk)
 ·exact h.later (hp.upd0 (by omega)) (fun _ _=>by simp)
theorem info_rowsW:(Tryz.prog.info? 46).map (fun i=>(i.zero,i.size,i.bytes))=some (some (.slice none 0 0),1,24):=by kernel_rfl
theorem info_listsW:(Tryz.prog.info? 33).map (fun i=>(i.zero,i.size,i.bytes))=some (some (.slice none 0 0),1,24):=by kernel_rfl
theorem set_there {w:World} {p:Addr} {u:Value} {g o':Nat} (h:(w.cell? ⟨g,o',none⟩).isSome=true):((w.setCell p u).cell? ⟨g,o',none⟩).isSome=true:=by
 by_cases e:(⟨g,o',none⟩:Addr)=p
 ·subst e
  obtain ⟨x,hx⟩:=Option.isSome_iff_exists.1 h
  rw [World.cell?_setCell_same _ _ _ hx]
  rfl
 ·rw [World.cell?_setCell_other _ _ _ _ (fun h=>e h.symm)]
  exact h
theorem markRows_any (w:World) (wb:Nat) (V:Nat->Value) (E:Nat->List Value) (a:Option Addr) (n cap g o:Nat) (h:Wrl w wb V E) (hm:MayW w wb V 3 a n cap g o) (hE:(E 4).length<=100000000000) :
  Calls Tryz.prog 74 #[.pointer (some ⟨wb,0,none⟩),.slice a n cap] w fun e w'=>e=.returned (.tuple #[])/\Marked2 w w' wb 4 V E (.slice a n cap) g o n 3 (PR (E 4).length):=by
 obtain ⟨i0,hi,hz0,hz1,hz2⟩:=info_parts info_rowsW
 have hrow1:=h.row 4 (by omega)
 obtain ⟨k,hk⟩:∃ k,(E 4).length=k:=⟨_,rfl⟩
 rw [hk] at hrow1 hE
 obtain ⟨a1,cap1,hv1⟩:=slice_len hrow1
 have c0:=h.cell 4 (by omega)
 rw [hv1] at c0
 rw [hk]
 have Hh:=hide h
 have Hm:=hide hm
 have hle:=hm.le
 have hmax:=hm.max
 unfold maxLen at hmax
 have Hk:=hide hk
 have Hv1:=hide hv1
 have Hat:=hide hm.at_
 clear h hm hk hv1 hrow1
 go_enter Tryz.func74,Tryz.ntmps74
 clear c0
 go_wp2_with fail
 go_loopw [4] (fun iv wr=>∃ j:Nat,j<=n/\iv=.int .i64 j/\Hid (Painted w wr g o j 3 (PR k))) (fun iv _=>n - (intOf iv).toNat)
 case atStart=>exact ⟨0,Nat.zero_le _,rfl,Painted.start (Upd.refl _ _) _ _ _ _⟩
 case round =>
  obtain ⟨j,hj,rfl,HW⟩:=hrel
  by_cases hjn:j < n
  ·have hjI:(j:Int) < (n:Int):=by omega
   have hat:=Hat.out (by omega)
   subst hat
   have hglt:=Hm.out.lt (by omega)
   have hcs:∀ c,c < 3->(∃ u,wr.cell? ⟨g,o+j * 3+c,none⟩=some u)/\wr.frozen? ⟨g,o+j * 3+c,none⟩=false:=fun c hc=>by
    obtain ⟨g1,g2⟩:=Hm.out.cell (j * 3+c) (by omega)
    rw [<- Nat.add_assoc] at g1 g2
    exact ⟨Option.isSome_iff_exists.1 (HW.out.there hglt _ g1),by rw [HW.out.froz hglt]; exact g2⟩
   obtain ⟨⟨u0,z0⟩,f0⟩:=hcs 0 (by omega)
   obtain ⟨⟨u1,z1⟩,f1⟩:=hcs 1 (by omega)
   obtain ⟨⟨u2,z2⟩,f2⟩:=hcs 2 (by omega)
   rw [Nat.add_zero] at z0 f0
   have hwj:=Hh.out.painted Hm.out HW.out (fun _=>by omega)
   have c1:=hwj.cell 4 (by omega)
   rw [Hv1.out] at c1
   have HNx:Hid (Painted w (((wr.setCell ⟨g,o+j * 3,none⟩ (.string ⟨#[]⟩)).setCell ⟨g,o+j * 3+1,none⟩ (.slice none 0 0)).setCell ⟨g,o+j * 3+2,none⟩ (.int .i64 (-1 - (k:Int)))) g o (j+1) 3 (PR k)):=by
    refine HW.out.next (localR k) ((((Upd.refl [g] wr).setCell (by simp) _).setCell (by simp) _).setCell (by simp) _) (fun o' ho=>?_) (fun o'=>by simp) (fun o' h=>set_there (set_there (set_there h))) ⟨?_,?_,?_⟩
    ·rw [World.cell?_setCell_other _ _ _ _ (fun e=>by cases e; omega),World.cell?_setCell_other _ _ _ _ (fun e=>by cases e; omega),World.cell?_setCell_other _ _ _ _ (fun e=>by cases e; omega)]
    ·go_simp
    ·go_simp
    ·go_simp
   clear hcs hwj
   go_wp2
   exact ⟨⟨j+1,by omega,by go_num,HNx.out⟩,by simp [intOf]; omega⟩
  ·have hjI:¬ (j:Int) < (n:Int):=by omega
   have hje:j=n:=by omega
   rw [hje] at HW
   have hw:=Hh.out.painted Hm.out HW.out (fun h=>h)
   have c1:=hw.cell 4 (by omega)
   have fr:=hw.free
   rw [Hv1.out] at c1
   have hrw:=(hw.later ((Upd.refl [] wr).alloc (.cells #[.slice a n cap] 46)) (fun _ _=>by simp)).row 4 (by omega)
   rw [Hk.out,Hv1.out] at hrw
   have Hrw:Hid ((wr.alloc (.cells #[.slice a n cap] 46)).ownsRow 0 46 1 (.slice a1 k cap1) k (E 4)):=hrw
   have Hnews:Hid (∀ q u,[Value.slice a n cap][q]?=some u->(wr.alloc (.cells #[.slice a n cap] 46)).cell? ((⟨wr.heap.size,0,none⟩:Addr).add q)=some u):=World.news_of_block (heap_alloc_new _ _)
   have hone:Hid (∀ u ∈ [Value.slice a n cap],u.oneCell'=true):=(fun u hu'=>by simp at hu'; subst hu'; rfl)
   have hlm:k+1<=maxLen:=by unfold maxLen; omega
   have hlb:(k+1) * 24<=140737488355328:=by omega
   have HK:Hid (∀ w3,(wr.alloc (.cells #[.slice a n cap] 46)).grownBy w3 (Value.slice a1 k cap1).ownBlock->w3.cell? ⟨wb,4,none⟩=some (.slice a1 k cap1)/\∀ o,w3.frozen? ⟨wb,o,none⟩=false):=fun w3 hg=>by
    have U:=((Upd.refl (Value.slice a1 k cap1).ownBlock.toList wr).alloc (.cells #[.slice a n cap] 46)).trans (Upd.of_grown hg)
    have hn:wb ∉ (Value.slice a1 k cap1).ownBlock.toList:=fun hm=>hw.out 4 (by omega) (by rw [Hv1.out]; simpa using hm)
    exact ⟨(U.cell (p:=⟨wb,4,none⟩) hw.lt hn).trans c1,fun o=>(U.frozen (p:=⟨wb,o,none⟩) hw.lt hn).trans (fr o)⟩
   have HFin:Hid (∀ g3 cap3 w3,(wr.alloc (.cells #[.slice a n cap] 46)).grownBy w3 (Value.slice a1 k cap1).ownBlock->w3.ownsRow 0 46 1 (.slice (some ⟨g3,0,none⟩) (k+1) cap3) (k+1) (E 4++[.slice a n cap])->((Value.slice a1 k cap1).ownBlock=some g3\/g3=(wr.alloc (.cells #[.slice a n cap] 46)).heap.size)->Marked2 w (w3.setCell ⟨wb,4,none⟩ (.slice (some ⟨g3,0,none⟩) (k+1) cap3)) wb 4 V E (.slice a n cap) g o n 3 (PR k)):=fun g3 cap3 w3 hg ho hat=>by
    have hwA:=hw.later ((Upd.refl [] wr).alloc (.cells #[.slice a n cap] 46)) (fun _ _=>by simp)
    rw [<- Hv1.out] at hg hat
    have hmv:Moved (wr.alloc (.cells #[.slice a n cap] 46)) (V 4) (.slice (some ⟨g3,0,none⟩) (k+1) cap3):=by
     rcases hat with e | e
     ·exact .inl e.symm
     ·exact .inr ⟨g3,rfl,by omega⟩
    obtain ⟨p1,p2⟩:=hwA.push (by omega) hg (by rw [Hk.out]; exact ho) hmv
    have hsw:w.heap.size<=wr.heap.size:=HW.out.upd.size
    refine ⟨wr,_,HW.out,p1,?_,?_⟩
    ·rcases hat with e | e
     ·exact .inl e.symm
     ·exact .inr ⟨g3,rfl,by simp at e; omega⟩
    ·exact ((Upd.refl _ wr).alloc _).trans p2
   clear hrw hw hje HW
   go_wp2_with (at_builtin; go_must (refine wpList_append_lies _ rfl _ _ 36 rfl 0 46 i0 (.slice none 0 0) 1 24 Tryz.underlying36 hi hz0 hz1 hz2 rfl (by decide) _ _ _ rfl Hrw.out ⟨wr.heap.size,0,none⟩ 1 1 [.slice a n cap] rfl rfl Hnews.out hone.out (by decide) hlm hlb (by simp) _ rfl ?_); intro g3 cap3 w3 hown3 hgrow3 hat3 hlt3; obtain ⟨x1,x2⟩:=HK.out w3 hgrow3)
   go_end0
   exact ⟨rfl,HFin.out g3 cap3 w3 hgrow3 hown3 hat3⟩
theorem markLists_any (w:World) (wb:Nat) (V:Nat->Value) (E:Nat->List Value) (a:Option Addr) (n cap g o:Nat) (h:Wrl w wb V E) (hm:MayW w wb V 1 a n cap g o) (hE:(E 2).length<=100000000000) :
  Calls Tryz.prog 67 #[.pointer (some ⟨wb,0,none⟩),.slice a n cap] w fun e w'=>e=.returned (.tuple #[])/\Marked2 w w' wb 2 V E (.slice a n cap) g o n 1 (PL (E 2).length):=by
 obtain ⟨i0,hi,hz0,hz1,hz2⟩:=info_parts info_listsW
 have hrow1:=h.row 2 (by omega)
 obtain ⟨k,hk⟩:∃ k,(E 2).length=k:=⟨_,rfl⟩
 rw [hk] at hrow1 hE
 obtain ⟨a1,cap1,hv1⟩:=slice_len hrow1
 have c0:=h.cell 2 (by omega)
 rw [hv1] at c0
 rw [hk]
 have Hh:=hide h
 have Hm:=hide hm
 have hle:=hm.le
 have hmax:=hm.max
 unfold maxLen at hmax
 have Hk:=hide hk
 have Hv1:=hide hv1
 have Hat:=hide hm.at_
 clear h hm hk hv1 hrow1
 go_enter Tryz.func67,Tryz.ntmps67
 clear c0
 go_wp2_with fail
 go_loopw [4] (fun iv wr=>∃ j:Nat,j<=n/\iv=.int .i64 j/\Hid (Painted w wr g o j 1 (PL k))) (fun iv _=>n - (intOf iv).toNat)
 case atStart=>exact ⟨0,Nat.zero_le _,rfl,Painted.start (Upd.refl _ _) _ _ _ _⟩
 case round =>
  obtain ⟨j,hj,rfl,HW⟩:=hrel
  by_cases hjn:j < n
  ·have hjI:(j:Int) < (n:Int):=by omega
   have hat:=Hat.out (by omega)
   subst hat
   obtain ⟨g1,g2⟩:=Hm.out.cell j (by omega)
   have hglt:=Hm.out.lt (by omega)
   obtain ⟨u,z1⟩:=Option.isSome_iff_exists.1 (HW.out.there hglt _ g1)
   have z2:wr.frozen? ⟨g,o+j,none⟩=false:=by rw [HW.out.froz hglt]; exact g2
   have hwj:=Hh.out.painted Hm.out HW.out (fun _=>by omega)
   have c1:=hwj.cell 2 (by omega)
   rw [Hv1.out] at c1
   have hgw:g < wr.heap.size:=Nat.lt_of_lt_of_le hglt HW.out.upd.size
   have hmk:=run_make_row' (P:=Tryz.prog) 50 9 (.string ⟨#[]⟩) 16 Tryz.underlying50 info_str rfl .i64 .i64 (k+1) (by omega) (by omega) wr
   rw [show ((k+1:Nat):Int)=1+(k:Int) by omega] at hmk
   have HNx:Hid (∀ X:Obj,Painted w ((wr.setCell ⟨g,o+j,none⟩ (.slice (some ⟨wr.heap.size,0,none⟩) (k+1) (k+1))).alloc X) g o (j+1) 1 (PL k)):=fun X=>by
    obtain ⟨v,hv⟩:∃ v,v=Value.slice (some ⟨wr.heap.size,0,none⟩) (k+1) (k+1):=⟨_,rfl⟩
    rw [<- hv]
    have hgs:g < (wr.setCell ⟨g,o+j,none⟩ v).heap.size:=by simpa using hgw
    have hca:∀ o',((wr.setCell ⟨g,o+j,none⟩ v).alloc X).cell? ⟨g,o',none⟩=(wr.setCell ⟨g,o+j,none⟩ v).cell? ⟨g,o',none⟩:=fun o'=>((Upd.refl [] (wr.setCell ⟨g,o+j,none⟩ v)).alloc X).cell (p:=⟨g,o',none⟩) hgs (by simp)
    refine HW.out.next (localL k) (((Upd.refl [g] wr).setCell (by simp) _).alloc X) (fun o' ho=>?_) (fun o'=>?_) (fun o' h=>by rw [hca]; exact set_there h) ⟨some ⟨wr.heap.size,0,none⟩,k+1,?_⟩
    ·rw [hca,World.cell?_setCell_other _ _ _ _ (fun e=>by cases e; omega)]
    ·rw [((Upd.refl [] (wr.setCell ⟨g,o+j,none⟩ v)).alloc X).frozen (p:=⟨g,o',none⟩) hgs (by simp),World.frozen?_setCell]
    ·rw [Nat.mul_one,hca,<- hv]
     exact World.cell?_setCell_same _ _ _ z1
   clear hwj
   go_wp2
   exact ⟨⟨j+1,by omega,by go_num,HNx.out _⟩,by simp [intOf]; omega⟩
  ·have hjI:¬ (j:Int) < (n:Int):=by omega
   have hje:j=n:=by omega
   rw [hje] at HW
   have hw:=Hh.out.painted Hm.out HW.out (fun h=>h)
   have c1:=hw.cell 2 (by omega)
   have fr:=hw.free
   rw [Hv1.out] at c1
   have hrw:=(hw.later ((Upd.refl [] wr).alloc (.cells #[.slice a n cap] 33)) (fun _ _=>by simp)).row 2 (by omega)
   rw [Hk.out,Hv1.out] at hrw
   have Hrw:Hid ((wr.alloc (.cells #[.slice a n cap] 33)).ownsRow 0 33 1 (.slice a1 k cap1) k (E 2)):=hrw
   have Hnews:Hid (∀ q u,[Value.slice a n cap][q]?=some u->(wr.alloc (.cells #[.slice a n cap] 33)).cell? ((⟨wr.heap.size,0,none⟩:Addr).add q)=some u):=World.news_of_block (heap_alloc_new _ _)
   have hone:Hid (∀ u ∈ [Value.slice a n cap],u.oneCell'=true):=(fun u hu'=>by simp at hu'; subst hu'; rfl)
   have hlm:k+1<=maxLen:=by unfold maxLen; omega
   have hlb:(k+1) * 24<=140737488355328:=by omega
   have HK:Hid (∀ w3,(wr.alloc (.cells #[.slice a n cap] 33)).grownBy w3 (Value.slice a1 k cap1).ownBlock->w3.cell? ⟨wb,2,none⟩=some (.slice a1 k cap1)/\∀ o,w3.frozen? ⟨wb,o,none⟩=false):=fun w3 hg=>by
    have U:=((Upd.refl (Value.slice a1 k cap1).ownBlock.toList wr).alloc (.cells #[.slice a n cap] 33)).trans (Upd.of_grown hg)
    have hn:wb ∉ (Value.slice a1 k cap1).ownBlock.toList:=fun hm=>hw.out 2 (by omega) (by rw [Hv1.out]; simpa using hm)
    exact ⟨(U.cell (p:=⟨wb,2,none⟩) hw.lt hn).trans c1,fun o=>(U.frozen (p:=⟨wb,o,none⟩) hw.lt hn).trans (fr o)⟩
   have HFin:Hid (∀ g3 cap3 w3,(wr.alloc (.cells #[.slice a n cap] 33)).grownBy w3 (Value.slice a1 k cap1).ownBlock->w3.ownsRow 0 33 1 (.slice (some ⟨g3,0,none⟩) (k+1) cap3) (k+1) (E 2++[.slice a n cap])->((Value.slice a1 k cap1).ownBlock=some g3\/g3=(wr.alloc (.cells #[.slice a n cap] 33)).heap.size)->Marked2 w (w3.setCell ⟨wb,2,none⟩ (.slice (some ⟨g3,0,none⟩) (k+1) cap3)) wb 2 V E (.slice a n cap) g o n 1 (PL k)):=fun g3 cap3 w3 hg ho hat=>by
    have hwA:=hw.later ((Upd.refl [] wr).alloc (.cells #[.slice a n cap] 33)) (fun _ _=>by simp)
    rw [<- Hv1.out] at hg hat
    have hmv:Moved (wr.alloc (.cells #[.slice a n cap] 33)) (V 2) (.slice (some ⟨g3,0,none⟩) (k+1) cap3):=by
     rcases hat with e | e
     ·exact .inl e.symm
     ·exact .inr ⟨g3,rfl,by omega⟩
    obtain ⟨p1,p2⟩:=hwA.push (by omega) hg (by rw [Hk.out]; exact ho) hmv
    have hsw:w.heap.size<=wr.heap.size:=HW.out.upd.size
    refine ⟨wr,_,HW.out,p1,?_,?_⟩
    ·rcases hat with e | e
     ·exact .inl e.symm
     ·exact .inr ⟨g3,rfl,by simp at e; omega⟩
    ·exact ((Upd.refl _ wr).alloc _).trans p2
   clear hrw hw hje HW
   go_wp2_with (at_builtin; go_must (refine wpList_append_lies _ rfl _ _ 34 rfl 0 33 i0 (.slice none 0 0) 1 24 Tryz.underlying34 hi hz0 hz1 hz2 rfl (by decide) _ _ _ rfl Hrw.out ⟨wr.heap.size,0,none⟩ 1 1 [.slice a n cap] rfl rfl Hnews.out hone.out (by decide) hlm hlb (by simp) _ rfl ?_); intro g3 cap3 w3 hown3 hgrow3 hat3 hlt3; obtain ⟨x1,x2⟩:=HK.out w3 hgrow3)
   go_end0
   exact ⟨rfl,HFin.out g3 cap3 w3 hgrow3 hown3 hat3⟩
structure Hall (w:World) (s:Nat) (ao:Option Addr) (b cap:Nat):Prop where
 max:cap<=maxLen
 addr:0 < cap->ao=some ⟨b,0,none⟩
 lt:0 < cap->b < w.heap.size
 cell:∀ j,j < cap * s->(w.cell? ⟨b,j,none⟩).isSome=true/\w.frozen? ⟨b,j,none⟩=false
theorem Hall.later {w w':World} {L:List Nat} {s b cap:Nat} {ao:Option Addr} (h:Hall w s ao b cap) (hu:Upd L w w') (hL:0 < cap->b ∉ L):Hall w' s ao b cap:=by
 refine ⟨h.max,h.addr,fun h0=>Nat.lt_of_lt_of_le (h.lt h0) hu.size,fun j hj=>?_⟩
 have h0:0 < cap:=Nat.pos_of_ne_zero (fun e=>by subst e; simp at hj)
 rw [hu.cell (p:=⟨b,j,none⟩) (h.lt h0) (hL h0),hu.frozen (p:=⟨b,j,none⟩) (h.lt h0) (hL h0)]
 exact h.cell j hj
theorem Hall.painted {w w':World} {s b cap g o n s':Nat} {ao:Option Addr} {P:World->Nat->Nat->Prop} (h:Hall w s ao b cap) (hp:Painted w w' g o n s' P):Hall w' s ao b cap:=by
 by_cases e:b=g
 ·subst e
  refine ⟨h.max,h.addr,fun h0=>Nat.lt_of_lt_of_le (h.lt h0) hp.upd.size,fun j hj=>?_⟩
  have h0:0 < cap:=Nat.pos_of_ne_zero (fun e=>by subst e; simp at hj)
  exact ⟨hp.there (h.lt h0) _ (h.cell j hj).1,by rw [hp.froz (h.lt h0)]; exact (h.cell j hj).2⟩
 ·exact h.later hp.upd (fun _=>by simp [e])
theorem Hall.of_row {w:World} {base e s n:Nat} {v:Value} {xs:List Value} (h:w.ownsRow base e s v n xs):∃ ao b cap,v=.slice ao n cap/\n<=cap/\Hall w s ao b cap/\(0 < cap->v.ownBlock=some b):=by
 rcases h.2 with ⟨h1,h2⟩ | ⟨g,cap,cur,h1,h2,h3,h4,h5,h6,h7⟩
 ·subst h2
  exact ⟨none,0,0,h1,Nat.le_refl _,⟨by unfold maxLen; omega,fun h=>absurd h (Nat.lt_irrefl _),fun h=>absurd h (Nat.lt_irrefl _),fun j hj=>by simp at hj⟩,fun h=>absurd h (Nat.lt_irrefl _)⟩
 ·refine ⟨_,g,cap,h1,h4,⟨h5,fun _=>rfl,fun _=>?_,fun j hj=>?_⟩,fun _=>by rw [h1]; rfl⟩
  ·obtain ⟨hl,_⟩:=Array.getElem?_eq_some_iff.1 h3
   exact hl
  ·have:=cell_of_row w g j cur e (0,0) h3
   refine ⟨by rw [this,Array.getElem?_eq_getElem (by omega)]; rfl,?_⟩
   unfold World.frozen?
   rw [h3]
   simp
theorem firstCells_any (s n:Nat) (ao:Option Addr) (b cap:Nat) (w:World) (h:Hall w s ao b cap) (hn:n<=cap):∃ xs:List Value,xs.length=n * s/\(∀ j u,xs[j]?=some u->w.cell? ⟨b,j,none⟩=some u)/\∀ w':World,(∀ a,w'.cell? a=w.cell? a)->(Builtin.firstCells s n (.slice ao n cap)).run Tryz.prog w'=.ok xs.toArray w':=by
 by_cases h0:0 < cap
 ·have hao:=h.addr h0
  subst hao
  refine ⟨(List.range (n * s)).map (fun j=>(w.cell? ⟨b,j,none⟩).getD (.bool false)),by simp,fun j u hu=>?_,fun w' hw=>?_⟩
  ·rw [List.getElem?_map] at hu
   obtain ⟨q,hq,rfl⟩:=Option.map_eq_some_iff.1 hu
   obtain ⟨hl,e⟩:=List.getElem?_eq_some_iff.1 hq
   simp at e hl
   subst e
   have:=Nat.mul_le_mul_right s hn
   obtain ⟨x,hx⟩:=Option.isSome_iff_exists.1 (h.cell j (by omega)).1
   rw [hx]
   rfl
  ·refine run_firstCells_some w' s n ⟨b,0,none⟩ n cap _ (by simp) (fun j u hu=>?_)
   rw [Addr.add_lit,Nat.zero_add,hw]
   rw [List.getElem?_map] at hu
   obtain ⟨q,hq,rfl⟩:=Option.map_eq_some_iff.1 hu
   obtain ⟨hl,e⟩:=List.getElem?_eq_some_iff.1 hq
   simp at e hl
   subst e
   have:=Nat.mul_le_mul_right s hn
   obtain ⟨x,hx⟩:=Option.isSome_iff_exists.1 (h.cell j (by omega)).1
   rw [hx]
   rfl
 ·obtain rfl:cap=0:=by omega
  obtain rfl:n=0:=by omega
  refine ⟨[],by simp,fun j u hu=>by simp at hu,fun w' _=>?_⟩
  cases ao with
  | none=>exact run_firstCells_none w' s 0 0 0
  | some a=>exact run_firstCells_some w' s 0 a 0 0 [] (by simp) (fun j u hu=>by simp at hu)
theorem append_one {w:World} {s b cap m bytes t e:Nat} {ao:Option Addr} {x z:Value} {news:List Value} {i0:TypeInfo} (hut:Tryz.prog.underlying t=some (.slice e)) (hi:Tryz.prog.info? e=some i0) (hz0:i0.zero=some z) (hz1:i0.size=s) (hz2:i0.bytes=bytes) (hzs:z.cells.size=s)
  (h:Hall w s ao b cap) (hm:m<=cap) (hs:Src Tryz.prog s t x 1 news w) (hns:news.length=s) (hb:m<=1000000) (hby:bytes<=1000) (ty:TypeId) :
  ∃ ao' b' cap' w',(Builtin.append_ #[t,t] ty #[.slice ao m cap,x]).run Tryz.prog w=.ok (.slice ao' (m+1) cap') w'/\m+1<=cap'/\Hall w' s ao' b' cap'/\Painted w w' b (m * s) 1 s (fun _ _ _=>True)/\((b'=b/\0 < cap)\/(b'=w.heap.size/\Upd [] w w')):=by
 have hs':Src Tryz.prog i0.size t x 1 news w:=by rw [hz1]; exact hs
 by_cases hroom:m+1<=cap
 ·have hao:=h.addr (by omega)
  subst hao
  have hbl:=h.lt (by omega)
  have hmc:=Nat.mul_le_mul_right s hroom
  rw [Nat.add_mul,Nat.one_mul] at hmc
  have hrun:=run_append_room_src (P:=Tryz.prog) w t t ty e i0 hut hi b 0 m cap x 1 news hs' hroom
   (fun j hj=>by rw [hz1,Nat.zero_add]; exact (h.cell _ (by omega)).1) (fun j hj=>by rw [hz1,Nat.zero_add]; exact (h.cell _ (by omega)).2)
  rw [hz1,Nat.zero_add] at hrun
  obtain ⟨hu,hsz⟩:=setCells_block b news (m * s) w
  have hp:Painted w (w.setCells b (m * s) news) b (m * s) 1 s (fun _ _ _=>True):=by
   refine ⟨hu,fun e=>absurd e (by omega),fun _ o' ho=>?_,fun _ o'=>World.frozen?_setCells b _ _ w _,fun _ o' ho=>?_,fun _ _=>trivial⟩
   ·exact World.cell?_setCells_out b _ _ w _ (fun _ _=>by rw [hns]; show o' < m * s\/m * s+s<=o'; omega)
   ·by_cases hin:m * s<=o'/\o' < m * s+s
    ·obtain ⟨q,rfl⟩:∃ q,o'=m * s+q:=⟨o' - m * s,by omega⟩
     rw [World.cell?_setCells_in b news (m * s) w (fun j hj=>(h.cell _ (by omega)).1) q (by omega)]
     rfl
    ·rw [World.cell?_setCells_out b _ _ w _ (fun _ _=>by rw [hns]; show o' < m * s\/m * s+s<=o'; omega)]
     exact ho
  exact ⟨_,b,cap,_,hrun,hroom,h.painted hp,hp,.inl ⟨rfl,by omega⟩⟩
 ·obtain rfl:m=cap:=by omega
  obtain ⟨xs,hxl,_,hfc⟩:=firstCells_any s m ao b m w h (Nat.le_refl _)
  have hold:(Builtin.firstCells i0.size m (.slice ao m m)).run Tryz.prog w.drew=.ok xs.toArray w.drew:=by
   rw [hz1]
   exact hfc w.drew (fun _=>rfl)
  have hgrow:=run_append_grow_src (P:=Tryz.prog) w t t ty e i0 _ hut hi hz0 ao m m xs hold x 1 news hs' (by omega) (by omega) (growslice_fits (bytes:=i0.bytes) (by omega) (by rw [hz2]; exact Nat.le_trans (Nat.mul_le_mul (show m+1<=1000001 by omega) hby) (by decide)))
  have hge:=grownCap_ge w (m+1) m e
  have hcm:grownCap w (m+1) m e<=maxLen:=grownCap_le_maxLen w _ m e (by unfold maxLen; omega)
  have U:Upd [] w (w.drew.alloc (.cells ((xs++news).toArray++Builtin.zeroCells z.cells (grownCap w (m+1) m e - (m+1))) e)):=((Upd.refl [] w).drew).alloc _
  have hnew:w.heap.size < (w.drew.alloc (.cells ((xs++news).toArray++Builtin.zeroCells z.cells (grownCap w (m+1) m e - (m+1))) e)).heap.size:=by
   show w.heap.size < (w.heap.push _).size
   rw [Array.size_push]
   omega
  refine ⟨_,w.heap.size,_,_,hgrow,hge,⟨hcm,fun _=>rfl,fun _=>hnew,fun j hj=>?_⟩,?_,.inr ⟨rfl,U⟩⟩
  ·have h1:=cell_new_row (w:=w.drew) (j:=j) (e:=e) (arr:=(xs++news).toArray++Builtin.zeroCells z.cells (grownCap w (m+1) m e - (m+1)))
   refine ⟨?_,h1.2⟩
   refine (congrArg Option.isSome h1.1).trans ?_
   rw [Option.isSome_iff_ne_none]
   intro e2
   rw [Array.getElem?_eq_none_iff] at e2
   simp only [Array.size_append,List.size_toArray,size_zeroCells,List.length_append,hxl,hns,hzs] at e2
   have e3:∀ G,m+1<=G->G * s=m * s+s+(G - (m+1)) * s:=fun G hG=>by
    obtain ⟨d,rfl⟩:∃ d,G=m+1+d:=⟨G - (m+1),by omega⟩
    rw [show m+1+d - (m+1)=d by omega,Nat.add_mul,Nat.add_mul,Nat.one_mul]
   have e4:=e3 _ hge
   omega
  ·refine ⟨U.mono (fun x hx _=>(by cases hx)),fun _=>U,fun hg o' _=>U.cell (p:=⟨b,o',none⟩) hg (by simp),fun hg o'=>U.frozen (p:=⟨b,o',none⟩) hg (by simp),fun hg o' ho=>by rw [U.cell (p:=⟨b,o',none⟩) hg (by simp)]; exact ho,fun _ _=>trivial⟩
theorem wpList_append_one (w:World) {ops:Array Oper} {rest:List Oper} {o:Oper} {a:Act} {Q:Exit->Act->World->Prop} (hgd:o.guard=none) (sl x:Operand) (t:TypeId) (ho:o.op=.call { callee:=.builtin .append,args:=#[sl,x],argTypes:=#[t,t] })
  {s b cap m bytes e:Nat} {ao:Option Addr} {xv z:Value} {news:List Value} {i0:TypeInfo} (hut:Tryz.prog.underlying t=some (.slice e)) (hi:Tryz.prog.info? e=some i0) (hz0:i0.zero=some z) (hz1:i0.size=s) (hz2:i0.bytes=bytes) (hzs:z.cells.size=s)
  (hv:a.eval sl=.slice ao m cap) (hx:a.eval x=xv) (h:Hall w s ao b cap) (hm:m<=cap) (hs:Src Tryz.prog s t xv 1 news w) (hns:news.length=s) (hb:m<=1000000) (hby:bytes<=1000)
  (hK:∀ ao' b' cap' w',m+1<=cap'->Hall w' s ao' b' cap'->Painted w w' b (m * s) 1 s (fun _ _ _=>True)->((b'=b/\0 < cap)\/(b'=w.heap.size/\Upd [] w w'))->wpList Tryz.prog ops Q rest (a.put o.dst (.slice ao' (m+1) cap')) w'):wpList Tryz.prog ops Q (o :: rest) a w:=by
 refine wpList_plain hgd fun K hK'=>?_
 obtain ⟨ao',b',cap',w',hrun,h1,h2,h3,h4⟩:=append_one hut hi hz0 hz1 hz2 hzs h hm hs hns hb hby o.type
 unfold Oper.wp
 simp [execOp,ho,resolve,invoke,builtin,hv,hx,hrun,Result.andThen]
 exact hK' _ _ (hK ao' b' cap' w' h1 h2 h3 h4)
end Go.Proofs.YtmfkpllnmmfpiaaGreatDoor
