/- Frame, Text, Parse, TermHeap, MapHeap, WebHeap -/
import Derived.WalkKit
import Derived.WalkSpells
import Derived.Deep.QuietTactic
import Derived.BigQuiet
import Derived.WalkLawsBesides
import Derived.Handy
import Derived.Deep.RegionWith
import Derived.BigRegion
import Derived.Deep.RegionHeld3
import Derived.Deep.DeepCutAuto
import Derived.PlainAid
import Derived.Deep.AppendLies
import Derived.Test.YtmfkpllnmmfpiaaGreatDoorRows
import Derived.Maps.OwnSet
import Derived.Maps.OwnOps
import Derived.DeepKeys4
set_option maxHeartbeats 16000000
set_option maxRecDepth 100000
namespace Go.Proofs.YtmfkpllnmmfpiaaGreatDoor
open Go.RowKit Go.Maps
structure Upd (L:List Nat) (w w':World):Prop where
 os:w'.os=w.os
 tape:w'.tape=w.tape
 output:w'.output=w.output
 size:w.heap.size<=w'.heap.size
 block:∀ k,k < w.heap.size->k ∉ L->w'.heap[k]?=w.heap[k]?
theorem Upd.refl (L:List Nat) (w:World):Upd L w w:=⟨rfl,rfl,rfl,Nat.le_refl _,fun _ _ _=>rfl⟩
theorem Upd.trans' {L L':List Nat} {a b c:World} (h:Upd L a b) (k:Upd L' b c) (hL:∀ x,x ∈ L'->x < a.heap.size->x ∈ L):Upd L a c :=
 ⟨k.os.trans h.os,k.tape.trans h.tape,k.output.trans h.output,Nat.le_trans h.size k.size,
  fun i hi hn=>(k.block i (Nat.lt_of_lt_of_le hi h.size) (fun hm=>hn (hL i hm hi))).trans (h.block i hi hn)⟩
theorem Upd.trans {L:List Nat} {a b c:World} (h:Upd L a b) (k:Upd L b c):Upd L a c:=h.trans' k (fun _ hx _=>hx)
theorem Upd.mono {L L':List Nat} {a b:World} (h:Upd L a b) (hL:∀ x,x ∈ L->x < a.heap.size->x ∈ L'):Upd L' a b :=
 ⟨h.os,h.tape,h.output,h.size,fun i hi hn=>h.block i hi (fun hm=>hn (hL i hm hi))⟩
theorem Upd.drew {L:List Nat} {a w:World} (h:Upd L a w):Upd L a w.drew:=⟨h.os,h.tape,h.output,h.size,h.block⟩
theorem Upd.drewN {L:List Nat} {a w:World} (h:Upd L a w) (n:Nat):Upd L a (w.drewN n):=h.trans ⟨rfl,rfl,rfl,Nat.le_refl _,fun _ _ _=>rfl⟩
theorem Upd.alloc {L:List Nat} {a w:World} (h:Upd L a w) (o:Obj):Upd L a (w.alloc o) :=
 h.trans ⟨rfl,rfl,rfl,by simp,fun _ hk _=>Below.heap_alloc _ _ _ hk⟩
theorem Upd.setCell {L:List Nat} {a w:World} (h:Upd L a w) {p:Addr} (hp:p.block ∈ L\/a.heap.size<=p.block) (u:Value):Upd L a (w.setCell p u) :=
 ⟨h.os,h.tape,h.output,by simpa [World.setCell] using h.size,fun k hk hn=>by
  have hne:k ≠ p.block:=by
   rcases hp with hp | hp
   ·intro e; exact hn (e ▸ hp)
   ·omega
  rw [Below.heap_setCell _ _ _ _ hne]
  exact h.block k hk hn⟩
theorem Upd.of_below {L:List Nat} {w w':World} (h:Below w.heap.size w w'):Upd L w w':=⟨h.os,h.tape,h.output,h.size,fun k hk _=>h.block k hk⟩
theorem Upd.below {w w':World} (h:Upd [] w w'):Below w.heap.size w w':=⟨h.os,h.tape,h.output,h.size,fun k hk=>h.block k hk (by simp)⟩
theorem Upd.cell {L:List Nat} {w w':World} (h:Upd L w w') {p:Addr} (hp:p.block < w.heap.size) (hn:p.block ∉ L):w'.cell? p=w.cell? p:=World.cell?_of_block (w:=w) (h.block p.block hp hn)
theorem Upd.frozen {L:List Nat} {w w':World} (h:Upd L w w') {p:Addr} (hp:p.block < w.heap.size) (hn:p.block ∉ L):w'.frozen? p=w.frozen? p:=World.frozen?_of_block (w:=w) (h.block p.block hp hn)
theorem Upd.grown {L:List Nat} {a w w':World} {row:Option Nat} (h:Upd L a w) (hg:w.grownBy w' row) (hr:∀ k,row=some k->k ∈ L\/a.heap.size<=k):Upd L a w' :=
 ⟨hg.os.trans h.os,hg.tape.trans h.tape,hg.output.trans h.output,Nat.le_trans h.size hg.size,fun k hk hn=>by
  rw [hg.block k (Nat.lt_of_lt_of_le hk h.size) (fun e=>by rcases hr k e.symm with h1 | h1; exact hn h1; omega)]
  exact h.block k hk hn⟩
theorem Upd.of_grown {w w':World} {row:Option Nat} (hg:w.grownBy w' row):Upd row.toList w w' :=
 ⟨hg.os,hg.tape,hg.output,hg.size,fun k hk hn=>hg.block k hk (fun e=>hn (by rw [<- e]; simp))⟩
def byteAt (s:ByteArray) (i:Nat):Int:=((s.data.toList.getD i 0).toNat:Int)
theorem byteAt_get (s:ByteArray) (i:Nat) (h:i < s.size):((s[i]).toNat:Int)=byteAt s i:=by
 unfold byteAt
 have h':i < s.data.toList.length:=by simpa using h
 rw [List.getD_eq_getElem?_getD,List.getElem?_eq_getElem h']
 rfl
def letterB (c:Int):Bool:=decide (97<=c) && decide (c<=122)
def digitB (c:Int):Bool:=decide (48<=c) && decide (c<=57)
def wordB (c:Int):Bool:=letterB c || digitB c
def kindOf (c:Int):Int :=
 if letterB c then 0 else if c=40 then 1 else if c=41 then 2 else if c=44 then 3 else if c=61 then 4 else if c=33 then 6 else 8
def runTo (p:Int->Bool) (s:ByteArray):Nat->Nat->Nat
 | 0,i=>i
 | n+1,i=>if i < s.size/\p (byteAt s i)=true then runTo p s n (i+1) else i
def endOf (p:Int->Bool) (s:ByteArray) (i:Nat):Nat:=runTo p s (s.size - i) i
theorem endOf_step {p:Int->Bool} {s:ByteArray} {i:Nat} (h:i < s.size) (hp:p (byteAt s i)=true):endOf p s i=endOf p s (i+1):=by
 unfold endOf
 have e:s.size - i=(s.size - (i+1))+1:=by omega
 rw [e]
 simp [runTo,h,hp]
theorem endOf_stop {p:Int->Bool} {s:ByteArray} {i:Nat} (h:¬ (i < s.size/\p (byteAt s i)=true)):endOf p s i=i:=by
 unfold endOf
 cases e:s.size - i with
 | zero=>rfl
 | succ n=>simp only [runTo,if_neg h]
theorem runTo_le (p:Int->Bool) (s:ByteArray):∀ n i,i<=s.size->i<=runTo p s n i/\runTo p s n i<=s.size
 | 0,i,h=>⟨Nat.le_refl _,h⟩
 | n+1,i,h=>by
  unfold runTo
  by_cases hc:i < s.size/\p (byteAt s i)=true
  ·rw [if_pos hc]
   have:=runTo_le p s n (i+1) hc.1
   exact ⟨by omega,this.2⟩
  ·rw [if_neg hc]
   exact ⟨Nat.le_refl _,h⟩
theorem endOf_le (p:Int->Bool) (s:ByteArray) (i:Nat) (h:i<=s.size):i<=endOf p s i/\endOf p s i<=s.size:=runTo_le p s _ i h
def blankB (c:Int):Bool:=decide (c=32)
def wordAt (s:ByteArray) (t:Nat):Int × Nat × Nat :=
 let f:=endOf blankB s t
 if f=s.size then (7,f,f)
 else if kindOf (byteAt s f)=0 then (0,f,endOf wordB s (f+1))
 else if kindOf (byteAt s f)=6/\f+1 < s.size/\byteAt s (f+1)=61 then (5,f,f+2)
 else (kindOf (byteAt s f),f,f+1)
theorem wordAt_le (s:ByteArray) (t:Nat) (h:t<=s.size):t<=(wordAt s t).2.1/\(wordAt s t).2.1<=(wordAt s t).2.2/\(wordAt s t).2.2<=s.size:=by
 have h1:=endOf_le blankB s t h
 unfold wordAt
 simp only
 split
 ·simp only; omega
 ·rename_i h2
  have h3:=endOf_le wordB s (endOf blankB s t+1) (by omega)
  split
  ·simp only; omega
  ·split
   ·simp only; omega
   ·simp only; omega
theorem kindOf_lo (c:Int):0<=kindOf c/\kindOf c<=8:=by
 unfold kindOf
 repeat' split
 all_goals omega
theorem wordAt_end {s:ByteArray} {t:Nat} (h:endOf blankB s t=s.size):wordAt s t=(7,s.size,s.size):=by
 unfold wordAt
 simp [h]
theorem wordAt_name {s:ByteArray} {t i:Nat} (h:endOf blankB s t=i) (hi:i < s.size) (hk:kindOf (byteAt s i)=0):wordAt s t=(0,i,endOf wordB s (i+1)):=by
 unfold wordAt
 have:i ≠ s.size:=by omega
 simp [h,this,hk]
theorem wordAt_unequal {s:ByteArray} {t i:Nat} (h:endOf blankB s t=i) (hi:i+1 < s.size) (hk:kindOf (byteAt s i)=6) (hb:byteAt s (i+1)=61):wordAt s t=(5,i,i+2):=by
 unfold wordAt
 have:i ≠ s.size:=by omega
 simp [h,this,hk,hi,hb]
theorem wordAt_other {s:ByteArray} {t i:Nat} (h:endOf blankB s t=i) (hi:i < s.size) (hk:kindOf (byteAt s i) ≠ 0) (hb:¬ (kindOf (byteAt s i)=6/\i+1 < s.size/\byteAt s (i+1)=61)):wordAt s t=(kindOf (byteAt s i),i,i+1):=by
 unfold wordAt
 have:i ≠ s.size:=by omega
 simp only [h,if_neg this,if_neg hk,if_neg hb]
theorem wordB_of (c:Int):wordB c=(letterB c || digitB c):=rfl
abbrev Wd:=Int × Nat × Nat
def Tm:Nat->Type
 | 0=>Empty
 | n+1=>ByteArray × Nat × List (Tm n)
def Tm.mk {n:Nat} (name:ByteArray) (place:Nat) (parts:List (Tm n)):Tm (n+1):=(name,place,parts)
def Tm.name {n:Nat} (t:Tm (n+1)):ByteArray:=t.1
def Tm.place {n:Nat} (t:Tm (n+1)):Nat:=t.2.1
def Tm.parts {n:Nat} (t:Tm (n+1)):List (Tm n):=t.2.2
def partsOf {α:Type} (s:ByteArray) (p:Wd->Option α × Wd):Nat->Wd->Option (List α) × Wd
 | 0,st=>(none,st)
 | m+1,st =>
  match p (wordAt s st.2.2) with
  | (none,st2)=>(none,st2)
  | (some x,st2) =>
   if st2.1=2 then (some [x],wordAt s st2.2.2)
   else if st2.1=3 then
    match partsOf s p m st2 with
    | (none,st3)=>(none,st3)
    | (some xs,st3)=>(some (x :: xs),st3)
   else (none,st2)
def termOf (s:ByteArray):(n:Nat)->Wd->Option (Tm n) × Wd
 | 0,st=>(none,st)
 | n+1,st =>
  if st.1=0 then
   if (wordAt s st.2.2).1=1 then
    match partsOf s (termOf s n) (s.size+1) (wordAt s st.2.2) with
    | (none,st2)=>(none,st2)
    | (some ps,st2)=>(some (Tm.mk (s.extract st.2.1 st.2.2) st.2.1 ps),st2)
   else (some (Tm.mk (s.extract st.2.1 st.2.2) st.2.1 []),wordAt s st.2.2)
  else (none,st)
def aheadOf {α:Type} (acc:List α):Option (List α) × Wd->Option (List α) × Wd
 | (none,st)=>(none,st)
 | (some xs,st)=>(some (acc++xs),st)
theorem aheadOf_nil {α:Type} (x:Option (List α) × Wd):aheadOf [] x=x:=by
 rcases x with ⟨_ | xs,st⟩ <;> simp [aheadOf]
section
variable {α:Type} {s:ByteArray} {p:Wd->Option α × Wd} {m:Nat} {st st2:Wd} {acc:List α} {x:α}
theorem partsOf_none (h:p (wordAt s st.2.2)=(none,st2)):aheadOf acc (partsOf s p (m+1) st)=(none,st2):=by
 simp [partsOf,h,aheadOf]
theorem partsOf_close (h:p (wordAt s st.2.2)=(some x,st2)) (hk:st2.1=2):aheadOf acc (partsOf s p (m+1) st)=(some (acc++[x]),wordAt s st2.2.2):=by
 simp [partsOf,h,aheadOf,hk]
theorem partsOf_comma (h:p (wordAt s st.2.2)=(some x,st2)) (hk:st2.1=3):aheadOf acc (partsOf s p (m+1) st)=aheadOf (acc++[x]) (partsOf s p m st2):=by
 have h2:¬ st2.1=2:=by omega
 simp only [partsOf,h,hk]
 rcases partsOf s p m st2 with ⟨_ | xs,st3⟩ <;> simp [aheadOf]
theorem partsOf_other (h:p (wordAt s st.2.2)=(some x,st2)) (hk:st2.1 ≠ 2) (hk':st2.1 ≠ 3):aheadOf acc (partsOf s p (m+1) st)=(none,st2):=by
 simp [partsOf,h,aheadOf,hk,hk']
end
section
variable {s:ByteArray} {n:Nat} {st:Wd}
theorem termOf_no (h:st.1 ≠ 0):termOf s (n+1) st=(none,st):=by simp [termOf,h]
theorem termOf_bare (h:st.1=0) (h1:(wordAt s st.2.2).1 ≠ 1):termOf s (n+1) st=(some (Tm.mk (s.extract st.2.1 st.2.2) st.2.1 []),wordAt s st.2.2):=by simp [termOf,h,h1]
theorem termOf_fails {st2:Wd} (h:st.1=0) (h1:(wordAt s st.2.2).1=1) (hr:partsOf s (termOf s n) (s.size+1) (wordAt s st.2.2)=(none,st2)) :
  termOf s (n+1) st=(none,st2):=by
 simp only [termOf,if_pos h,if_pos h1,hr]
theorem termOf_parts {st2:Wd} {ps:List (Tm n)} (h:st.1=0) (h1:(wordAt s st.2.2).1=1) (hr:partsOf s (termOf s n) (s.size+1) (wordAt s st.2.2)=(some ps,st2)) :
  termOf s (n+1) st=(some (Tm.mk (s.extract st.2.1 st.2.2) st.2.1 ps),st2):=by
 simp only [termOf,if_pos h,if_pos h1,hr]
end
structure Fit (s:ByteArray) (st:Wd):Prop where
 lo:0<=st.1
 hi:st.1<=8
 le:st.2.1<=st.2.2
 size:st.2.2<=s.size
 lt:st.1 ≠ 7->st.2.1 < st.2.2
theorem wordAt_kind (s:ByteArray) (t:Nat):0<=(wordAt s t).1/\(wordAt s t).1<=8:=by
 unfold wordAt
 have:=kindOf_lo (byteAt s (endOf blankB s t))
 simp only
 repeat' split
 all_goals (simp only; omega)
theorem wordAt_lt (s:ByteArray) (t:Nat) (h:t<=s.size):(wordAt s t).1 ≠ 7->(wordAt s t).2.1 < (wordAt s t).2.2:=by
 have h1:=endOf_le blankB s t h
 unfold wordAt
 simp only
 split
 ·intro h7; exact absurd rfl h7
 ·rename_i h2
  have h3:=endOf_le wordB s (endOf blankB s t+1) (by omega)
  intro _
  split
  ·simp only; omega
  ·split
   ·simp only; omega
   ·simp only; omega
theorem Fit.next (s:ByteArray) (t:Nat) (h:t<=s.size):Fit s (wordAt s t) :=
 ⟨(wordAt_kind s t).1,(wordAt_kind s t).2,(wordAt_le s t h).2.1,(wordAt_le s t h).2.2,wordAt_lt s t h⟩
theorem partsOf_fit {α:Type} {s:ByteArray} {p:Wd->Option α × Wd} (hp:∀ st,Fit s st->Fit s (p st).2/\st.2.1<=(p st).2.2.1) :
  ∀ (m:Nat) (st:Wd),Fit s st->Fit s (partsOf s p m st).2/\st.2.1<=(partsOf s p m st).2.2.1
 | 0,st,h=>⟨h,Nat.le_refl _⟩
 | m+1,st,h=>by
  have h1:=Fit.next s st.2.2 h.size
  have hw:=wordAt_le s st.2.2 h.size
  have h2:=hp _ h1
  have hle:=h.le
  unfold partsOf
  cases hpp:p (wordAt s st.2.2) with
  | mk o st2 =>
   rw [hpp] at h2
   cases o with
   | none=>exact ⟨h2.1,by have:=h2.2; simp only at this ⊢; omega⟩
   | some x =>
    simp only
    split
    ·have h3:=Fit.next s st2.2.2 h2.1.size
     have h4:=wordAt_le s st2.2.2 h2.1.size
     have h5:=h2.1.le
     exact ⟨h3,by have:=h2.2; simp only at this h5 ⊢; omega⟩
    ·split
     ·have h3:=partsOf_fit hp m st2 h2.1
      cases hq:partsOf s p m st2 with
      | mk o3 st3 =>
       rw [hq] at h3
       have:=h2.2
       cases o3 with
       | none=>exact ⟨h3.1,by have:=h3.2; simp only at *; omega⟩
       | some xs=>exact ⟨h3.1,by have:=h3.2; simp only at *; omega⟩
     ·exact ⟨h2.1,by have:=h2.2; simp only at this ⊢; omega⟩
theorem termOf_fit {s:ByteArray}:∀ (n:Nat) (st:Wd),Fit s st->Fit s (termOf s n st).2/\st.2.1<=(termOf s n st).2.2.1
 | 0,st,h=>⟨h,Nat.le_refl _⟩
 | n+1,st,h=>by
  have h1:=Fit.next s st.2.2 h.size
  have hw:=wordAt_le s st.2.2 h.size
  have hle:=h.le
  unfold termOf
  split
  ·split
   ·have h2:=partsOf_fit (termOf_fit n) (s.size+1) (wordAt s st.2.2) h1
    cases hq:partsOf s (termOf s n) (s.size+1) (wordAt s st.2.2) with
    | mk o st2 =>
     rw [hq] at h2
     cases o with
     | none=>exact ⟨h2.1,by have:=h2.2; simp only at *; omega⟩
     | some xs=>exact ⟨h2.1,by have:=h2.2; simp only at *; omega⟩
   ·exact ⟨h1,by simp only; omega⟩
  ·exact ⟨h,Nat.le_refl _⟩
abbrev V3:=Value × Value × Value
def flat3:List V3->List Value
 | []=>[]
 | c :: cs=>c.1 :: c.2.1 :: c.2.2 :: flat3 cs
theorem flat3_append (a b:List V3):flat3 (a++b)=flat3 a++flat3 b:=by
 induction a with
 | nil=>rfl
 | cons c cs ih=>simp [flat3,ih]
def AllIs {α β:Type} (R:α->β->Prop):List α->List β->Prop
 | [],[]=>True
 | a :: xs,b :: ys=>R a b/\AllIs R xs ys
 | _,_=>False
theorem AllIs.length {α β:Type} {R:α->β->Prop}:∀ {xs:List α} {ys:List β},AllIs R xs ys->xs.length=ys.length
 | [],[],_=>rfl
 | _ :: _,_ :: _,h=>by simp [AllIs.length h.2]
 | [],_ :: _,h=>h.elim
 | _ :: _,[],h=>h.elim
theorem AllIs.mono {α β:Type} {R R':α->β->Prop} (hR:∀ a b,R a b->R' a b):∀ {xs:List α} {ys:List β},AllIs R xs ys->AllIs R' xs ys
 | [],[],_=>trivial
 | _ :: _,_ :: _,h=>⟨hR _ _ h.1,AllIs.mono hR h.2⟩
 | [],_ :: _,h=>h.elim
 | _ :: _,[],h=>h.elim
theorem AllIs.snoc {α β:Type} {R:α->β->Prop} {a:α} {b:β} (hab:R a b):∀ {xs:List α} {ys:List β},AllIs R xs ys->AllIs R (xs++[a]) (ys++[b])
 | [],[],_=>⟨hab,trivial⟩
 | _ :: _,_ :: _,h=>⟨h.1,AllIs.snoc hab h.2⟩
 | [],_ :: _,h=>h.elim
 | _ :: _,[],h=>h.elim
def IsTm (w:World) (F:Nat->Prop):(n:Nat)->V3->Tm n->Prop
 | 0,_,_=>False
 | n+1,c,t=>c.1=.string t.name/\c.2.1=.int .i64 t.place /\
   ∃ cs:List V3,w.ownsRow 0 98 3 c.2.2 t.parts.length (flat3 cs)/\(∀ k,c.2.2.ownBlock=some k->F k)/\AllIs (IsTm w F n) cs t.parts
theorem ownsRow_of_block {w w':World} {base e size n:Nat} {v:Value} {xs:List Value} (h:w.ownsRow base e size v n xs) (hb:∀ k,v.ownBlock=some k->w'.heap[k]?=w.heap[k]?):w'.ownsRow base e size v n xs:=by
 refine ⟨h.1,?_⟩
 rcases h.2 with hn | ⟨g,cap,cur,hv,hg,hh,r⟩
 ·exact .inl hn
 ·exact .inr ⟨g,cap,cur,hv,hg,by rw [hb g (by rw [hv]; rfl)]; exact hh,r⟩
theorem ownsRow_lt {w:World} {base e size n:Nat} {v:Value} {xs:List Value} (h:w.ownsRow base e size v n xs) {k:Nat} (hk:v.ownBlock=some k):k < w.heap.size:=(h.lt k hk).2
theorem ownsRow_base {w:World} {base base' e size n:Nat} {v:Value} {xs:List Value} (h:w.ownsRow base e size v n xs) (hb:∀ k,v.ownBlock=some k->base'<=k):w.ownsRow base' e size v n xs:=by
 refine ⟨h.1,?_⟩
 rcases h.2 with hn | ⟨g,cap,cur,hv,hg,r⟩
 ·exact .inl hn
 ·exact .inr ⟨g,cap,cur,hv,hb g (by rw [hv]; rfl),r⟩
theorem Upd.ownsRow {L:List Nat} {w w':World} {base e size n:Nat} {v:Value} {xs:List Value} (hu:Upd L w w') (h:w.ownsRow base e size v n xs) (hL:∀ k,v.ownBlock=some k->k ∉ L):w'.ownsRow base e size v n xs :=
 ownsRow_of_block h fun k hk=>hu.block k (ownsRow_lt h hk) (hL k hk)
theorem IsTm.mono {w:World} {F F':Nat->Prop}:∀ {n:Nat} {c:V3} {t:Tm n},IsTm w F n c t->(∀ k,F k->k < w.heap.size->F' k)->IsTm w F' n c t
 | 0,_,_,h,_=>h.elim
 | _+1,_,_,⟨h0,h1,cs,hown,hF,hall⟩,hm=>⟨h0,h1,cs,hown,fun k hk=>hm k (hF k hk) (ownsRow_lt hown hk),hall.mono fun _ _ h=>h.mono hm⟩
theorem IsTm.later {w w':World} {L:List Nat} {F:Nat->Prop} (hu:Upd L w w') (hL:∀ k,F k->k ∉ L):∀ {n:Nat} {c:V3} {t:Tm n},IsTm w F n c t->IsTm w' F n c t
 | 0,_,_,h=>h.elim
 | _+1,_,_,⟨h0,h1,cs,hown,hF,hall⟩=>⟨h0,h1,cs,hu.ownsRow hown (fun k hk=>hL k (hF k hk)),hF,hall.mono fun _ _ h=>h.later hu hL⟩
abbrev Sh:=ByteArray × Nat × Nat × Nat × Nat
def shV (s:Sh):Value:=.agg #[.string s.1,.int .i64 s.2.1,.int .i64 s.2.2.1,.int .i64 s.2.2.2.1,.int .i64 s.2.2.2.2]
def GoodSh (s:Sh):Prop:=s.1.size<=1000/\s.2.1<=1000000/\s.2.2.1<=1000000/\s.2.2.2.1<=1000000/\s.2.2.2.2<=1000000
theorem laidOut:laidOutB Tryz.prog=true:=by kernel_rfl
theorem row_shape:(141:TypeId) < Tryz.prog.types.size:=of_decide_eq_true (by kernel_rfl)
theorem wide_shape:(match Tryz.prog.underlying 141 with | some (.array _ _) | some (.struct _)=>true | _=>false)=true:=by kernel_rfl
theorem law_shape:Keyed Tryz.prog 141:=Keyed.of_law (deep_law_laid laidOut (m:=4) (by omega) row_shape (by kernel_rfl) wide_shape)
theorem zero_int (w:World):(zeroValue 3).run Tryz.prog w=.ok (.int .i64 0) w:=by kernel_rfl
theorem wf_i64 {n:Nat} (h:n<=1000000):(Lit.int .i64 (n:Int)).wf=true:=WalkArith.wf_i64 (by omega)
theorem key_any {P:Program} {K S I A m:Nat} {f0 f1 f2:Field} (hK:P.underlying K=some (.struct #[f0,f1,f2])) (hn:(#[f0,f1,f2]:Array Field).all (·.name != "_")=true)
  (t0:f0.type=S) (t1:f1.type=I) (t2:f2.type=A) (o0:f0.offset=0) (o1:f1.offset=1) (o2:f2.offset=2)
  (hS:P.underlying S=some .string) (hI:P.underlying I=some (.int .i64)) (hA:P.underlying A=some (.array 3 I)) (cK:P.cellsOf K=5) (cS:P.cellsOf S=1) (cI:P.cellsOf I=1) (cA:P.cellsOf A=3)
  (hkt:P.keyType K=true) (hm:P.types.size=m+2) (a:ByteArray) (n0 n1 n2 n3:Int) (ha:a.size<=maxLen) (w0:(Lit.int .i64 n0).wf=true) (w1:(Lit.int .i64 n1).wf=true) (w2:(Lit.int .i64 n2).wf=true) (w3:(Lit.int .i64 n3).wf=true) :
  ∃ kl,keyOf P K (.agg #[.string a,.int .i64 n0,.int .i64 n1,.int .i64 n2,.int .i64 n3])=some kl:=by
 have hr:List.range 3=[0,1,2]:=rfl
 simp at hn
 unfold keyOf
 simp [hK,hkt,Value.formed,cK,Value.cells,hm,Program.keyLits,t0,t1,t2,o0,o1,o2,hS,hI,hA,cS,cI,cA,hn,ha,w0,w1,w2,w3,hr]
theorem fields_shape:∃ f0 f1 f2:Field,Tryz.prog.underlying 141=some (.struct #[f0,f1,f2])/\(#[f0,f1,f2]:Array Field).all (·.name != "_")=true/\f0.type=9/\f1.type=3/\f2.type=139/\f0.offset=0/\f1.offset=1/\f2.offset=2 :=
 ⟨_,_,_,Tryz.underlying141,by kernel_rfl,rfl,rfl,rfl,rfl,rfl,rfl⟩
theorem size_types:Tryz.prog.types.size=Tryz.prog.types.size - 2+2:=by
 have:3<=Tryz.prog.types.size:=of_decide_eq_true (by kernel_rfl)
 generalize Tryz.prog.types.size=k at *
 omega
theorem keyType_shape:Tryz.prog.keyType 141=true:=by kernel_rfl
theorem cells_shape:Tryz.prog.cellsOf 141=5:=by kernel_rfl
theorem cells_int:Tryz.prog.cellsOf 3=1:=by kernel_rfl
theorem cells_string:Tryz.prog.cellsOf 9=1:=by kernel_rfl
theorem cells_parts:Tryz.prog.cellsOf 139=3:=by kernel_rfl
theorem key_shape (s:Sh) (h:GoodSh s):∃ kl,keyOf Tryz.prog 141 (shV s)=some kl:=by
 obtain ⟨h0,h1,h2,h3,h4⟩:=h
 obtain ⟨f0,f1,f2,hK,hn,t0,t1,t2,o0,o1,o2⟩:=fields_shape
 exact key_any hK hn t0 t1 t2 o0 o1 o2 Tryz.underlying9 Tryz.underlying3 Tryz.underlying139 cells_shape cells_string cells_int cells_parts keyType_shape size_types s.1 s.2.1 s.2.2.1 s.2.2.2.1 s.2.2.2.2
  (by unfold maxLen; omega) (wf_i64 h1) (wf_i64 h2) (wf_i64 h3) (wf_i64 h4)
def MapIs (w:World) (b n:Nat) (f:Sh->Option Nat):Prop :=
 ∃ D:DataW Unit,w.ownsMap Tryz.prog 141 (plainElem Tryz.prog 3) b n D /\
  ∀ s kl,keyOf Tryz.prog 141 (shV s)=some kl->Maps.has D kl=(f s).isSome/\∀ c,f s=some c->D.atKey kl (.lit (.int .i64 0))=.lit (.int .i64 c)
theorem shV_inj {s t:Sh} (h:shV s=shV t):s=t:=by
 obtain ⟨a,b,c,d,e⟩:=s
 obtain ⟨a',b',c',d',e'⟩:=t
 simp [shV] at h
 obtain ⟨rfl,h1,h2,h3,h4⟩:=h
 obtain rfl:b=b':=by omega
 obtain rfl:c=c':=by omega
 obtain rfl:d=d':=by omega
 obtain rfl:e=e':=by omega
 rfl
theorem MapIs.lt {w:World} {b n:Nat} {f:Sh->Option Nat} (h:MapIs w b n f):b < w.heap.size:=let ⟨_,ho,_⟩:=h; ho.lt
theorem MapIs.later {w w':World} {L:List Nat} {b n:Nat} {f:Sh->Option Nat} (h:MapIs w b n f) (hu:Upd L w w') (hb:b ∉ L):MapIs w' b n f:=by
 obtain ⟨D,ho,hf⟩:=h
 obtain ⟨es,clock,hh,r⟩:=ho
 exact ⟨D,⟨es,clock,(hu.block b (World.ownsMap.lt ⟨es,clock,hh,r⟩) hb).trans hh,r⟩,hf⟩
theorem MapIs.new (w:World):MapIs (w.alloc (.map #[] 0)) w.heap.size 0 (fun _=>none) :=
 ⟨.map [],World.ownsMap_made _ _ _ _,fun _ _ _=>⟨rfl,fun _ h=>by cases h⟩⟩
theorem MapIs.look {w:World} {b n:Nat} {f:Sh->Option Nat} (h:MapIs w b n f) (s:Sh) (hs:GoodSh s) :
  (Instr.lookup 108 (.map (some b)) (shV s) true).run Tryz.prog w=.ok (.tuple #[.int .i64 ((f s).getD 0),.bool (f s).isSome]) w:=by
 obtain ⟨D,ho,hf⟩:=h
 obtain ⟨kl,hk⟩:=key_shape s hs
 obtain ⟨v,ps,hrun,hv⟩:=ho.look_ok law_shape Tryz.underlying108 (zero_int w) (plainElem_int Tryz.underlying3 (by decide)) hk
 obtain ⟨c,rfl,hc,hwc⟩:=plainElem_int_inv Tryz.underlying3 hv
 have hat:D.atKey kl (.lit (.int .i64 0))=.lit (.int .i64 c):=congrArg Prod.fst hc
 obtain ⟨h1,h2⟩:=hf s kl hk
 rw [hrun,h1]
 cases hfs:f s with
 | none =>
  rw [hfs] at h1
  have:=atKey_of_not_has h1 (.lit (.int .i64 0):DataW Unit)
  rw [this] at hat
  cases hat
  rfl
 | some x =>
  have:=h2 x hfs
  rw [this] at hat
  cases hat
  rfl
def setF (f:Sh->Option Nat) (s:Sh) (v:Option Nat):Sh->Option Nat:=fun t=>if t=s then v else f t
theorem MapIs.put {w:World} {b n:Nat} {f:Sh->Option Nat} (h:MapIs w b n f) (s:Sh) (hs:GoodSh s) (v:Nat) (hv:v<=1000000) (hn:n < maxLen) :
  ∃ w',(Instr.mapUpdate 108 (.map (some b)) (shV s) (.int .i64 v)).run Tryz.prog w=.ok () w'/\MapIs w' b (n+1) (setF f s (some v))/\w.mapTurned w' b:=by
 obtain ⟨D,ho,hf⟩:=h
 obtain ⟨kl,hk⟩:=key_shape s hs
 obtain ⟨w',hrun,h1,h2⟩:=ho.store law_shape Tryz.underlying108 hn hk (plainElem_int Tryz.underlying3 (wf_i64 hv))
 refine ⟨w',hrun,⟨_,h1,fun t kt hkt=>?_⟩,h2⟩
 unfold setF
 by_cases e:t=s
 ·subst e
  obtain rfl:=Option.some.inj (hk.symm.trans hkt)
  rw [if_pos rfl]
  refine ⟨has_put_same ho.isMap (law_shape.key hk) _,fun c hc=>?_⟩
  obtain rfl:=Option.some.inj hc
  exact atKey_put_same ho.isMap (law_shape.key hk) _ _
 ·have hne:kt ≠ kl:=fun e'=>e (shV_inj (law_shape.inj (hkt.trans (congrArg some e')) hk))
  rw [if_neg e,has_put_other hne]
  refine ⟨(hf t kt hkt).1,fun c hc=>?_⟩
  rw [atKey_put_other hne]
  exact (hf t kt hkt).2 c hc
theorem ownsMap_size {w:World} {b n:Nat} {D:DataW Unit} (h:w.ownsMap Tryz.prog 141 (plainElem Tryz.prog 3) b n D) {n':Nat} (hn:Maps.size D<=n'):w.ownsMap Tryz.prog 141 (plainElem Tryz.prog 3) b n' D:=by
 obtain ⟨es,clock,hb,F,_,rfl⟩:=h
 refine ⟨es,clock,hb,F,?_,rfl⟩
 simpa [Maps.size,length_sorted] using hn
theorem MapIs.del {w:World} {b n:Nat} {f:Sh->Option Nat} (h:MapIs w b n f) (s:Sh) (hs:GoodSh s) (hin:(f s).isSome=true) (ty:TypeId) :
  ∃ w',(Builtin.delete_ #[108,141] ty #[.map (some b),shV s]).run Tryz.prog w=.ok (.tuple #[]) w'/\MapIs w' b (n - 1) (setF f s none)/\w.mapTurned w' b:=by
 obtain ⟨D,ho,hf⟩:=h
 obtain ⟨kl,hk⟩:=key_shape s hs
 obtain ⟨w',hrun,h1,h2⟩:=ho.drop law_shape Tryz.underlying108 hk ty
 have hsz:Maps.size (D.del kl)<=n - 1:=by
  have h3:=size_del (k:=kl) (ho.tidy law_shape)
  have h4:=ho.size_le
  rw [(hf s kl hk).1,hin] at h3
  simp at h3
  omega
 refine ⟨w',hrun,⟨_,ownsMap_size h1 hsz,fun t kt hkt=>?_⟩,h2⟩
 unfold setF
 by_cases e:t=s
 ·subst e
  obtain rfl:=Option.some.inj (hk.symm.trans hkt)
  rw [if_pos rfl]
  exact ⟨has_del_same,fun _ h=>by cases h⟩
 ·have hne:kt ≠ kl:=fun e'=>e (shV_inj (law_shape.inj (hkt.trans (congrArg some e')) hk))
  rw [if_neg e,has_del_other hne]
  refine ⟨(hf t kt hkt).1,fun c hc=>?_⟩
  rw [atKey_del_other hne]
  exact (hf t kt hkt).2 c hc
theorem mapTurned_upd {w w':World} {b:Nat} (h:w.mapTurned w' b):Upd [b] w w':=by
 have:=Upd.of_grown h.grown
 simpa using this
structure Un where
 tag:Nat
 sh:Sh
 a:Nat
 b:Nat
structure WS where
 shapes:List Sh
 numbers:Sh->Option Nat
 classes:List Nat
 alike:Sh->Option Nat
 said:List (Nat × Nat × Nat)
 trail:List Un
 nums:Nat
 files:Nat
 marks:List Nat
def flatSh:List Sh->List Value
 | []=>[]
 | s :: l=>.string s.1 :: .int .i64 s.2.1 :: .int .i64 s.2.2.1 :: .int .i64 s.2.2.2.1 :: .int .i64 s.2.2.2.2 :: flatSh l
def flatSaid:List (Nat × Nat × Nat)->List Value
 | []=>[]
 | s :: l=>.int .i64 s.1 :: .int .i64 s.2.1 :: .int .i64 s.2.2 :: flatSaid l
def intsOf (l:List Nat):List Value:=l.map fun (n:Nat)=>.int .i64 (n:Int)
structure Hd where
 backs:Value
 shapes:Value
 classes:Value
 said:Value
 nb:Nat
 ab:Nat
 marks:Value
def Hd.blocks (wb:Nat) (H:Hd):List Nat:=wb :: H.nb :: H.ab :: (H.backs.ownBlock.toList++(H.shapes.ownBlock.toList++(H.classes.ownBlock.toList++(H.said.ownBlock.toList++H.marks.ownBlock.toList))))
def Box1 (w:World) (B:Nat) (v:Value):Prop:=B < w.heap.size/\w.cell? ⟨B,0,none⟩=some v
def BoxSh (w:World) (B:Nat) (s:Sh):Prop:=B < w.heap.size/\w.cell? ⟨B,0,none⟩=some (.string s.1)/\w.cell? ⟨B,1,none⟩=some (.int .i64 s.2.1)/\w.cell? ⟨B,2,none⟩=some (.int .i64 s.2.2.1)/\w.cell? ⟨B,3,none⟩=some (.int .i64 s.2.2.2.1)/\w.cell? ⟨B,4,none⟩=some (.int .i64 s.2.2.2.2)
theorem Box1.later {w w':World} {L:List Nat} {B:Nat} {v:Value} (h:Box1 w B v) (hu:Upd L w w') (hB:B ∉ L):Box1 w' B v:=⟨Nat.lt_of_lt_of_le h.1 hu.size,(hu.cell h.1 hB).trans h.2⟩
theorem BoxSh.later {w w':World} {L:List Nat} {B:Nat} {s:Sh} (h:BoxSh w B s) (hu:Upd L w w') (hB:B ∉ L):BoxSh w' B s :=
 ⟨Nat.lt_of_lt_of_le h.1 hu.size,(hu.cell h.1 hB).trans h.2.1,(hu.cell h.1 hB).trans h.2.2.1,(hu.cell h.1 hB).trans h.2.2.2.1,(hu.cell h.1 hB).trans h.2.2.2.2.1,(hu.cell h.1 hB).trans h.2.2.2.2.2⟩
def IsUn (w:World) (wb:Nat) (F:Nat->Prop) (v:Value) (u:Un):Prop :=
 ∃ bw,F bw/\Box1 w bw (.pointer (some ⟨wb,0,none⟩)) /\
  ((u.tag=0/\v=.func (.func 154) #[] #[.pointer (some ⟨bw,0,none⟩)]) \/
   (u.tag=1/\∃ bn bs,F bn/\F bs/\Box1 w bn (.int .i64 u.a)/\BoxSh w bs u.sh/\v=.func (.func 158) #[] #[.pointer (some ⟨bw,0,none⟩),.pointer (some ⟨bn,0,none⟩),.pointer (some ⟨bs,0,none⟩)]) \/
   (u.tag=2/\∃ bs,F bs/\BoxSh w bs u.sh/\v=.func (.func 178) #[] #[.pointer (some ⟨bw,0,none⟩),.pointer (some ⟨bs,0,none⟩)]) \/
   (u.tag=3/\∃ bf bn,F bf/\F bn/\Box1 w bf (.int .i64 u.b)/\Box1 w bn (.int .i64 u.a)/\v=.func (.func 177) #[] #[.pointer (some ⟨bf,0,none⟩),.pointer (some ⟨bw,0,none⟩),.pointer (some ⟨bn,0,none⟩)]))
theorem IsUn.later {w w':World} {L:List Nat} {wb:Nat} {F:Nat->Prop} {v:Value} {u:Un} (h:IsUn w wb F v u) (hu:Upd L w w') (hL:∀ k,F k->k ∉ L):IsUn w' wb F v u:=by
 obtain ⟨bw,hF,hb,hr⟩:=h
 refine ⟨bw,hF,hb.later hu (hL _ hF),?_⟩
 rcases hr with h | ⟨ht,bn,bs,f1,f2,h1,h2,hv⟩ | ⟨ht,bs,f1,h1,hv⟩ | ⟨ht,bf,bn,f1,f2,h1,h2,hv⟩
 ·exact .inl h
 ·exact .inr (.inl ⟨ht,bn,bs,f1,f2,h1.later hu (hL _ f1),h2.later hu (hL _ f2),hv⟩)
 ·exact .inr (.inr (.inl ⟨ht,bs,f1,h1.later hu (hL _ f1),hv⟩))
 ·exact .inr (.inr (.inr ⟨ht,bf,bn,f1,f2,h1.later hu (hL _ f1),h2.later hu (hL _ f2),hv⟩))
theorem IsUn.mono {w:World} {wb:Nat} {F F':Nat->Prop} {v:Value} {u:Un} (h:IsUn w wb F v u) (hF:∀ k,F k->k < w.heap.size->F' k):IsUn w wb F' v u:=by
 obtain ⟨bw,hf,hb,hr⟩:=h
 refine ⟨bw,hF _ hf hb.1,hb,?_⟩
 rcases hr with h | ⟨ht,bn,bs,f1,f2,h1,h2,hv⟩ | ⟨ht,bs,f1,h1,hv⟩ | ⟨ht,bf,bn,f1,f2,h1,h2,hv⟩
 ·exact .inl h
 ·exact .inr (.inl ⟨ht,bn,bs,hF _ f1 h1.1,hF _ f2 h2.1,h1,h2,hv⟩)
 ·exact .inr (.inr (.inl ⟨ht,bs,hF _ f1 h1.1,h1,hv⟩))
 ·exact .inr (.inr (.inr ⟨ht,bf,bn,hF _ f1 h1.1,hF _ f2 h2.1,h1,h2,hv⟩))
structure WebAt (w:World) (wb:Nat) (H:Hd) (Z:Nat->Prop) (S:WS):Prop where
 lt:wb < w.heap.size
 free:∀ o,w.frozen? ⟨wb,o,none⟩=false
 c0:w.cell? ⟨wb,0,none⟩=some H.backs
 c1:w.cell? ⟨wb,2,none⟩=some H.shapes
 c2:w.cell? ⟨wb,3,none⟩=some (.map (some H.nb))
 c3:w.cell? ⟨wb,4,none⟩=some H.classes
 c4:w.cell? ⟨wb,5,none⟩=some (.map (some H.ab))
 c5:w.cell? ⟨wb,6,none⟩=some H.said
 cm:w.cell? ⟨wb,1,none⟩=some H.marks
 rs:w.ownsRow 0 141 5 H.shapes S.shapes.length (flatSh S.shapes)
 rc:w.ownsRow 0 3 1 H.classes S.classes.length (intsOf S.classes)
 rd:w.ownsRow 0 134 3 H.said S.said.length (flatSaid S.said)
 rm:w.ownsRow 0 3 1 H.marks S.marks.length (intsOf S.marks)
 mn:MapIs w H.nb S.nums S.numbers
 ma:MapIs w H.ab S.files S.alike
 apart:(H.blocks wb).Nodup
 rb:∃ cls:List Value,w.ownsRow 0 1 1 H.backs S.trail.length cls/\AllIs (IsUn w wb (fun k=>Z k/\k ∉ H.blocks wb)) cls S.trail
 inZ:∀ k ∈ H.blocks wb,Z k
theorem Hd.mem_wb (wb:Nat) (H:Hd):wb ∈ H.blocks wb:=by simp [Hd.blocks]
theorem Hd.mem_nb (wb:Nat) (H:Hd):H.nb ∈ H.blocks wb:=by simp [Hd.blocks]
theorem Hd.mem_ab (wb:Nat) (H:Hd):H.ab ∈ H.blocks wb:=by simp [Hd.blocks]
theorem Hd.mem_backs {wb k:Nat} {H:Hd} (h:H.backs.ownBlock=some k):k ∈ H.blocks wb:=by simp [Hd.blocks,h]
theorem Hd.mem_shapes {wb k:Nat} {H:Hd} (h:H.shapes.ownBlock=some k):k ∈ H.blocks wb:=by simp [Hd.blocks,h]
theorem Hd.mem_classes {wb k:Nat} {H:Hd} (h:H.classes.ownBlock=some k):k ∈ H.blocks wb:=by simp [Hd.blocks,h]
theorem Hd.mem_said {wb k:Nat} {H:Hd} (h:H.said.ownBlock=some k):k ∈ H.blocks wb:=by simp [Hd.blocks,h]
theorem Hd.mem_marks {wb k:Nat} {H:Hd} (h:H.marks.ownBlock=some k):k ∈ H.blocks wb:=by simp [Hd.blocks,h]
theorem Hd.mem_iff {wb k:Nat} {H:Hd}:k ∈ H.blocks wb ↔ k=wb\/k=H.nb\/k=H.ab\/H.backs.ownBlock=some k\/H.shapes.ownBlock=some k\/H.classes.ownBlock=some k\/H.said.ownBlock=some k\/H.marks.ownBlock=some k:=by
 simp only [Hd.blocks,List.mem_cons,List.mem_append,Option.mem_toList]
theorem own_slice (g n c:Nat):(Value.slice (some ⟨g,0,none⟩) n c).ownBlock=some g:=rfl
theorem WebAt.later {w w':World} {L:List Nat} {wb:Nat} {H:Hd} {Z:Nat->Prop} {S:WS} (h:WebAt w wb H Z S) (hu:Upd L w w') (hL:∀ k,Z k->k ∉ L):WebAt w' wb H Z S:=by
 have hwb:=hL _ (h.inZ _ (H.mem_wb wb))
 obtain ⟨cls,hrow,hall⟩:=h.rb
 exact {
  lt:=Nat.lt_of_lt_of_le h.lt hu.size
  free:=fun o=>(hu.frozen (p:=⟨wb,o,none⟩) h.lt hwb).trans (h.free o)
  c0:=(hu.cell h.lt hwb).trans h.c0
  c1:=(hu.cell h.lt hwb).trans h.c1
  c2:=(hu.cell h.lt hwb).trans h.c2
  c3:=(hu.cell h.lt hwb).trans h.c3
  c4:=(hu.cell h.lt hwb).trans h.c4
  c5:=(hu.cell h.lt hwb).trans h.c5
  cm:=(hu.cell h.lt hwb).trans h.cm
  rs:=hu.ownsRow h.rs fun k hk=>hL k (h.inZ k (Hd.mem_shapes hk))
  rc:=hu.ownsRow h.rc fun k hk=>hL k (h.inZ k (Hd.mem_classes hk))
  rd:=hu.ownsRow h.rd fun k hk=>hL k (h.inZ k (Hd.mem_said hk))
  rm:=hu.ownsRow h.rm fun k hk=>hL k (h.inZ k (Hd.mem_marks hk))
  mn:=h.mn.later hu (hL _ (h.inZ _ (H.mem_nb wb)))
  ma:=h.ma.later hu (hL _ (h.inZ _ (H.mem_ab wb)))
  apart:=h.apart
  rb:=⟨cls,hu.ownsRow hrow fun k hk=>hL k (h.inZ k (Hd.mem_backs hk)),hall.mono fun _ _ hi=>hi.later hu fun k hk=>hL k hk.1⟩
  inZ:=h.inZ }
theorem WebAt.mem_lt {w:World} {wb:Nat} {H:Hd} {Z:Nat->Prop} {S:WS} (h:WebAt w wb H Z S):∀ k ∈ H.blocks wb,k < w.heap.size:=by
 obtain ⟨cls,hrow,_⟩:=h.rb
 intro k hk
 simp only [Hd.blocks,List.mem_cons,List.mem_append,Option.mem_toList] at hk
 rcases hk with rfl | rfl | rfl | hk | hk | hk | hk | hk
 ·exact h.lt
 ·exact h.mn.lt
 ·exact h.ma.lt
 ·exact ownsRow_lt hrow hk
 ·exact ownsRow_lt h.rs hk
 ·exact ownsRow_lt h.rc hk
 ·exact ownsRow_lt h.rd hk
 ·exact ownsRow_lt h.rm hk
theorem WebAt.mono {w:World} {wb:Nat} {H:Hd} {Z Z':Nat->Prop} {S:WS} (h:WebAt w wb H Z S) (hZ:∀ k,Z k->k < w.heap.size->Z' k):WebAt w wb H Z' S:=by
 obtain ⟨cls,hrow,hall⟩:=h.rb
 exact { h with
  rb:=⟨cls,hrow,hall.mono fun _ _ hi=>hi.mono fun k hk hlt=>⟨hZ k hk.1 hlt,hk.2⟩⟩
  inZ:=fun k hk=>hZ k (h.inZ k hk) (h.mem_lt k hk) }
theorem nodup_put {A B:List Nat} {o:Option Nat} {g:Nat} (h:(A++(o.toList++B)).Nodup) (hg:o=some g\/g ∉ A++(o.toList++B)):(A++([g]++B)).Nodup:=by
 rcases hg with rfl | hg
 ·exact h
 ·rw [List.nodup_append,List.nodup_append] at h
  obtain ⟨hA,⟨_,hB,_⟩,hAB⟩:=h
  simp only [List.mem_append,not_or] at hg
  rw [List.nodup_append,List.nodup_append]
  refine ⟨hA,⟨by simp,hB,fun a ha b hb e=>hg.2.2 (by simp at ha; rw [<- ha,e]; exact hb)⟩,fun a ha b hb e=>?_⟩
  rcases List.mem_append.1 hb with hb | hb
  ·exact hg.1 (by simp at hb; rw [<- hb,<- e]; exact ha)
  ·exact hAB a ha b (List.mem_append_right _ hb) e
theorem Hd.apart_backs {wb g n c:Nat} {H:Hd} (h:(H.blocks wb).Nodup) (hg:H.backs.ownBlock=some g\/g ∉ H.blocks wb):({ H with backs:=.slice (some ⟨g,0,none⟩) n c }:Hd).blocks wb |>.Nodup :=
 nodup_put (A:=[wb,H.nb,H.ab]) h hg
theorem Hd.apart_shapes {wb g n c:Nat} {H:Hd} (h:(H.blocks wb).Nodup) (hg:H.shapes.ownBlock=some g\/g ∉ H.blocks wb):({ H with shapes:=.slice (some ⟨g,0,none⟩) n c }:Hd).blocks wb |>.Nodup:=by
 have:=nodup_put (A:=[wb,H.nb,H.ab]++H.backs.ownBlock.toList) (B:=H.classes.ownBlock.toList++(H.said.ownBlock.toList++H.marks.ownBlock.toList)) (o:=H.shapes.ownBlock) (g:=g) (by simpa [Hd.blocks] using h) (by simpa [Hd.blocks] using hg)
 simpa [Hd.blocks,Value.ownBlock] using this
theorem Hd.apart_classes {wb g n c:Nat} {H:Hd} (h:(H.blocks wb).Nodup) (hg:H.classes.ownBlock=some g\/g ∉ H.blocks wb):({ H with classes:=.slice (some ⟨g,0,none⟩) n c }:Hd).blocks wb |>.Nodup:=by
 have:=nodup_put (A:=[wb,H.nb,H.ab]++H.backs.ownBlock.toList++H.shapes.ownBlock.toList) (B:=H.said.ownBlock.toList++H.marks.ownBlock.toList) (o:=H.classes.ownBlock) (g:=g) (by simpa [Hd.blocks] using h) (by simpa [Hd.blocks] using hg)
 simpa [Hd.blocks,Value.ownBlock] using this
theorem Hd.apart_said {wb g n c:Nat} {H:Hd} (h:(H.blocks wb).Nodup) (hg:H.said.ownBlock=some g\/g ∉ H.blocks wb):({ H with said:=.slice (some ⟨g,0,none⟩) n c }:Hd).blocks wb |>.Nodup:=by
 have:=nodup_put (A:=[wb,H.nb,H.ab]++H.backs.ownBlock.toList++H.shapes.ownBlock.toList++H.classes.ownBlock.toList) (B:=H.marks.ownBlock.toList) (o:=H.said.ownBlock) (g:=g) (by simpa [Hd.blocks] using h) (by simpa [Hd.blocks] using hg)
 simpa [Hd.blocks,Value.ownBlock] using this
theorem Hd.apart_marks {wb g n c:Nat} {H:Hd} (h:(H.blocks wb).Nodup) (hg:H.marks.ownBlock=some g\/g ∉ H.blocks wb):({ H with marks:=.slice (some ⟨g,0,none⟩) n c }:Hd).blocks wb |>.Nodup:=by
 have:=nodup_put (A:=[wb,H.nb,H.ab]++H.backs.ownBlock.toList++H.shapes.ownBlock.toList++H.classes.ownBlock.toList++H.said.ownBlock.toList) (B:=[]) (o:=H.marks.ownBlock) (g:=g) (by simpa [Hd.blocks] using h) (by simpa [Hd.blocks] using hg)
 simpa [Hd.blocks,Value.ownBlock] using this
structure Apart (wb:Nat) (H:Hd):Prop where
 wn:wb ≠ H.nb
 wa:wb ≠ H.ab
 na:H.nb ≠ H.ab
 b:∀ k,H.backs.ownBlock=some k->k ≠ wb/\k ≠ H.nb/\k ≠ H.ab/\H.shapes.ownBlock ≠ some k/\H.classes.ownBlock ≠ some k/\H.said.ownBlock ≠ some k
 s:∀ k,H.shapes.ownBlock=some k->k ≠ wb/\k ≠ H.nb/\k ≠ H.ab/\H.backs.ownBlock ≠ some k/\H.classes.ownBlock ≠ some k/\H.said.ownBlock ≠ some k
 c:∀ k,H.classes.ownBlock=some k->k ≠ wb/\k ≠ H.nb/\k ≠ H.ab/\H.backs.ownBlock ≠ some k/\H.shapes.ownBlock ≠ some k/\H.said.ownBlock ≠ some k
 d:∀ k,H.said.ownBlock=some k->k ≠ wb/\k ≠ H.nb/\k ≠ H.ab/\H.backs.ownBlock ≠ some k/\H.shapes.ownBlock ≠ some k/\H.classes.ownBlock ≠ some k
 m:∀ k,H.marks.ownBlock=some k->k ≠ wb/\k ≠ H.nb/\k ≠ H.ab/\H.backs.ownBlock ≠ some k/\H.shapes.ownBlock ≠ some k/\H.classes.ownBlock ≠ some k/\H.said.ownBlock ≠ some k
theorem Hd.parts {wb:Nat} {H:Hd} (h:(H.blocks wb).Nodup):Apart wb H:=by
 simp only [Hd.blocks,List.nodup_cons,List.nodup_append,List.mem_cons,List.mem_append,Option.mem_toList,not_or] at h
 obtain ⟨⟨h1,h2,h3,h4,h5,h6,g1⟩,⟨h7,h8,h9,h10,h11,g2⟩,⟨h12,h13,h14,h15,g3⟩,_,⟨_,⟨_,⟨_,_,g4⟩,h16⟩,h17⟩,h18⟩:=h
 refine ⟨h1,h2,h7,fun k hk=>?_,fun k hk=>?_,fun k hk=>?_,fun k hk=>?_,fun k hk=>?_⟩
 ·exact ⟨fun e=>h3 (e ▸ hk),fun e=>h8 (e ▸ hk),fun e=>h12 (e ▸ hk),fun e=>h18 k hk k (.inl e) rfl,fun e=>h18 k hk k (.inr (.inl e)) rfl,fun e=>h18 k hk k (.inr (.inr (.inl e))) rfl⟩
 ·exact ⟨fun e=>h4 (e ▸ hk),fun e=>h9 (e ▸ hk),fun e=>h13 (e ▸ hk),fun e=>h18 k e k (.inl hk) rfl,fun e=>h17 k hk k (.inl e) rfl,fun e=>h17 k hk k (.inr (.inl e)) rfl⟩
 ·exact ⟨fun e=>h5 (e ▸ hk),fun e=>h10 (e ▸ hk),fun e=>h14 (e ▸ hk),fun e=>h18 k e k (.inr (.inl hk)) rfl,fun e=>h17 k e k (.inl hk) rfl,fun e=>h16 k hk k (.inl e) rfl⟩
 ·exact ⟨fun e=>h6 (e ▸ hk),fun e=>h11 (e ▸ hk),fun e=>h15 (e ▸ hk),fun e=>h18 k e k (.inr (.inr (.inl hk))) rfl,fun e=>h17 k e k (.inr (.inl hk)) rfl,fun e=>h16 k e k (.inl hk) rfl⟩
 ·exact ⟨fun e=>g1 (e ▸ hk),fun e=>g2 (e ▸ hk),fun e=>g3 (e ▸ hk),fun e=>h18 k e k (.inr (.inr (.inr hk))) rfl,fun e=>h17 k e k (.inr (.inr hk)) rfl,fun e=>h16 k e k (.inr hk) rfl,fun e=>g4 k e k hk rfl⟩
end Go.Proofs.YtmfkpllnmmfpiaaGreatDoor
