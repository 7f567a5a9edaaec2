/- RefScanLaw, BookRead, BookAsk -/
import Derived.Test.YtmfkpllnmmfpiaaGreatDoorRefScanA
import Derived.Test.YtmfkpllnmmfpiaaGreatDoorBookA
set_option maxHeartbeats 16000000
set_option maxRecDepth 100000
namespace Go.Proofs.YtmfkpllnmmfpiaaGreatDoor
open Go.RowKit
def orO (o:Int) (r:Option (Int × Nat)):Int:=if 0<=o then o else match r with
 | some (_,p)=>(p:Int)
 | none=>-1
def OutOK (o:Int) (p:Nat):Prop:=o=-1\/(0<=o/\o < (p:Int))
theorem OutOK.mono {o:Int} {p q:Nat} (h:OutOK o p) (hpq:p<=q):OutOK o q:=h.imp id fun h=>⟨h.1,by omega⟩
theorem isR_bad {s:ByteArray} {c:Int} {x:Sc} (h:0<=x.bad):isR s c x=false:=by
 unfold isR
 rw [decide_eq_false (by omega)]
 simp
theorem isR_word {s:ByteArray} {k c:Int} {x:Sc} (hkc:∀ b,kindOf b=k ↔ b=c) (h0:k ≠ 0) (h5:k ≠ 5) (h6:k ≠ 6) (h7:k ≠ 7) (hc:c ≠ 0) (hb:x.bad=-1):isR s c x=true ↔ (wordAt s x.pos).1=k:=by
 rw [(word_sig hkc h0 h5 h6 h7 hc).1]
 unfold isR
 rw [decide_eq_true (by omega:x.bad < 0)]
 simp
theorem is_open {s:ByteArray} {x:Sc} (hb:x.bad=-1):isR s 40 x=true ↔ (wordAt s x.pos).1=1:=isR_word kindOf_1 (by decide) (by decide) (by decide) (by decide) (by decide) hb
theorem is_close {s:ByteArray} {x:Sc} (hb:x.bad=-1):isR s 41 x=true ↔ (wordAt s x.pos).1=2:=isR_word kindOf_2 (by decide) (by decide) (by decide) (by decide) (by decide) hb
theorem is_comma {s:ByteArray} {x:Sc} (hb:x.bad=-1):isR s 44 x=true ↔ (wordAt s x.pos).1=3:=isR_word kindOf_3 (by decide) (by decide) (by decide) (by decide) (by decide) hb
theorem is_equal {s:ByteArray} {x:Sc} (hb:x.bad=-1):isR s 61 x=true ↔ (wordAt s x.pos).1=4:=isR_word kindOf_4 (by decide) (by decide) (by decide) (by decide) (by decide) hb
theorem to_open {s:ByteArray} {i:Nat} (h:(wordAt s i).1=1):(wordAt s i).2.2=endOf blankB s i+1/\endOf blankB s i < s.size:=⟨(word_sig kindOf_1 (by decide) (by decide) (by decide) (by decide) (by decide)).2 h,((word_sig kindOf_1 (by decide) (by decide) (by decide) (by decide) (by decide)).1.1 h).1⟩
theorem to_close {s:ByteArray} {i:Nat} (h:(wordAt s i).1=2):(wordAt s i).2.2=endOf blankB s i+1/\endOf blankB s i < s.size:=⟨(word_sig kindOf_2 (by decide) (by decide) (by decide) (by decide) (by decide)).2 h,((word_sig kindOf_2 (by decide) (by decide) (by decide) (by decide) (by decide)).1.1 h).1⟩
theorem to_comma {s:ByteArray} {i:Nat} (h:(wordAt s i).1=3):(wordAt s i).2.2=endOf blankB s i+1/\endOf blankB s i < s.size:=⟨(word_sig kindOf_3 (by decide) (by decide) (by decide) (by decide) (by decide)).2 h,((word_sig kindOf_3 (by decide) (by decide) (by decide) (by decide) (by decide)).1.1 h).1⟩
theorem to_equal {s:ByteArray} {i:Nat} (h:(wordAt s i).1=4):(wordAt s i).2.2=endOf blankB s i+1/\endOf blankB s i < s.size:=⟨(word_sig kindOf_4 (by decide) (by decide) (by decide) (by decide) (by decide)).2 h,((word_sig kindOf_4 (by decide) (by decide) (by decide) (by decide) (by decide)).1.1 h).1⟩
theorem word_name {s:ByteArray} {i:Nat} (h:(wordAt s i).1=0):endOf blankB s i < s.size/\letterB (byteAt s (endOf blankB s i))=true/\(wordAt s i).2.2=endOf wordB s (endOf blankB s i):=by
 have hk:kindOf (byteAt s (endOf blankB s i))=0/\endOf blankB s i ≠ s.size/\(wordAt s i).2.2=endOf wordB s (endOf blankB s i+1):=by
  revert h
  unfold wordAt
  simp only
  split
  ·intro h; cases h
  ·rename_i h0
   split
   ·rename_i h1
    exact fun _=>⟨h1,h0,rfl⟩
   ·split
    ·intro h; cases h
    ·rename_i h1 _
     exact fun h=>absurd h h1
 have hl:=kindOf_zero.1 hk.1
 have hlt:endOf blankB s i < s.size:=by
  by_cases h4:endOf blankB s i < s.size
  ·exact h4
  ·rw [byteAt_past (by omega)] at hl
   exact absurd hl (not_letter (by omega))
 refine ⟨hlt,hl,?_⟩
 rw [hk.2.2]
 exact (endOf_step hlt (by unfold wordB; rw [hl]; rfl)).symm
theorem word_noname {s:ByteArray} {i:Nat} (h:(wordAt s i).1 ≠ 0):s.size<=endOf blankB s i\/letterB (byteAt s (endOf blankB s i))=false:=by
 by_cases h4:endOf blankB s i < s.size
 ·right
  cases hl:letterB (byteAt s (endOf blankB s i)) with
  | false=>rfl
  | true=>exact absurd (by rw [wordAt_name rfl h4 (kindOf_zero.2 hl)]) h
 ·exact .inl (by omega)
theorem nameR_none {s:ByteArray} {x:Sc} (hb:x.bad=-1) (h:(wordAt s x.pos).1 ≠ 0):(nameR s x)=(noName,{ x with pos:=endOf blankB s x.pos,bad:=(endOf blankB s x.pos:Nat) }):=by
 have hn:noR (blanksR s x)={ x with pos:=endOf blankB s x.pos,bad:=(endOf blankB s x.pos:Nat) }:=by
  unfold noR blanksR
  rw [if_pos (by show x.bad < 0; omega)]
 unfold nameR
 rcases word_noname h with h1 | h1
 ·rw [if_pos (.inr h1),hn]
 ·by_cases h2:s.size<=endOf blankB s x.pos
  ·rw [if_pos (.inr h2),hn]
  ·rw [if_neg (by omega),if_neg (by rw [h1]; simp),hn]
theorem nameR_some {s:ByteArray} {x:Sc} (hb:x.bad=-1) (h:(wordAt s x.pos).1=0):nameR s x=(s.extract (wordAt s x.pos).2.1 (wordAt s x.pos).2.2,{ x with pos:=(wordAt s x.pos).2.2 }):=by
 obtain ⟨h1,h2,h3⟩:=word_name h
 unfold nameR
 rw [if_neg (by omega),if_pos h2,wordAt_from,h3]
theorem farR_bad (a:Nat) (x:Sc):(farR a x).bad=x.bad/\(farR a x).pos=x.pos:=by
 unfold farR
 split <;> exact ⟨rfl,rfl⟩
theorem noR_keep {x:Sc} (h:0<=x.bad):noR x=x:=by unfold noR; rw [if_neg (by omega)]
theorem headR_at {s:ByteArray} {d:Nat} {x:Sc}:(headR s d x).2.bad=(nameR s (blanksR s x)).2.bad/\(headR s d x).2.pos=(nameR s (blanksR s x)).2.pos:=by
 unfold headR
 simp only
 split
 ·exact farR_bad _ _
 ·exact ⟨rfl,rfl⟩
structure TermOK2 (s:ByteArray) (n d:Nat) (x:Sc) (t:Tm n) (st2:Wd):Prop where
 term:(termR s n d x).1=erase n t
 bad:(termR s n d x).2.bad=-1
 pos:(termR s n d x).2.pos<=s.size
 word:wordAt s (termR s n d x).2.pos=st2
 out:(termR s n d x).2.out=orO x.out (rangeOf n t d)
 place:∀ q p,rangeOf n t d=some (q,p)->(wordAt s x.pos).2.1<=p
 later:OutOK (termR s n d x).2.out st2.2.1
 more:x.pos<=(termR s n d x).2.pos
def TermLaw (s:ByteArray) (n d:Nat):Prop:=∀ x:Sc,x.bad=-1->x.pos<=s.size->s.size < x.pos+n->OutOK x.out (wordAt s x.pos).2.1 ->
 (∀ t st2,termOf s n (wordAt s x.pos)=(some t,st2)->TermOK2 s n d x t st2)/\(∀ st2,termOf s n (wordAt s x.pos)=(none,st2)->(termR s n d x).2.bad=(st2.2.1:Nat))
structure PartsOK2 (s:ByteArray) (n d m:Nat) (x:Sc) (ts:List (Tm n)) (st2:Wd):Prop where
 term:(partsR s (termR s n d) m x).1=ts.map (erase n)
 bad:(partsR s (termR s n d) m x).2.bad=-1
 close:(wordAt s (partsR s (termR s n d) m x).2.pos).1=2
 word:wordAt s (endOf blankB s (partsR s (termR s n d) m x).2.pos+1)=st2
 out:(partsR s (termR s n d) m x).2.out=orO x.out (firstOf (fun p=>rangeOf n p d) ts)
 place:∀ q p,firstOf (fun p=>rangeOf n p d) ts=some (q,p)->x.pos<=p
 later:OutOK (partsR s (termR s n d) m x).2.out (endOf blankB s (partsR s (termR s n d) m x).2.pos)
 more:x.pos<=(partsR s (termR s n d) m x).2.pos
theorem orO_orO (o:Int) (ho:o=-1\/0<=o) (a b:Option (Int × Nat)):orO (orO o a) b=orO o (match a with | some c=>some c | none=>b):=by
 unfold orO
 rcases ho with rfl | ho
 ·cases a with
  | none=>simp
  | some c =>
   obtain ⟨q,p⟩:=c
   simp
 ·rw [if_pos ho,if_pos ho,if_pos ho]
theorem firstOf_cons {α β:Type} (f:α->Option β) (a:α) (l:List α):firstOf f (a :: l)=(match f a with | some c=>some c | none=>firstOf f l):=by
 cases h:f a with
 | none=>simp only [firstOf,h]
 | some c=>simp only [firstOf,h]
theorem parts_law {s:ByteArray} {n d:Nat} (hT:TermLaw s n d):∀ (m:Nat) (x:Sc) (st:Wd),st.2.2=x.pos->x.bad=-1->x.pos<=s.size->s.size < x.pos+m->s.size < x.pos+n->OutOK x.out x.pos ->
  (∀ ts st2,partsOf s (termOf s n) m st=(some ts,st2)->PartsOK2 s n d m x ts st2) /\
  (∀ st2,partsOf s (termOf s n) m st=(none,st2)->(noR (blanksR s (partsR s (termR s n d) m x).2)).bad=(st2.2.1:Nat)/\isR s 41 (partsR s (termR s n d) m x).2=false)
 | 0,x,_,_,_,h1,h2,_,_=>by omega
 | m+1,x,st,hst,hb,hp,hm,hn,ho=>by
  have hfrom:=wordAt_from s x.pos
  have hle:=wordAt_le s x.pos hp
  obtain ⟨hS,hN⟩:=hT x hb hp hn (ho.mono hle.1)
  unfold partsOf
  rw [hst]
  cases hq:termOf s n (wordAt s x.pos) with
  | mk o st1 =>
   cases o with
   | none =>
    refine ⟨fun ts st2 h=>by simp at h,fun st2 h=>?_⟩
    simp only [Prod.mk.injEq,true_and] at h
    subst h
    have hbad:=hN st1 hq
    have hf:isR s 44 (termR s n d x).2=false:=isR_bad (by omega)
    unfold partsR
    rw [hf]
    simp only [Bool.false_eq_true,if_false]
    have hb2:(blanksR s (termR s n d x).2).bad=(st1.2.1:Nat):=hbad
    have hb3:(blanksR s (blanksR s (termR s n d x).2)).bad=(st1.2.1:Nat):=hbad
    rw [noR_keep (by omega)]
    exact ⟨hb3,isR_bad (by omega)⟩
   | some t =>
    have T:=hS t st1 hq
    have hw:=T.word
    have hfr:st1.2.1=endOf blankB s (termR s n d x).2.pos:=by rw [<- hw,wordAt_from]
    have hlt:=wordAt_le s (termR s n d x).2.pos T.pos
    rw [hw] at hlt
    simp only
    by_cases hc:st1.1=3
    ·have h2:¬ st1.1=2:=by omega
     rw [if_neg h2,if_pos hc]
     have hcm:isR s 44 (termR s n d x).2=true:=(is_comma T.bad).2 (by rw [hw]; exact hc)
     obtain ⟨e1,e2⟩:=to_comma (s:=s) (i:=(termR s n d x).2.pos) (by rw [hw]; exact hc)
     rw [hw] at e1
     have hpos:(blanksR s (termR s n d x).2).next.pos=endOf blankB s (termR s n d x).2.pos+1:=rfl
     obtain ⟨kS,kN⟩:=parts_law hT m (blanksR s (termR s n d x).2).next st1 (by rw [hpos]; exact e1) T.bad (by rw [hpos]; omega) (by rw [hpos]; have:=T.more; omega) (by rw [hpos]; have:=T.more; omega) ((show OutOK (termR s n d x).2.out st1.2.1 from T.later).mono (by rw [hpos]; omega))
     have hR:partsR s (termR s n d) (m+1) x=((termR s n d x).1 :: (partsR s (termR s n d) m (blanksR s (termR s n d x).2).next).1,(partsR s (termR s n d) m (blanksR s (termR s n d x).2).next).2):=by
      conv=>lhs; unfold partsR
      rw [hcm]
      rfl
     cases hq2:partsOf s (termOf s n) m st1 with
     | mk o2 st3 =>
      cases o2 with
      | none =>
       refine ⟨fun ts st2 h=>by simp at h,fun st2 h=>?_⟩
       simp only [Prod.mk.injEq,true_and] at h
       subst h
       rw [hR]
       exact kN st3 hq2
      | some ts =>
       refine ⟨fun ts' st2 h=>?_,fun st2 h=>by simp at h⟩
       simp only [Prod.mk.injEq,Option.some.injEq] at h
       obtain ⟨rfl,rfl⟩:=h
       have K:=kS ts st3 hq2
       have hoo:x.out=-1\/0<=x.out:=ho.imp id (fun h=>h.1)
       refine ⟨by rw [hR]; simp only [List.map_cons]; rw [T.term,K.term],by rw [hR]; exact K.bad,by rw [hR]; exact K.close,by rw [hR]; exact K.word,?_,fun q p hqp=>?_,by rw [hR]; exact K.later,?_⟩
       ·rw [hR]
        simp only
        rw [K.out]
        show orO (termR s n d x).2.out _=_
        rw [T.out,orO_orO _ hoo,firstOf_cons]
        cases rangeOf n t d <;> rfl
       ·rw [firstOf_cons] at hqp
        cases hr:rangeOf n t d with
        | some c =>
         rw [hr] at hqp
         simp only [Option.some.injEq] at hqp
         subst hqp
         have:=T.place q p hr
         omega
        | none =>
         rw [hr] at hqp
         have h9:=K.place q p hqp
         rw [hpos] at h9
         have:=T.more
         omega
       ·rw [hR]
        simp only
        have h9:=K.more
        rw [hpos] at h9
        have:=T.more
        omega
    ·have hcm:isR s 44 (termR s n d x).2=false:=by
      cases hh:isR s 44 (termR s n d x).2 with
      | false=>rfl
      | true=>exact absurd ((is_comma T.bad).1 hh) (by rw [hw]; exact hc)
     have hR:partsR s (termR s n d) (m+1) x=([(termR s n d x).1],blanksR s (termR s n d x).2):=by
      unfold partsR
      rw [hcm]
      rfl
     have hag:endOf blankB s (blanksR s (termR s n d x).2).pos=endOf blankB s (termR s n d x).2.pos:=blank_again s _
     have hwg:wordAt s (blanksR s (termR s n d x).2).pos=st1:=by rw [<- hw]; exact wordAt_again s _
     by_cases h2:st1.1=2
     ·rw [if_pos h2]
      refine ⟨fun ts st2 h=>?_,fun st2 h=>by simp at h⟩
      simp only [Prod.mk.injEq,Option.some.injEq] at h
      obtain ⟨rfl,rfl⟩:=h
      obtain ⟨e1,e2⟩:=to_close (s:=s) (i:=(termR s n d x).2.pos) (by rw [hw]; exact h2)
      rw [hw] at e1
      have hbl:=endOf_le blankB s (termR s n d x).2.pos T.pos
      refine ⟨by rw [hR]; simp [T.term],by rw [hR]; exact T.bad,by rw [hR]; rw [hwg]; exact h2,by rw [hR]; simp only; rw [hag,e1],?_,fun q p hqp=>?_,?_,?_⟩
      ·rw [hR]
       show (termR s n d x).2.out=_
       rw [T.out,firstOf_cons]
       cases rangeOf n t d <;> rfl
      ·rw [firstOf_cons] at hqp
       cases hr:rangeOf n t d with
       | some c =>
        rw [hr] at hqp
        simp only [Option.some.injEq] at hqp
        subst hqp
        have:=T.place q p hr
        omega
       | none=>rw [hr] at hqp; cases hqp
      ·rw [hR]
       simp only
       rw [hag,<- hfr]
       exact T.later
      ·rw [hR]
       show x.pos<=endOf blankB s (termR s n d x).2.pos
       have:=T.more
       omega
     ·rw [if_neg h2,if_neg hc]
      refine ⟨fun ts st2 h=>by simp at h,fun st2 h=>?_⟩
      simp only [Prod.mk.injEq,true_and] at h
      subst h
      rw [hR]
      simp only
      constructor
      ·unfold noR
       rw [if_pos (by show (termR s n d x).2.bad < 0; rw [T.bad]; omega)]
       show ((endOf blankB s (blanksR s (termR s n d x).2).pos:Nat):Int)=_
       rw [hag,<- hfr]
      ·cases hh:isR s 41 (blanksR s (termR s n d x).2) with
       | false=>rfl
       | true=>exact absurd ((is_close (x:=blanksR s (termR s n d x).2) T.bad).1 hh) (by rw [hwg]; exact h2)
theorem farR_out {x:Sc} {a:Nat} (h:OutOK x.out a) (k:Int):(farR a x).out=orO x.out (some (k,a)):=by
 unfold farR orO
 rcases h with h | h
 ·rw [if_pos (.inl (by omega)),if_neg (by omega)]
 ·rw [if_neg (by omega),if_pos h.1]
theorem orO_ok {o:Int} {a b:Nat} {r:Option (Int × Nat)} (h:OutOK o a) (hr:∀ q p,r=some (q,p)->p < b) (hab:a<=b):OutOK (orO o r) b:=by
 unfold orO
 rcases h with h | h
 ·rw [if_neg (by omega)]
  cases r with
  | none=>exact .inl rfl
  | some c =>
   obtain ⟨q,p⟩:=c
   have:=hr q p rfl
   exact .inr ⟨by simp,by simp; omega⟩
 ·rw [if_pos h.1]
  exact .inr ⟨h.1,by omega⟩
theorem term_law (s:ByteArray):∀ n d,TermLaw s n d
 | 0,d=>fun x hb hp hn _=>by omega
 | n+1,d=>fun x hb hp hn ho=>by
  have hfrom:=wordAt_from s x.pos
  have hle:=wordAt_le s x.pos hp
  have hbp:(blanksR s x).pos=(wordAt s x.pos).2.1:=hfrom.symm
  have hbw:wordAt s (blanksR s x).pos=wordAt s x.pos:=wordAt_again s x.pos
  by_cases hk:(wordAt s x.pos).1=0
  ·have hnm:=nameR_some (s:=s) (x:=blanksR s x) hb (by rw [hbw]; exact hk)
   rw [hbw] at hnm
   have hlt:(wordAt s x.pos).2.1 < (wordAt s x.pos).2.2:=wordAt_lt s x.pos hp (by omega)
   obtain ⟨nm,hnmE⟩:∃ nm,s.extract (wordAt s x.pos).2.1 (wordAt s x.pos).2.2=nm:=⟨_,rfl⟩
   rw [hnmE] at hnm
   have hH1:(headR s d x).1=nm:=by unfold headR; rw [hnm]
   have hH2:(headR s d x).2.bad=-1:=by rw [headR_at.1,hnm]; exact hb
   have hH3:(headR s d x).2.pos=(wordAt s x.pos).2.2:=by rw [headR_at.2,hnm]
   have hH4:(headR s d x).2.out=if 8 < nm.size\/12 < d then orO x.out (some (3,(wordAt s x.pos).2.1)) else x.out:=by
    unfold headR
    rw [hnm,hbp]
    simp only
    split
    ·exact farR_out (x:={ blanksR s x with pos:=(wordAt s x.pos).2.2 }) ho 3
    ·rfl
   have hH5:OutOK (headR s d x).2.out (wordAt s x.pos).2.2:=by
    rw [hH4]
    split
    ·exact orO_ok ho (fun q p h=>by cases h; exact hlt) (by omega)
    ·exact ho.mono (by omega)
   have hoo:x.out=-1\/0<=x.out:=ho.imp id (fun h=>h.1)
   by_cases h1:(wordAt s (wordAt s x.pos).2.2).1=1
   ·have hop:isR s 40 (headR s d x).2=true:=(is_open hH2).2 (by rw [hH3]; exact h1)
    obtain ⟨e1,e2⟩:=to_open (s:=s) (i:=(wordAt s x.pos).2.2) h1
    have hpos:(blanksR s (headR s d x).2).next.pos=endOf blankB s (wordAt s x.pos).2.2+1:=by
     show endOf blankB s (headR s d x).2.pos+1=_
     rw [hH3]
    have hbl:=endOf_le blankB s (wordAt s x.pos).2.2 (by omega)
    obtain ⟨kS,kN⟩:=parts_law (term_law s n (d+1)) (s.size+1) (blanksR s (headR s d x).2).next (wordAt s (wordAt s x.pos).2.2) (by rw [hpos]; exact e1) hH2 (by rw [hpos]; omega) (by omega) (by rw [hpos]; omega) (hH5.mono (by rw [hpos]; omega))
    obtain ⟨r,hr⟩:∃ r,partsR s (termR s n (d+1)) (s.size+1) (blanksR s (headR s d x).2).next=r:=⟨_,rfl⟩
    have hT:termR s (n+1) d x=(.node nm r.1,closeR s (wordAt s x.pos).2.1 r):=by
     unfold termR
     rw [if_pos hop,hr,hH1,hbp]
    cases hq:partsOf s (termOf s n) (s.size+1) (wordAt s (wordAt s x.pos).2.2) with
    | mk o st2 =>
     cases o with
     | none =>
      rw [termOf_fails hk h1 hq]
      refine ⟨fun t st h=>by simp at h,fun st h=>?_⟩
      simp only [Prod.mk.injEq,true_and] at h
      subst h
      obtain ⟨b1,b2⟩:=kN st2 hq
      rw [hr] at b1 b2
      rw [hT]
      simp only
      unfold closeR
      rw [b2]
      simp only [Bool.false_eq_true,if_false]
      split
      ·rw [(farR_bad _ _).1]; exact b1
      ·exact b1
     | some ps =>
      rw [termOf_parts hk h1 hq]
      refine ⟨fun t st h=>?_,fun st h=>by simp at h⟩
      simp only [Prod.mk.injEq,Option.some.injEq] at h
      obtain ⟨rfl,rfl⟩:=h
      have K:=kS ps st2 hq
      obtain ⟨K1,K2,K3,K4,K5,K6,K7,K8⟩:=K
      rw [hr] at K1 K2 K3 K4 K5 K7 K8
      have hcl:isR s 41 r.2=true:=(is_close K2).2 K3
      obtain ⟨c1,c2⟩:=to_close (s:=s) (i:=r.2.pos) K3
      have hlen:r.1.length=ps.length:=by rw [K1,List.length_map]
      have hz:closeR s (wordAt s x.pos).2.1 r=(if 3 < ps.length then farR (wordAt s x.pos).2.1 (blanksR s r.2).next else (blanksR s r.2).next):=by
       unfold closeR
       rw [hcl,hlen]
       rfl
      have zb:(closeR s (wordAt s x.pos).2.1 r).bad=-1:=by
       rw [hz]
       split
       ·rw [(farR_bad _ _).1]; exact K2
       ·exact K2
      have zp:(closeR s (wordAt s x.pos).2.1 r).pos=endOf blankB s r.2.pos+1:=by
       rw [hz]
       split
       ·rw [(farR_bad _ _).2]; rfl
       ·rfl
      rw [hpos] at K8
      have hblr:r.2.pos<=endOf blankB s r.2.pos:=by
       by_cases h9:r.2.pos<=s.size
       ·exact (endOf_le blankB s r.2.pos h9).1
       ·rw [endOf_stop (by omega)]; omega
      have hplace:∀ q p,firstOf (fun p=>rangeOf n p (d+1)) ps=some (q,p)->(wordAt s x.pos).2.1 < p:=fun q p h=>by
       have h9:=K6 q p h
       rw [hpos] at h9
       omega
      have hrange:rangeOf (n+1) (Tm.mk nm (wordAt s x.pos).2.1 ps) d=if 8 < nm.size then some (3,(wordAt s x.pos).2.1) else if 3 < ps.length then some (4,(wordAt s x.pos).2.1) else if 12 < d then some (5,(wordAt s x.pos).2.1) else firstOf (fun p=>rangeOf n p (d+1)) ps:=rfl
      have zo:(closeR s (wordAt s x.pos).2.1 r).out=orO x.out (rangeOf (n+1) (Tm.mk nm (wordAt s x.pos).2.1 ps) d):=by
       have hout:(blanksR s r.2).next.out=orO (headR s d x).2.out (firstOf (fun p=>rangeOf n p (d+1)) ps):=K5
       rw [hz,hrange]
       rcases ho with ho1 | ho1
       ·by_cases hbad:8 < nm.size\/12 < d
        ·have e:(blanksR s r.2).next.out=((wordAt s x.pos).2.1:Int):=by
          rw [hout,hH4,if_pos hbad,ho1]
          simp [orO]
         have e3:orO x.out (if 8 < nm.size then some (3,(wordAt s x.pos).2.1) else if 3 < ps.length then some (4,(wordAt s x.pos).2.1) else if 12 < d then some (5,(wordAt s x.pos).2.1) else firstOf (fun p=>rangeOf n p (d+1)) ps)=((wordAt s x.pos).2.1:Int):=by
          rw [ho1]
          unfold orO
          rw [if_neg (by decide)]
          by_cases a1:8 < nm.size
          ·rw [if_pos a1]
          ·rw [if_neg a1]
           by_cases a2:3 < ps.length
           ·rw [if_pos a2]
           ·rw [if_neg a2,if_pos (by omega)]
         rw [e3]
         split
         ·unfold farR
          rw [if_neg (by rw [e]; omega)]
          exact e
         ·exact e
        ·rw [hH4,if_neg hbad,ho1] at hout
         rw [if_neg (by omega:¬ 8 < nm.size),if_neg (by omega:¬ 12 < d),ho1]
         split
         ·rename_i h3
          have hf:(blanksR s r.2).next.out < 0\/((wordAt s x.pos).2.1:Int) < (blanksR s r.2).next.out:=by
           rw [hout]
           unfold orO
           rw [if_neg (by decide)]
           cases hfo:firstOf (fun p=>rangeOf n p (d+1)) ps with
           | none=>exact .inl (by decide)
           | some c =>
            obtain ⟨q,p⟩:=c
            have:=hplace q p hfo
            exact .inr (by simp; omega)
          unfold farR
          rw [if_pos hf]
          simp [orO]
         ·exact hout
       ·have e:(blanksR s r.2).next.out=x.out:=by
         rw [hout,hH4]
         unfold orO
         split <;> simp [ho1.1]
        have e3:∀ r,orO x.out r=x.out:=fun r=>by unfold orO; rw [if_pos ho1.1]
        rw [e3]
        split
        ·unfold farR
         rw [if_neg (by rw [e]; omega)]
         exact e
        ·exact e
      have hfr2:endOf blankB s r.2.pos+1<=st2.2.1:=by
       rw [<- K4,wordAt_from]
       exact (endOf_le blankB s _ (by omega)).1
      refine ⟨?_,by rw [hT]; exact zb,by rw [hT]; simp only; rw [zp]; omega,by rw [hT]; simp only; rw [zp]; exact K4,by rw [hT,hnmE]; exact zo,fun q p h=>?_,?_,by rw [hT]; simp only; rw [zp]; omega⟩
      ·rw [hT,K1,hnmE]
       rfl
      ·rw [hnmE,hrange] at h
       split at h
       ·cases h; omega
       ·split at h
        ·cases h; omega
        ·split at h
         ·cases h; omega
         ·have:=hplace q p h; omega
      ·rw [hT]
       simp only
       rw [hz]
       split
       ·unfold farR
        split
        ·exact .inr ⟨Int.natCast_nonneg _,by show (((wordAt s x.pos).2.1:Nat):Int) < (st2.2.1:Int); omega⟩
        ·exact (show OutOK r.2.out _ from K7).mono (by omega)
       ·exact (show OutOK r.2.out _ from K7).mono (by omega)
   ·have hop:isR s 40 (headR s d x).2=false:=by
     cases hh:isR s 40 (headR s d x).2 with
     | false=>rfl
     | true=>exact absurd ((is_open hH2).1 hh) (by rw [hH3]; exact h1)
    have hT:termR s (n+1) d x=(.node nm [],blanksR s (headR s d x).2):=by
     unfold termR
     rw [hop,hH1]
     rfl
    have hbl:=endOf_le blankB s (wordAt s x.pos).2.2 (by omega)
    have hp2:(blanksR s (headR s d x).2).pos=endOf blankB s (wordAt s x.pos).2.2:=by
     show endOf blankB s (headR s d x).2.pos=_
     rw [hH3]
    have hrange:rangeOf (n+1) (Tm.mk nm (wordAt s x.pos).2.1 []) d=if 8 < nm.size then some (3,(wordAt s x.pos).2.1) else if 12 < d then some (5,(wordAt s x.pos).2.1) else none:=rfl
    rw [termOf_bare hk h1]
    refine ⟨fun t st h=>?_,fun st h=>by simp at h⟩
    simp only [Prod.mk.injEq,Option.some.injEq] at h
    obtain ⟨rfl,rfl⟩:=h
    refine ⟨by rw [hT,hnmE]; rfl,by rw [hT]; exact hH2,by rw [hT]; simp only; rw [hp2]; omega,by rw [hT]; simp only; rw [hp2]; exact wordAt_again s _,?_,fun q p h=>?_,?_,by rw [hT]; simp only; rw [hp2]; omega⟩
    ·rw [hT,hnmE,hrange]
     show (headR s d x).2.out=_
     rw [hH4]
     rcases ho with ho1 | ho1
     ·rw [ho1]
      by_cases a1:8 < nm.size
      ·rw [if_pos (.inl a1),if_pos a1]
      ·by_cases a2:12 < d
       ·rw [if_pos (.inr a2),if_neg a1,if_pos a2]
        rfl
       ·rw [if_neg (by omega),if_neg a1,if_neg a2]
        rfl
     ·have e3:∀ r,orO x.out r=x.out:=fun r=>by unfold orO; rw [if_pos ho1.1]
      rw [e3,e3]
      split <;> rfl
    ·rw [hnmE,hrange] at h
     split at h
     ·cases h; omega
     ·split at h
      ·cases h; omega
      ·cases h
    ·rw [hT]
     refine (show OutOK (headR s d x).2.out _ from hH5).mono ?_
     rw [wordAt_from]
     exact hbl.1
  ·rw [termOf_no hk]
   refine ⟨fun t st h=>by simp at h,fun st h=>?_⟩
   simp only [Prod.mk.injEq,true_and] at h
   subst h
   have hnm:=nameR_none (s:=s) (x:=blanksR s x) hb (by rw [hbw]; exact hk)
   have hag:endOf blankB s (blanksR s x).pos=(wordAt s x.pos).2.1:=by rw [hfrom]; exact blank_again s _
   rw [hag] at hnm
   have hH2:(headR s d x).2.bad=((wordAt s x.pos).2.1:Nat):=by rw [headR_at.1,hnm]
   have hop:isR s 40 (headR s d x).2=false:=isR_bad (by omega)
   unfold termR
   rw [hop]
   exact hH2
def errOf (f:Int):Int:=errZ.getD f.toNat 0
theorem readOf_kind (s:ByteArray):0<=(readOf s).2.1/\(readOf s).2.1<=5:=by
 unfold readOf
 split
 ·simp
 ·split
  ·simp
  ·split
   ·rename_i h
    have:=rangeOf_kind h
    simp only at this ⊢
    omega
   ·split
    ·rename_i h
     have:=rangeOf_kind h
     simp only at this ⊢
     omega
    ·simp
def BookRead (s:ByteArray) (w:World) (e:Ending) (w':World):Prop :=
 ∃ (a:ByteArray) (p:Int) (g:Option Addr) (l c:Nat) (k:Int) (a':ByteArray) (p':Int) (g':Option Addr) (l' c':Nat),
  e=.returned (.tuple #[.agg #[.string a,.int .i64 p,.slice g l c,.int .i64 k,.string a',.int .i64 p',.slice g' l' c'],.int .i64 (errOf (readOf s).2.1),.int .i64 (readOf s).2.2]) /\
  Upd [] w w' /\
  ∀ x,(readOf s).1=some x->IsSnt w' (fun k=>w.heap.size<=k) (fuelOf s) (.string a,.int .i64 p,.slice g l c) k (.string a',.int .i64 p',.slice g' l' c') x
theorem bookRead_any (s:ByteArray) (w:World) (bb:Nat) (hmax:s.size<=maxLen) (hs:w.cell? ⟨bb,0,none⟩=some (.pointer (some ⟨bb,0,none⟩))) (hE:ErrTab w) :
  Calls Tryz.prog 54 #[.pointer (some ⟨bb,0,none⟩),.string s] w (BookRead s w):=by
 obtain ⟨W1,hW1⟩:∃ W1,W1=w.alloc (.cells zero7 101):=⟨_,rfl⟩
 have U1:Upd [] w W1:=hW1 ▸ (Upd.refl [] w).alloc _
 have hsl:bb < w.heap.size:=World.block_lt_of_cell? _ _ hs
 have HCl:=hide (closed_made bb W1 ((U1.cell (p:=⟨bb,0,none⟩) hsl (by simp)).trans hs))
 have HRd:=hide (read_any s W1 hmax)
 have HK:=hide (readOf_kind s)
 subst hW1
 go_enter Tryz.func54,Tryz.ntmps54
 go_wp2_with (first
  | (go_at_call 44; refine HCl.out.mono ?_; rintro e w2 ⟨rfl,hw2⟩; rw [hw2]; clear hw2 w2)
  | (go_at_call 93; refine HRd.out.mono ?_; rintro e w2 ⟨a,p,g,l,c,k,a',p',g',l',c',rfl,hb2,hx2⟩; have Hb2:=hide hb2; have Hx2:=hide hx2; clear hb2 hx2))
 have hU2:Upd [] w w2:=(((Upd.refl [] w).alloc _)).trans (Upd.of_below Hb2.out)
 have hs2:=hU2.size
 have hs2':w.heap.size < w2.heap.size:=by have:=Hb2.out.size; simp at this; omega
 obtain ⟨W3,hW3⟩:∃ W3,W3=w2.alloc (.cells #[.string a,.int .i64 p,.slice g l c,.int .i64 k,.string a',.int .i64 p',.slice g' l' c'] 101):=⟨_,rfl⟩
 rw [<- hW3]
 have U3:Upd [] w2 W3:=hW3 ▸ (Upd.refl [] w2).alloc _
 have e0:W3.cell? ⟨w2.heap.size,0,none⟩=some (.string a):=by rw [hW3]; go_simp
 have e1:W3.cell? ⟨w2.heap.size,1,none⟩=some (.int .i64 p):=by rw [hW3]; go_simp
 have e2:W3.cell? ⟨w2.heap.size,2,none⟩=some (.slice g l c):=by rw [hW3]; go_simp
 have e3:W3.cell? ⟨w2.heap.size,3,none⟩=some (.int .i64 k):=by rw [hW3]; go_simp
 have e4:W3.cell? ⟨w2.heap.size,4,none⟩=some (.string a'):=by rw [hW3]; go_simp
 have e5:W3.cell? ⟨w2.heap.size,5,none⟩=some (.int .i64 p'):=by rw [hW3]; go_simp
 have e6:W3.cell? ⟨w2.heap.size,6,none⟩=some (.slice g' l' c'):=by rw [hW3]; go_simp
 have hb7:=(((Box7.new w 101).later (Upd.of_below (L:=[]) Hb2.out) (by simp)).later U3 (by simp))
 obtain ⟨d0,d1,d2,d3,d4,d5,d6⟩:=hb7.cells
 have df:=hb7.free
 obtain ⟨i,hi,hi5⟩:∃ i:Nat,(readOf s).2.1=(i:Int)/\i<=5:=⟨(readOf s).2.1.toNat,by have:=HK.out; omega,by have:=HK.out; omega⟩
 have Hi:=hide hi
 have HX:=hide Hx2.out
 have hErr:=(hE.later hU2 (by simp)).later U3 (by simp)
 have ht:W3.cell? ⟨0,i,none⟩=some (.int .i64 (errZ.getD i 0)):=hErr.2 i (by omega)
 have hErrOf:Hid (errOf (readOf s).2.1=errZ.getD i 0):=by show _=_; unfold errOf; rw [hi]; rfl
 have hw0:w.heap.size ≠ 0:=by have:=hE.1; omega
 have hw20:w2.heap.size ≠ 0:=by omega
 have hww:w.heap.size ≠ w2.heap.size:=by omega
 have hi6:(i:Int) < 6:=by omega
 have HU:=hide (hU2.trans U3)
 have HU3:=hide U3
 rw [hi]
 generalize errZ.getD i 0=er at *
 clear hb7 hU2 U3 hErr hi Hx2 hW3 hE HCl HRd HK U1
 go_region
 go_wp2
 refine bodyPost_ret (v:=.tuple #[.agg #[.string a,.int .i64 p,.slice g l c,.int .i64 k,.string a',.int .i64 p',.slice g' l' c'],.int .i64 er,.int .i64 (readOf s).2.2]) (by simp [results,Tryz.results54,go_sem,d0,d1,d2,d3,d4,d5,d6]) rfl ?_
 have U7:=(upd7 W3 w.heap.size (.string a) (.int .i64 p) (.slice g l c) (.int .i64 k) (.string a') (.int .i64 p') (.slice g' l' c')).drew
 refine ⟨a,p,g,l,c,k,a',p',g',l',c',by rw [hErrOf.out],HU.out.trans' U7 (fun x hx hlt=>by simp at hx; omega),fun x hx=>?_⟩
 obtain ⟨h1,h2,h3⟩:=HX.out x hx
 have hk:∀ k,(w.alloc (.cells zero7 101)).heap.size<=k->k ∉ [w.heap.size]:=fun k hk hm=>by simp at hk hm; omega
 exact ⟨((h1.later HU3.out (fun _ _=>by simp)).later U7 hk).mono (fun k hk _=>by simp at hk; omega),h2,((h3.later HU3.out (fun _ _=>by simp)).later U7 hk).mono (fun k hk _=>by simp at hk; omega)⟩
def followsOf (S:WS) (s:ByteArray):Bool × Int × Nat :=
 match (readOf s).1 with
 | some x=>(followsM S x,0,0)
 | none=>(false,errOf (readOf s).2.1,(readOf s).2.2)
theorem WebAt.book {w w':World} {bb wb:Nat} {H H':Hd} {Z:Nat->Prop} {S:WS} (h:BookAt w bb Z S) (hc:w.cell? ⟨bb,1,none⟩=some (.pointer (some ⟨wb,0,none⟩))) (hH:∀ k ∈ H.blocks wb,Z k/\k ≠ bb) (U:Upd (H.blocks wb) w w') {T:WS} (hw:WebAt w' wb H' (fun k=>(Z k/\k ≠ bb)\/w.heap.size<=k) T) (hf:Fine T) (ht:T.shapes.length<=100) (hs:T.said.length<=40) :
  BookAt w' bb (fun k=>(Z k\/w.heap.size<=k)/\k < w'.heap.size) T:=by
 have hb:bb ∉ H.blocks wb:=fun hm=>(hH bb hm).2 rfl
 have hlt:=h.lt
 refine ⟨Nat.lt_of_lt_of_le h.lt U.size,(U.cell (p:=⟨bb,0,none⟩) h.lt hb).trans h.self,⟨wb,H',(U.cell (p:=⟨bb,1,none⟩) h.lt hb).trans hc,hw.mono (fun k hk hl=>?_)⟩,⟨.inl h.own,Nat.lt_of_lt_of_le h.lt U.size⟩,fun k hk=>hk.2,hf,ht,hs⟩
 rcases hk with hk | hk
 ·exact ⟨⟨.inl hk.1,hl⟩,hk.2⟩
 ·exact ⟨⟨.inr hk,hl⟩,by omega⟩
theorem readOf_bad {s:ByteArray} (h:(readOf s).1=none):1<=(readOf s).2.1/\(readOf s).2.1<=5:=by
 revert h
 unfold readOf
 split
 ·simp
 ·split
  ·simp
  ·split
   ·rename_i h
    have:=rangeOf_kind h
    intro _
    simp only at this ⊢
    omega
   ·split
    ·rename_i h
     have:=rangeOf_kind h
     intro _
     simp only at this ⊢
     omega
    ·simp
theorem errOf_ne {s:ByteArray} (h:(readOf s).1=none):(errOf (readOf s).2.1 != 0)=true:=by
 have h1:=readOf_bad h
 generalize (readOf s).2.1=f at *
 obtain ⟨i,rfl⟩:∃ i:Nat,f=(i:Int):=⟨f.toNat,by omega⟩
 have h2:1<=i:=by omega
 have h3:i<=5:=by omega
 clear h1
 match i,h2,h3 with
 | 1,_,_=>rfl
 | 2,_,_=>rfl
 | 3,_,_=>rfl
 | 4,_,_=>rfl
 | 5,_,_=>rfl
 | i+6,_,h3=>omega
theorem BookAt.wider {w w':World} {bb:Nat} {Z:Nat->Prop} {S:WS} (h:BookAt w bb Z S) (U:Upd [] w w'):BookAt w' bb (fun k=>(Z k\/w.heap.size<=k)/\k < w'.heap.size) S:=by
 have h1:=h.later U (fun _ _=>by simp)
 obtain ⟨wb,H,hc,hw⟩:=h1.ex
 exact ⟨h1.lt,h1.self,⟨wb,H,hc,hw.mono (fun k hk hl=>⟨⟨.inl hk.1,hl⟩,hk.2⟩)⟩,⟨.inl h.own,h1.lt⟩,fun k hk=>hk.2,h.fine,h.terms,h.saids⟩
theorem bookRead_fine (s:ByteArray) (w:World) (bb:Nat) (hmax:s.size<=maxLen) (hs:w.cell? ⟨bb,0,none⟩=some (.pointer (some ⟨bb,0,none⟩))) (hE:ErrTab w) {x:Snt (fuelOf s)} (hx:(readOf s).1=some x) :
  Calls Tryz.prog 54 #[.pointer (some ⟨bb,0,none⟩),.string s] w fun e w'=>∃ (a:ByteArray) (p:Int) (g:Option Addr) (l c:Nat) (k:Int) (a':ByteArray) (p':Int) (g':Option Addr) (l' c':Nat),
   e=.returned (.tuple #[.agg #[.string a,.int .i64 p,.slice g l c,.int .i64 k,.string a',.int .i64 p',.slice g' l' c'],.int .i64 0,.int .i64 0])/\Upd [] w w'/\IsSnt w' (fun k=>w.heap.size<=k) (fuelOf s) (.string a,.int .i64 p,.slice g l c) k (.string a',.int .i64 p',.slice g' l' c') x:=by
 refine (bookRead_any s w bb hmax hs hE).mono ?_
 rintro e w2 ⟨a,p,g,l,c,k,a',p',g',l',c',rfl,hu,hx2⟩
 have h1:=(readOf_small hx).2.2
 refine ⟨a,p,g,l,c,k,a',p',g',l',c',?_,hu,hx2 x hx⟩
 rw [h1]
 rfl
theorem follows_any (s:ByteArray) (w:World) (bb:Nat) (Z:Nat->Prop) (S:WS) (hmax:s.size<=maxLen) (h:BookAt w bb Z S) (hE:ErrTab w) :
  Calls Tryz.prog 26 #[.pointer (some ⟨bb,0,none⟩),.string s] w fun e w'=>e=.returned (.tuple #[.bool (followsOf S s).1,.int .i64 (followsOf S s).2.1,.int .i64 (followsOf S s).2.2])/\BookAt w' bb (fun k=>(Z k\/w.heap.size<=k)/\k < w'.heap.size) S/\∃ L,(∀ k ∈ L,Z k)/\Upd L w w':=by
 cases hr:(readOf s).1 with
 | none =>
  have HRd:=hide (bookRead_any s w bb hmax h.self hE)
  have HF:Hid (followsOf S s=(false,errOf (readOf s).2.1,(readOf s).2.2)):=by show _=_; unfold followsOf; rw [hr]
  have HB:=hide (fun (w':World) (U:Upd [] w w')=>h.wider U)
  have hne:(errOf (readOf s).2.1 != 0)=true:=errOf_ne hr
  clear h hE hr
  go_enter Tryz.func26,Tryz.ntmps26
  go_wp2_with (go_at_call 54; refine HRd.out.mono ?_; rintro e w2 ⟨a,p,g,l,c,k,a',p',g',l',c',rfl,hu2,_⟩; have Hu2:=hide hu2; clear hu2)
  go_ret3
  have U:=Hu2.out.alloc (.cells #[.string a,.int .i64 p,.slice g l c,.int .i64 k,.string a',.int .i64 p',.slice g' l' c'] 101)
  exact ⟨by rw [HF.out]; rfl,HB.out _ U,[],fun k hk=>(by cases hk),U⟩
 | some x =>
  obtain ⟨hnar,hsz,_⟩:=readOf_small hr
  have HF:Hid (followsOf S s=(followsM S x,0,0)):=by show _=_; unfold followsOf; rw [hr]
  have HRd:=hide (bookRead_fine s w bb hmax h.self hE hr)
  obtain ⟨wb,H,hc1,hw⟩:=h.ex
  have hlt:=h.lt
  have ht:=h.terms
  have hs:=h.saids
  have Hh:=hide h
  have Hw:=hide hw
  have HC:=hide (fun (w2:World) (X:Obj) (hu:Upd [] w w2) a p g l c k a' p' g' l' c' (hx2:IsSnt w2 (fun k=>w.heap.size<=k) (fuelOf s) (.string a,.int .i64 p,.slice g l c) k (.string a',.int .i64 p',.slice g' l' c') x) =>
   webFollows_any (w2.alloc X).drew wb (fuelOf s) H (fun k=>Z k/\k ≠ bb) (fun k=>w.heap.size<=k) S (.string a,.int .i64 p,.slice g l c) (.string a',.int .i64 p',.slice g' l' c') k x (hw.later (hu.alloc X).drew (fun _ _=>by simp))
    ⟨hx2.1.later ((Upd.refl [] w2).alloc X).drew (fun _ _=>by simp),hx2.2.1,hx2.2.2.later ((Upd.refl [] w2).alloc X).drew (fun _ _=>by simp)⟩ (fun k hk hz=>by have:=h.low k hz.1; omega) (fun k hk=>Nat.lt_of_lt_of_le (h.low k hk.1) (hu.alloc X).size) h.fine hnar (by omega) (by omega))
  have HN:=hide hnar
  clear h hE hr hw hnar
  go_enter Tryz.func26,Tryz.ntmps26
  go_wp2_with (go_at_call 54; refine HRd.out.mono ?_; rintro e w2 ⟨a,p,g,l,c,k,a',p',g',l',c',rfl,hu2,hx2⟩; have Hu2:=hide hu2; have Hx2:=hide hx2; clear hu2 hx2)
  have U:=Hu2.out.alloc (.cells #[.string a,.int .i64 p,.slice g l c,.int .i64 k,.string a',.int .i64 p',.slice g' l' c'] 101)
  have c1:=(U.cell (p:=⟨bb,1,none⟩) hlt (by simp)).trans hc1
  have HU:=hide U
  clear U
  go_region_with (go_at_call 60; refine (HC.out w2 _ Hu2.out a p g l c k a' p' g' l' c' Hx2.out).mono ?_; rintro e w3 ⟨rfl,H3,hw3,hu3,hH3⟩; have Hw3:=hide hw3; have Hu3:=hide hu3; have HH3:=hide hH3; clear hw3 hu3 hH3)
  all_goals (
   go_wp2
   go_ret3
   have U3:=(HU.out.drew.mono (L':=H.blocks wb) (fun x hx _=>by cases hx)).trans Hu3.out
   have s2:=HU.out.size
   refine ⟨by rw [HF.out]; rfl,?_,H.blocks wb,fun k hk=>(Hw.out.inZ k hk).1,U3⟩
   exact WebAt.book Hh.out hc1 Hw.out.inZ U3 (Hw3.out.mono (fun k hk _=>hk.imp id (fun h=>Nat.le_trans s2 h))) Hh.out.fine ht hs)
theorem clash_any (w:World) (bb:Nat) (Z:Nat->Prop) (S:WS) (h:BookAt w bb Z S) :
  Calls Tryz.prog 16 #[.pointer (some ⟨bb,0,none⟩)] w fun e w'=>e=.returned (.bool (clashM S))/\Upd [] w w':=by
 obtain ⟨wb,H,hc1,hw⟩:=h.ex
 have HCl:=hide (closed_made bb w h.self)
 have HC:=hide (webClash_any w wb H _ S hw h.fine.web.base.saidLt (by have:=h.saids; omega))
 clear h hw
 go_enter Tryz.func16,Tryz.ntmps16
 go_wp2_with (first
  | (go_at_call 44; refine HCl.out.mono ?_; rintro e w2 ⟨rfl,hw2⟩; rw [hw2]; clear hw2 w2)
  | (go_at_call 45; refine HC.out.mono ?_; rintro e w3 ⟨rfl,hu3⟩; have Hu3:=hide hu3; clear hu3))
 go_ret
 exact ⟨rfl,Hu3.out⟩
end Go.Proofs.YtmfkpllnmmfpiaaGreatDoor
