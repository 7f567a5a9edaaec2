/- Next -/
import Derived.Test.YtmfkpllnmmfpiaaGreatDoorLexA
import Derived.Test.YtmfkpllnmmfpiaaGreatDoorWebHeapA
set_option maxHeartbeats 16000000
set_option maxRecDepth 100000
namespace Go.Proofs.YtmfkpllnmmfpiaaGreatDoor
open Go.RowKit
structure Rd (w:World) (r:Nat) (s:ByteArray) (k:Int) (f t:Nat):Prop where
 lt:r < w.heap.size
 text:w.cell? ⟨r,0,none⟩=some (.string s)
 kind:w.cell? ⟨r,1,none⟩=some (.int .i64 k)
 from_:w.cell? ⟨r,2,none⟩=some (.int .i64 f)
 till:w.cell? ⟨r,3,none⟩=some (.int .i64 t)
 free:∀ o,w.frozen? ⟨r,o,none⟩=false
theorem Rd.drewN {w:World} {r:Nat} {s:ByteArray} {k:Int} {f t:Nat} (h:Rd w r s k f t) (n:Nat):Rd (w.drewN n) r s k f t:=⟨h.lt,h.text,h.kind,h.from_,h.till,h.free⟩
theorem Rd.later {w w':World} {L:List Nat} {r:Nat} {s:ByteArray} {k:Int} {f t:Nat} (h:Rd w r s k f t) (hu:Upd L w w') (hr:r ∉ L):Rd w' r s k f t :=
 ⟨Nat.lt_of_lt_of_le h.lt hu.size,(hu.cell h.lt hr).trans h.text,(hu.cell h.lt hr).trans h.kind,(hu.cell h.lt hr).trans h.from_,(hu.cell h.lt hr).trans h.till,fun o=>(hu.frozen (p:=⟨r,o,none⟩) h.lt hr).trans (h.free o)⟩
theorem Rd.set_from {w:World} {r:Nat} {s:ByteArray} {k:Int} {f t:Nat} (h:Rd w r s k f t) {f':Nat} {v:Int} (hv:v=f'):Rd (w.setCell ⟨r,2,none⟩ (.int .i64 v)) r s k f' t:=by
 obtain ⟨hlt,h0,h1,h2,h3,hf⟩:=h
 subst hv
 exact ⟨by simpa using hlt,by go_simp,by go_simp,by go_simp,by go_simp,fun o=>by simpa using hf o⟩
theorem Rd.set_kind {w:World} {r:Nat} {s:ByteArray} {k:Int} {f t:Nat} (h:Rd w r s k f t) (k':Int):Rd (w.setCell ⟨r,1,none⟩ (.int .i64 k')) r s k' f t:=by
 obtain ⟨hlt,h0,h1,h2,h3,hf⟩:=h
 exact ⟨by simpa using hlt,by go_simp,by go_simp,by go_simp,by go_simp,fun o=>by simpa using hf o⟩
theorem Rd.set_to {w:World} {r:Nat} {s:ByteArray} {k:Int} {f t:Nat} (h:Rd w r s k f t) {t':Nat} {v:Int} (hv:v=t'):Rd (w.setCell ⟨r,3,none⟩ (.int .i64 v)) r s k f t':=by
 obtain ⟨hlt,h0,h1,h2,h3,hf⟩:=h
 subst hv
 exact ⟨by simpa using hlt,by go_simp,by go_simp,by go_simp,by go_simp,fun o=>by simpa using hf o⟩
def natAt (w:World) (a:Addr):Nat:=match w.cell? a with | some (.int _ q)=>q.toNat | _=>0
theorem natAt_eq {w:World} {a:Addr} {k:IntKind} {n:Nat} (h:w.cell? a=some (.int k n)):natAt w a=n:=by simp [natAt,h]
theorem next_any (r:Nat) (s:ByteArray) (k:Int) (f t:Nat) (w:World) (h:Rd w r s k f t) (hs:s.size<=1000) (ht:t<=s.size) :
  Calls Tryz.prog 124 #[.pointer (some ⟨r,0,none⟩)] w fun e w'=>e=.returned (.tuple #[])/\Rd w' r s (wordAt s t).1 (wordAt s t).2.1 (wordAt s t).2.2/\Upd [r] w w':=by
 have hstart:=h.set_from (f':=t) (v:=t) rfl
 obtain ⟨hlt,h0,h1,h2,h3,hf⟩:=h
 go_enter Tryz.func124,Tryz.ntmps124
 go_wp2
 go_loopw [] (fun wr=>∃ i:Nat,t<=i/\i<=s.size/\Hid (endOf blankB s i=endOf blankB s t)/\Rd wr r s k i t/\Upd [r] w wr) (fun wr=>s.size - natAt wr ⟨r,2,none⟩)
 case atStart =>
  exact ⟨t,Nat.le_refl _,ht,rfl,hstart,(Upd.refl _ _).setCell (by simp) _⟩
 case round =>
  obtain ⟨i,hi1,hi2,hi3,hrd,hu⟩:=hrel
  have hrd':=hrd
  obtain ⟨glt,g0,g1,g2,g3,gf⟩:=hrd'
  clear h0 h1 h2 h3 hf hlt hstart
  by_cases hlt:i < s.size
  ·have hbt:=byteAt_get s i hlt
   by_cases hb:byteAt s i=32
   ·go_wp2
    go_quiet (fail)
    go_wp2
    refine ⟨⟨i+1,by omega,by omega,(endOf_step hlt (by simp [blankB,hb])).symm.trans hi3,(hrd.drewN nq).set_from (by omega),(hu.drewN nq).setCell (by simp) _⟩,?_⟩
    rw [natAt_eq g2,natAt_eq (n:=i+1) ((hrd.drewN nq).set_from (f':=i+1) (by omega)).from_]
    omega
   ·have hb':(byteAt s i == 32)=false:=by simpa using hb
    have hfrom:endOf blankB s t=i:=hi3.symm.trans (endOf_stop (by simp [blankB,hb]))
    have Hfrom:Hid (endOf blankB s t=i):=hfrom
    clear hfrom hi3 hb
    have hne:((i:Int) == (s.size:Int))=false:=by simp; omega
    have hne':i ≠ s.size:=by omega
    by_cases hk0:kindOf (byteAt s i)=0
    ·have hw:Hid (wordAt s t=(0,i,endOf wordB s (i+1))):=wordAt_name Hfrom.out hlt hk0
     go_wp2
     go_quiet (fail)
     go_wp2
     go_quiet (fail)
     go_wp2
     go_region_held3 (fun w'=>w'.cell? ⟨r,0,none⟩=some (.string s)/\w'.cell? ⟨r,2,none⟩=some (.int .i64 i)) ((first | go_keep | (refine ⟨?_,?_⟩ <;> go_simp))) (first | (go_at_call 148; refine (firstKind_any _ _).mono ?_; rintro e w' ⟨rfl,rfl⟩))
     go_wp2
     go_loopw [] (fun wx=>∃ j:Nat,i+1<=j/\j<=s.size/\Hid (endOf wordB s j=endOf wordB s (i+1))/\Rd wx r s 0 i j/\Upd [r] w wx) (fun wx=>s.size - natAt wx ⟨r,3,none⟩)
     case atStart =>
      refine ⟨i+1,Nat.le_refl _,hlt,rfl,?_,?_⟩
      ·exact ((hrd.drewN _).set_kind 0).set_to (by omega)
      ·exact ((hu.drewN _).setCell (by simp) _).setCell (by simp) _
     case round =>
      obtain ⟨j,hj1,hj2,hj3,hrx,hux⟩:=hrel
      have hrx':=hrx
      obtain ⟨x0,x1,x2,x3,x4,x5⟩:=hrx'
      clear hrd hu glt g0 g1 g2 g3 gf hbt hb' hne hne'
      by_cases hjt:j < s.size
      ·have hbj:=byteAt_get s j hjt
       cases hl:letterB (byteAt s j)
       ·cases hd:digitB (byteAt s j)
        ·have Hend:Hid (endOf wordB s (i+1)=j):=hj3.out.symm.trans (endOf_stop (by rw [wordB_of,hl,hd]; simp))
         go_wp2
         go_quiet ((first | (go_at_call 149; exact Calls.quiet_of_same (isLetter_is _ false _ hl)) | (go_at_call 150; exact Calls.quiet_of_same (isDigit_any _ _))))
         go_wp2
         go_end0
         refine ⟨rfl,?_,hux.drewN _⟩
         rw [hw.out,Hend.out]
         exact hrx.drewN _
        ·have hj4:endOf wordB s j=endOf wordB s (j+1):=endOf_step hjt (by rw [wordB_of,hl,hd]; rfl)
         have Hj4:Hid (endOf wordB s (j+1)=endOf wordB s (i+1)):=hj4.symm.trans hj3
         clear hj4
         go_wp2
         go_quiet ((first | (go_at_call 149; exact Calls.quiet_of_same (isLetter_is _ false _ hl)) | (go_at_call 150; exact Calls.quiet_of_same (isDigit_any _ _))))
         go_wp2
         refine ⟨⟨j+1,by omega,by omega,Hj4,(hrx.drewN nq).set_to (by omega),(hux.drewN nq).setCell (by simp) _⟩,?_⟩
         rw [natAt_eq x4,natAt_eq (n:=j+1) ((hrx.drewN nq).set_to (t':=j+1) (by omega)).till]
         omega
       ·have hj4:endOf wordB s j=endOf wordB s (j+1):=endOf_step hjt (by rw [wordB_of,hl]; rfl)
        have Hj4:Hid (endOf wordB s (j+1)=endOf wordB s (i+1)):=hj4.symm.trans hj3
        clear hj4
        go_wp2
        go_quiet ((first | (go_at_call 149; exact Calls.quiet_of_same (isLetter_is _ true _ hl)) | (go_at_call 150; exact Calls.quiet_of_same (isDigit_any _ _))))
        go_wp2
        refine ⟨⟨j+1,by omega,by omega,Hj4,(hrx.drewN nq).set_to (by omega),(hux.drewN nq).setCell (by simp) _⟩,?_⟩
        rw [natAt_eq x4,natAt_eq (n:=j+1) ((hrx.drewN nq).set_to (t':=j+1) (by omega)).till]
        omega
      ·have hdj:decide ((j:Int) < (s.size:Int))=false:=by simp; omega
       have Hend:Hid (endOf wordB s (i+1)=j):=hj3.out.symm.trans (endOf_stop (fun hh=>hjt hh.1))
       go_wp2
       go_quiet (fail)
       go_wp2
       go_end0
       refine ⟨rfl,?_,hux.drewN _⟩
       rw [hw.out,Hend.out]
       exact hrx.drewN _
    ·have hk0':(kindOf (byteAt s i) == 0)=false:=by simpa using hk0
     by_cases hk6:kindOf (byteAt s i)=6
     ·have hk6':(kindOf (byteAt s i) == 6)=true:=by simpa using hk6
      by_cases hn:i+1 < s.size
      ·have hn':((i:Int)+1) < (s.size:Int):=by omega
       have hbn:=byteAt_get s (i+1) hn
       by_cases h61:byteAt s (i+1)=61
       ·have hw:Hid (wordAt s t=(5,i,i+2)):=wordAt_unequal Hfrom.out hn hk6 h61
        have h61':(byteAt s (i+1) == 61)=true:=by simpa using h61
        clear hk6 h61 hk0
        go_wp2
        go_quiet (fail)
        go_wp2
        go_quiet (fail)
        go_wp2
        go_region_held3 (fun w'=>w'.cell? ⟨r,0,none⟩=some (.string s)/\w'.cell? ⟨r,2,none⟩=some (.int .i64 i)) ((first | go_keep | (refine ⟨?_,?_⟩ <;> go_simp))) (first | (go_at_call 148; refine (firstKind_any _ _).mono ?_; rintro e w' ⟨rfl,rfl⟩))
        go_wp2
        go_quiet (fail)
        go_wp2
        go_end0
        refine ⟨rfl,?_,?_⟩
        ·rw [hw.out]
         exact (((((hrd.drewN _).set_kind _).set_to (t':=i+1) (by go_arith)).drewN _).set_kind _).set_to (t':=i+2) (by go_arith)
        ·exact (((((hu.drewN _).setCell (by simp) _).setCell (by simp) _).drewN _).setCell (by simp) _).setCell (by simp) _
       ·have hw:Hid (wordAt s t=(6,i,i+1)):=(wordAt_other Hfrom.out hlt hk0 (fun hh=>h61 hh.2.2)).trans (by rw [hk6])
        have h61':(byteAt s (i+1) == 61)=false:=by simpa using h61
        have hk6e:kindOf (byteAt s i)=6:=hk6
        clear h61 hk0 hk6
        go_wp2
        go_quiet (fail)
        go_wp2
        go_quiet (fail)
        go_wp2
        go_region_held3 (fun w'=>w'.cell? ⟨r,0,none⟩=some (.string s)/\w'.cell? ⟨r,2,none⟩=some (.int .i64 i)) ((first | go_keep | (refine ⟨?_,?_⟩ <;> go_simp))) (first | (go_at_call 148; refine (firstKind_any _ _).mono ?_; rintro e w' ⟨rfl,rfl⟩))
        go_wp2
        go_quiet (fail)
        go_wp2
        go_end0
        refine ⟨rfl,?_,?_⟩
        ·rw [hw.out]
         exact (((hrd.drewN _).set_kind _).set_to (t':=i+1) (by go_arith)).drewN _
        ·exact (((hu.drewN _).setCell (by simp) _).setCell (by simp) _).drewN _
      ·have hw:Hid (wordAt s t=(6,i,i+1)):=(wordAt_other Hfrom.out hlt hk0 (fun hh=>hn hh.2.1)).trans (by rw [hk6])
       have hdn:decide ((i:Int)+1 < (s.size:Int))=false:=by simp; omega
       have hk6e:kindOf (byteAt s i)=6:=hk6
       clear hk0 hk6
       go_wp2
       go_quiet (fail)
       go_wp2
       go_quiet (fail)
       go_wp2
       go_region_held3 (fun w'=>w'.cell? ⟨r,0,none⟩=some (.string s)/\w'.cell? ⟨r,2,none⟩=some (.int .i64 i)) ((first | go_keep | (refine ⟨?_,?_⟩ <;> go_simp))) (first | (go_at_call 148; refine (firstKind_any _ _).mono ?_; rintro e w' ⟨rfl,rfl⟩))
       go_wp2
       go_quiet (fail)
       go_wp2
       go_end0
       refine ⟨rfl,?_,?_⟩
       ·rw [hw.out]
        exact (((hrd.drewN _).set_kind _).set_to (t':=i+1) (by go_arith)).drewN _
       ·exact (((hu.drewN _).setCell (by simp) _).setCell (by simp) _).drewN _
     ·have hk6':(kindOf (byteAt s i) == 6)=false:=by simpa using hk6
      have hw:Hid (wordAt s t=(kindOf (byteAt s i),i,i+1)):=wordAt_other Hfrom.out hlt hk0 (fun hh=>hk6 hh.1)
      clear hk0 hk6
      go_wp2
      go_quiet (fail)
      go_wp2
      go_quiet (fail)
      go_wp2
      go_region_held3 (fun w'=>w'.cell? ⟨r,0,none⟩=some (.string s)/\w'.cell? ⟨r,2,none⟩=some (.int .i64 i)) ((first | go_keep | (refine ⟨?_,?_⟩ <;> go_simp))) (first | (go_at_call 148; refine (firstKind_any _ _).mono ?_; rintro e w' ⟨rfl,rfl⟩))
      go_wp2
      go_end0
      refine ⟨rfl,?_,?_⟩
      ·rw [hw.out]
       exact ((hrd.drewN _).set_kind _).set_to (t':=i+1) (by go_arith)
      ·exact ((hu.drewN _).setCell (by simp) _).setCell (by simp) _
  ·have hie:i=s.size:=by omega
   have hdi:decide ((i:Int) < (s.size:Int))=false:=by simp; omega
   have heq:((i:Int) == (s.size:Int))=true:=by simp; omega
   have hw:Hid (wordAt s t=(7,s.size,s.size)):=wordAt_end (hi3.out.symm.trans ((endOf_stop (fun hh=>hlt hh.1)).trans hie))
   have Hie:Hid (i=s.size):=hie
   clear hie
   go_wp2
   go_quiet (fail)
   go_wp2
   go_quiet (fail)
   go_wp2
   go_returns
   refine ⟨rfl,?_,?_⟩
   ·rw [hw.out,<- Hie.out]
    exact ((hrd.drewN _).set_kind _).set_to rfl
   ·exact ((hu.drewN _).setCell (by simp) _).setCell (by simp) _
end Go.Proofs.YtmfkpllnmmfpiaaGreatDoor
