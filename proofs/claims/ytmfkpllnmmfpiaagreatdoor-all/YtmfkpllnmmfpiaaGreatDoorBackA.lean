/- Clash, Cut, Undo2, Undo3, Back -/
import Derived.Test.YtmfkpllnmmfpiaaGreatDoorSay2A
import Derived.Test.YtmfkpllnmmfpiaaGreatDoorLexA
import Derived.Laws.OwnMore
import Derived.Test.YtmfkpllnmmfpiaaGreatDoorGrowA
import Derived.Test.YtmfkpllnmmfpiaaGreatDoorTwinsA
import Derived.Test.YtmfkpllnmmfpiaaGreatDoorJoinLaw2A
import Derived.Deep.LoopGhost
import Derived.Laws.EntriesVeiled
set_option maxHeartbeats 16000000
set_option maxRecDepth 100000
namespace Go.Proofs.YtmfkpllnmmfpiaaGreatDoor
open Go.RowKit
def badOf (S:WS) (x:Nat × Nat × Nat):Bool:=x.1 == 1 && classAt S x.2.1 == classAt S x.2.2
def clashM (S:WS):Bool:=S.said.any (badOf S)
theorem flatSaid_get {l:List (Nat × Nat × Nat)} {i:Nat} {s:Nat × Nat × Nat} (h:l[i]?=some s):(flatSaid l)[i * 3]?=some (.int .i64 s.1)/\(flatSaid l)[i * 3+1]?=some (.int .i64 s.2.1)/\(flatSaid l)[i * 3+2]?=some (.int .i64 s.2.2):=by
 induction l generalizing i with
 | nil=>simp at h
 | cons d ds ih =>
  cases i with
  | zero=>simp at h; subst h; simp [flatSaid]
  | succ i =>
   have:=ih (i:=i) (by simpa using h)
   have e:(i+1) * 3=i * 3+1+1+1:=by omega
   rw [e]
   simpa [flatSaid] using this
theorem rowSaid_cells {w:World} {base e g len cap n:Nat} {l:List (Nat × Nat × Nat)} {s:Nat × Nat × Nat} {i:Nat} (h:w.ownsRow base e 3 (.slice (some ⟨g,0,none⟩) len cap) n (flatSaid l)) (hi:l[i]?=some s) :
  w.cell? ⟨g,i * 3,none⟩=some (.int .i64 s.1)/\w.cell? ⟨g,i * 3+1,none⟩=some (.int .i64 s.2.1)/\w.cell? ⟨g,i * 3+2,none⟩=some (.int .i64 s.2.2):=by
 obtain ⟨hl,hr⟩:=h
 rcases hr with ⟨hv,_⟩ | ⟨g',cap',cur,hv,_,hg,_,_,hcs,htk⟩
 ·cases hv
 ·cases hv
  have hc:=flatSaid_get hi
  have key:∀ j u,(flatSaid l)[j]?=some u->w.cell? ⟨g,j,none⟩=some u:=by
   intro j u hu
   rw [cell_of_row w g j cur e (0,0) hg]
   rw [<- htk,List.getElem?_take] at hu
   split at hu
   ·simpa using hu
   ·cases hu
  exact ⟨key _ _ hc.1,key _ _ hc.2.1,key _ _ hc.2.2⟩
theorem clash1_any (w:World) (wb bw:Nat) (H:Hd) (Z:Nat->Prop) (S:WS) (x:Nat × Nat × Nat) (h:WebAt w wb H Z S) (hw:w.cell? ⟨bw,0,none⟩=some (.pointer (some ⟨wb,0,none⟩))) (h1:x.2.1 < S.classes.length) (h2:x.2.2 < S.classes.length) :
  Calls Tryz.prog 81 #[.agg #[.int .i64 x.1,.int .i64 x.2.1,.int .i64 x.2.2],.pointer (some ⟨bw,0,none⟩)] w fun e w'=>e=.returned (.bool (badOf S x))/\Upd [] w w':=by
 obtain ⟨g,cap,hcl,_,_⟩:∃ g cap,H.classes=.slice (some ⟨g,0,none⟩) S.classes.length cap/\S.classes.length<=cap/\cap<=maxLen:=by
  rcases ownsRow_slice h.rc with ⟨_,h0⟩ | hh
  ·omega
  ·exact hh
 obtain ⟨W1,hW1⟩:∃ W1,W1=w.alloc (.cells #[.int .i64 x.1,.int .i64 x.2.1,.int .i64 x.2.2] 134):=⟨_,rfl⟩
 have U1:Upd [] w W1:=hW1 ▸ (Upd.refl [] w).alloc _
 have b0:W1.cell? ⟨w.heap.size,0,none⟩=some (.int .i64 x.1):=by rw [hW1]; go_simp
 have b1:W1.cell? ⟨w.heap.size,1,none⟩=some (.int .i64 x.2.1):=by rw [hW1]; go_simp
 have b2:W1.cell? ⟨w.heap.size,2,none⟩=some (.int .i64 x.2.2):=by rw [hW1]; go_simp
 have hw1:=(U1.cell (p:=⟨bw,0,none⟩) (World.block_lt_of_cell? _ _ hw) (by simp)).trans hw
 have hweb:=h.later U1 (fun _ _=>by simp)
 have c3:=hweb.c3
 rw [hcl] at c3
 have hrc:=hweb.rc
 rw [hcl] at hrc
 have k1:W1.cell? ⟨g,x.2.1,none⟩=some (.int .i64 (classAt S x.2.1)):=row1_cell hrc h1
 have k2:W1.cell? ⟨g,x.2.2,none⟩=some (.int .i64 (classAt S x.2.2)):=row1_cell hrc h2
 have h1':(x.2.1:Int) < (S.classes.length:Int):=by omega
 have h2':(x.2.2:Int) < (S.classes.length:Int):=by omega
 have HU:=hide U1
 clear hcl hrc hweb h hw U1
 by_cases hx:x.1=1
 ·have hg:((x.1:Int) == 1)=true:=by simp; omega
  have HB:Hid (badOf S x=((classAt S x.2.1:Int) == (classAt S x.2.2:Int))):=by
   show _=_
   unfold badOf
   rw [hx]
   by_cases e:classAt S x.2.1=classAt S x.2.2
   ·simp [e]
   ·have e':¬ ((classAt S x.2.1:Int)=(classAt S x.2.2:Int)):=by omega
    have e1:(classAt S x.2.1 == classAt S x.2.2)=false:=by simpa using e
    have e2:((classAt S x.2.1:Int) == (classAt S x.2.2:Int))=false:=by simpa using e'
    rw [e1,e2]; rfl
  clear hx
  go_enter Tryz.func81,Tryz.ntmps81
  go_wp2
  rw [<- hW1]
  clear hW1
  go_quiet (fail)
  go_wp2
  go_ret
  exact ⟨by rw [HB.out]; rfl,HU.out.drewN _⟩
 ·have hg:((x.1:Int) == 1)=false:=by simp; omega
  have HB:Hid (badOf S x=false):=by
   show _=_
   unfold badOf
   have e1:(x.1 == 1)=false:=by simpa using hx
   rw [e1]; rfl
  clear hx
  go_enter Tryz.func81,Tryz.ntmps81
  go_wp2
  rw [<- hW1]
  clear hW1
  go_quiet (fail)
  go_wp2
  go_ret
  exact ⟨by rw [HB.out]; rfl,HU.out.drewN _⟩
theorem said_slice {w:World} {wb:Nat} {H:Hd} {Z:Nat->Prop} {S:WS} (h:WebAt w wb H Z S):∃ g cap,H.said=.slice g S.said.length cap/\S.said.length<=cap/\cap<=maxLen/\(0 < S.said.length->∃ b,g=some ⟨b,0,none⟩):=by
 rcases ownsRow_slice h.rd with ⟨h1,h2⟩ | ⟨g,cap,h1,h2,h3⟩
 ·exact ⟨none,0,by rw [h1,h2],by omega,by simp [maxLen],fun e=>by omega⟩
 ·exact ⟨_,cap,h1,h2,h3,fun _=>⟨g,rfl⟩⟩
theorem index_any (w:World) (wb bw:Nat) (H:Hd) (Z:Nat->Prop) (S:WS) (h:WebAt w wb H Z S) (hw:w.cell? ⟨bw,0,none⟩=some (.pointer (some ⟨wb,0,none⟩))) (hin:∀ x ∈ S.said,x.2.1 < S.classes.length/\x.2.2 < S.classes.length) (hsd:S.said.length<=1000000) :
  Calls Tryz.prog 114 #[H.said,.func (.func 81) #[] #[.pointer (some ⟨bw,0,none⟩)]] w fun e w'=>∃ r:Int,e=.returned (.int .i64 r)/\decide (0<=r)=clashM S/\Upd [] w w':=by
 obtain ⟨g,cap,hd,hcap,hcm,hg⟩:=said_slice h
 rw [hd]
 unfold maxLen at hcm
 have hbl:bw < w.heap.size:=World.block_lt_of_cell? _ _ hw
 have HC:=hide (fun (wr:World) (hu:Upd [] w wr) (x:Nat × Nat × Nat) (hx:x ∈ S.said)=>clash1_any wr wb bw H Z S x (h.later hu (fun _ _=>by simp)) ((hu.cell (p:=⟨bw,0,none⟩) hbl (by simp)).trans hw) (hin x hx).1 (hin x hx).2)
 have HR:=hide h.rd
 have HD:=hide hd
 have HG:=hide hg
 have Hs0:=hide (Upd.refl [] w)
 clear h hd hg hw hin
 go_enter Tryz.func114,Tryz.ntmps114
 go_wp2
 go_loopw [8] (fun i wr=>∃ j:Nat,j<=S.said.length/\i=.int .i64 j/\Hid ((∀ k,k < j->∀ x,S.said[k]?=some x->badOf S x=false)/\Upd [] w wr)) (fun i _=>S.said.length - (intOf i).toNat)
 case atStart=>exact ⟨0,Nat.zero_le _,rfl,fun k hk=>by omega,Hs0.out⟩
 case round =>
  obtain ⟨j,hj,rfl,HJ⟩:=hrel
  by_cases hjl:j < S.said.length
  ·have hjl':(j:Int) < (S.said.length:Int):=by omega
   obtain ⟨b,rfl⟩:=HG.out (by omega)
   have hget:=List.getElem?_eq_getElem hjl
   have hmem:=List.getElem_mem hjl
   have hrd:=HR.out
   rw [HD.out] at hrd
   obtain ⟨k0,k1,k2⟩:=rowSaid_cells hrd hget
   have hbw:b < w.heap.size:=ownsRow_lt hrd rfl
   have m0:=(HJ.out.2.cell (p:=⟨b,j * 3,none⟩) hbw (by simp)).trans k0
   have m1:=(HJ.out.2.cell (p:=⟨b,j * 3+1,none⟩) hbw (by simp)).trans k1
   have m2:=(HJ.out.2.cell (p:=⟨b,j * 3+2,none⟩) hbw (by simp)).trans k2
   have HC2:=hide (HC.out wr HJ.out.2 _ hmem)
   have Hget:=hide hget
   have Hmem:=hide hmem
   generalize S.said[j]=x at *
   clear hrd k0 k1 k2 hget hmem HC
   cases hbx:badOf S x with
   | true =>
    have Hbx:=hide hbx
    rw [hbx] at HC2
    clear hbx
    go_wp2_with (go_at_call 81; refine HC2.out.mono ?_; rintro e w2 ⟨rfl,hu2⟩; have Hu2:=hide hu2; clear hu2)
    go_ret
    refine ⟨j,rfl,?_,HJ.out.2.trans Hu2.out⟩
    have:clashM S=true:=List.any_eq_true.2 ⟨x,Hmem.out,Hbx.out⟩
    rw [this]
    simp
   | false =>
    have Hbx:=hide hbx
    rw [hbx] at HC2
    clear hbx
    go_wp2_with (go_at_call 81; refine HC2.out.mono ?_; rintro e w2 ⟨rfl,hu2⟩; have Hu2:=hide hu2; clear hu2)
    refine ⟨⟨j+1,by omega,by go_num,fun k hk y hy=>?_,HJ.out.2.trans Hu2.out⟩,by simp [intOf]; omega⟩
    by_cases e:k=j
    ·subst e
     have:=Hget.out
     rw [this] at hy
     cases hy
     exact Hbx.out
    ·exact HJ.out.1 k (by omega) y hy
  ·obtain rfl:j=S.said.length:=by omega
   have hge:¬ (S.said.length:Int) < (S.said.length:Int):=by omega
   go_wp2
   go_ret
   refine ⟨-1,rfl,?_,HJ.out.2⟩
   have:clashM S=false:=by
    unfold clashM
    rw [List.any_eq_false]
    intro x hx
    obtain ⟨i,hi,rfl⟩:=List.getElem_of_mem hx
    rw [HJ.out.1 i hi _ (List.getElem?_eq_getElem hi)]
    simp
   rw [this]
   rfl
theorem contains_any (w:World) (wb bw:Nat) (H:Hd) (Z:Nat->Prop) (S:WS) (h:WebAt w wb H Z S) (hw:w.cell? ⟨bw,0,none⟩=some (.pointer (some ⟨wb,0,none⟩))) (hin:∀ x ∈ S.said,x.2.1 < S.classes.length/\x.2.2 < S.classes.length) (hsd:S.said.length<=1000000) :
  Calls Tryz.prog 80 #[H.said,.func (.func 81) #[] #[.pointer (some ⟨bw,0,none⟩)]] w fun e w'=>e=.returned (.bool (clashM S))/\Upd [] w w':=by
 have HC:=hide (index_any w wb bw H Z S h hw hin hsd)
 clear h hw hin
 go_enter Tryz.func80,Tryz.ntmps80
 go_wp2_with (go_at_call 114; refine HC.out.mono ?_; rintro e w2 ⟨r,rfl,hr,hu⟩; have Hr:=hide hr; have Hu:=hide hu; clear hr hu)
 go_ret
 exact ⟨by rw [<- Hr.out]; rfl,Hu.out⟩
theorem webClash_any (w:World) (wb:Nat) (H:Hd) (Z:Nat->Prop) (S:WS) (h:WebAt w wb H Z S) (hin:∀ x ∈ S.said,x.2.1 < S.classes.length/\x.2.2 < S.classes.length) (hsd:S.said.length<=1000000) :
  Calls Tryz.prog 45 #[.pointer (some ⟨wb,0,none⟩)] w fun e w'=>e=.returned (.bool (clashM S))/\Upd [] w w':=by
 have hmf:∀ (fn:Fn) (first cap:Array Value) (w:World),(Instr.makeFunc fn first cap).run Tryz.prog w=.ok (.func fn first cap) w:=fun _ _ _ _=>rfl
 obtain ⟨W1,hW1⟩:∃ W1,W1=w.alloc (.cells #[.pointer (some ⟨wb,0,none⟩)] 27):=⟨_,rfl⟩
 have U1:Upd [] w W1:=hW1 ▸ (Upd.refl [] w).alloc _
 have b0:W1.cell? ⟨w.heap.size,0,none⟩=some (.pointer (some ⟨wb,0,none⟩)):=by rw [hW1]; go_simp
 have hweb:=h.later U1 (fun _ _=>by simp)
 have c5:=hweb.c5
 obtain ⟨g0,cap0,hd0,_⟩:=said_slice h
 have HD:∃ g cap,H.said=.slice g S.said.length cap:=⟨g0,cap0,hd0⟩
 clear hd0
 have HC:=hide (contains_any W1 wb w.heap.size H Z S hweb b0 hin hsd)
 have HU:=hide U1
 clear h hin hweb U1
 obtain ⟨g,cap,hd⟩:∃ g cap,H.said=.slice g S.said.length cap:=HD
 rw [hd] at c5 HC
 clear hd
 subst hW1
 go_enter Tryz.func45,Tryz.ntmps45
 go_wp2_with (go_at_call 80; refine HC.out.mono ?_; rintro e w2 ⟨rfl,hu⟩; have Hu:=hide hu; clear hu)
 go_ret
 exact ⟨rfl,HU.out.trans Hu.out⟩
theorem ownsRow_cut {w:World} {base e size g cap n m:Nat} {xs:List Value} (h:w.ownsRow base e size (.slice (some ⟨g,0,none⟩) n cap) n xs) (hm:m<=n):w.ownsRow base e size (.slice (some ⟨g,0,none⟩) m cap) m (xs.take (m * size)):=by
 obtain ⟨hl,h2⟩:=h
 rcases h2 with ⟨h0,_⟩ | ⟨g',cap',cur,hv,hg,hh,hn,hcap,hsz,htake⟩
 ·cases h0
 ·cases hv
  refine ⟨?_,.inr ⟨g,cap,cur,rfl,hg,hh,by omega,hcap,hsz,?_⟩⟩
  ·rw [List.length_take,hl]
   exact Nat.min_eq_left (Nat.mul_le_mul_right _ hm)
  ·rw [<- htake,List.take_take,Nat.min_eq_left (Nat.mul_le_mul_right _ hm)]
theorem flatSaid_take:∀ (l:List (Nat × Nat × Nat)) (m:Nat),flatSaid (l.take m)=(flatSaid l).take (m * 3)
 | [],m=>by simp [flatSaid]
 | _ :: _,0=>by simp [flatSaid]
 | s :: l,m+1=>by
  rw [List.take_succ_cons,flatSaid,flatSaid,flatSaid_take l m,show (m+1) * 3=m * 3+1+1+1 by omega]
  simp
theorem flatSh_take:∀ (l:List Sh) (m:Nat),flatSh (l.take m)=(flatSh l).take (m * 5)
 | [],m=>by simp [flatSh]
 | _ :: _,0=>by simp [flatSh]
 | s :: l,m+1=>by
  rw [List.take_succ_cons,flatSh,flatSh,flatSh_take l m,show (m+1) * 5=m * 5+1+1+1+1+1 by omega]
  simp
theorem intsOf_take (l:List Nat) (m:Nat):intsOf (l.take m)=(intsOf l).take (m * 1):=by simp [intsOf,List.map_take]
theorem WebAt.rehead {w w':World} {wb:Nat} {H H':Hd} {Z:Nat->Prop} {S S':WS} (h:WebAt w wb H Z S) (U:Upd [wb] w w') (hfree:∀ o,w'.frozen? ⟨wb,o,none⟩=false)
  (hH:H'.blocks wb=H.blocks wb) (hnb:H'.nb=H.nb) (hab:H'.ab=H.ab)
  (c0:w'.cell? ⟨wb,0,none⟩=some H'.backs) (c1:w'.cell? ⟨wb,2,none⟩=some H'.shapes) (c2:w'.cell? ⟨wb,3,none⟩=w.cell? ⟨wb,3,none⟩) (c3:w'.cell? ⟨wb,4,none⟩=some H'.classes) (c4:w'.cell? ⟨wb,5,none⟩=w.cell? ⟨wb,5,none⟩) (c5:w'.cell? ⟨wb,6,none⟩=some H'.said) (cm:w'.cell? ⟨wb,1,none⟩=some H'.marks)
  (rs:w.ownsRow 0 141 5 H'.shapes S'.shapes.length (flatSh S'.shapes)) (rc:w.ownsRow 0 3 1 H'.classes S'.classes.length (intsOf S'.classes)) (rd:w.ownsRow 0 134 3 H'.said S'.said.length (flatSaid S'.said)) (rm:w.ownsRow 0 3 1 H'.marks S'.marks.length (intsOf S'.marks))
  (rb:∃ cls:List Value,w.ownsRow 0 1 1 H'.backs S'.trail.length cls/\AllIs (IsUn w wb (fun k=>Z k/\k ∉ H.blocks wb)) cls S'.trail)
  (hn:S'.numbers=S.numbers) (hns:S'.nums=S.nums) (ha:S'.alike=S.alike) (has:S'.files=S.files):WebAt w' wb H' Z S':=by
 have hap:(H'.blocks wb).Nodup:=by rw [hH]; exact h.apart
 have hA:=Hd.parts hap
 obtain ⟨cls,hrow,hall⟩:=rb
 exact {
  lt:=Nat.lt_of_lt_of_le h.lt U.size
  free:=hfree
  c0:=c0
  c1:=c1
  c2:=by rw [hnb]; exact c2.trans h.c2
  c3:=c3
  c4:=by rw [hab]; exact c4.trans h.c4
  c5:=c5
  cm:=cm
  rs:=U.ownsRow rs fun k hk hm=>by simp at hm; exact (hA.s k hk).1 hm
  rc:=U.ownsRow rc fun k hk hm=>by simp at hm; exact (hA.c k hk).1 hm
  rd:=U.ownsRow rd fun k hk hm=>by simp at hm; exact (hA.d k hk).1 hm
  rm:=U.ownsRow rm fun k hk hm=>by simp at hm; exact (hA.m k hk).1 hm
  mn:=by rw [hnb,hn,hns]; exact h.mn.later U (by simp; rw [<- hnb]; exact fun e=>hA.wn e.symm)
  ma:=by rw [hab,ha,has]; exact h.ma.later U (by simp; rw [<- hab]; exact fun e=>hA.wa e.symm)
  apart:=hap
  rb:=⟨cls,U.ownsRow hrow (fun k hk hm=>by simp at hm; exact (hA.b k hk).1 hm),by
   rw [hH]
   exact hall.mono fun _ _ hi=>hi.later U fun k hk hm=>hk.2 (by simp at hm; subst hm; exact H.mem_wb _)⟩
  inZ:=by rw [hH]; exact h.inZ }
theorem blocks_said {wb g n c:Nat} {H:Hd} (h:H.said.ownBlock=some g):({ H with said:=.slice (some ⟨g,0,none⟩) n c }:Hd).blocks wb=H.blocks wb:=by simp [Hd.blocks,h,own_slice]
theorem blocks_shapes {wb g n c:Nat} {H:Hd} (h:H.shapes.ownBlock=some g):({ H with shapes:=.slice (some ⟨g,0,none⟩) n c }:Hd).blocks wb=H.blocks wb:=by simp [Hd.blocks,h,own_slice]
theorem blocks_classes {wb g n c:Nat} {H:Hd} (h:H.classes.ownBlock=some g):({ H with classes:=.slice (some ⟨g,0,none⟩) n c }:Hd).blocks wb=H.blocks wb:=by simp [Hd.blocks,h,own_slice]
theorem blocks_backs {wb g n c:Nat} {H:Hd} (h:H.backs.ownBlock=some g):({ H with backs:=.slice (some ⟨g,0,none⟩) n c }:Hd).blocks wb=H.blocks wb:=by simp [Hd.blocks,h,own_slice]
theorem blocks_marks {wb g n c:Nat} {H:Hd} (h:H.marks.ownBlock=some g):({ H with marks:=.slice (some ⟨g,0,none⟩) n c }:Hd).blocks wb=H.blocks wb:=by simp [Hd.blocks,h,own_slice]
theorem WebAt.cut_said {w:World} {wb g cap m:Nat} {H:Hd} {Z:Nat->Prop} {S:WS} (h:WebAt w wb H Z S) (hd:H.said=.slice (some ⟨g,0,none⟩) S.said.length cap) (hm:m<=S.said.length) :
  WebAt (w.setCell ⟨wb,6,none⟩ (.slice (some ⟨g,0,none⟩) m cap)) wb { H with said:=.slice (some ⟨g,0,none⟩) m cap } Z { S with said:=S.said.take m }:=by
 have hrd:=h.rd
 rw [hd] at hrd
 have hlt:=h.lt
 have c0:=h.c0
 have c1:=h.c1
 have c2:=h.c2
 have c3:=h.c3
 have c4:=h.c4
 have c5:=h.c5
 have cm:=h.cm
 refine h.rehead ((Upd.refl [wb] w).setCell (p:=⟨wb,6,none⟩) (by simp) _) (fun o=>by rw [World.frozen?_setCell]; exact h.free o) (blocks_said (by rw [hd]; rfl)) rfl rfl (by go_simp) (by go_simp) (by go_simp) (by go_simp) (by go_simp) (by go_simp) (by go_simp) h.rs h.rc ?_ h.rm h.rb rfl rfl rfl rfl
 have:=ownsRow_cut hrd hm
 simpa [flatSaid_take,Nat.min_eq_left hm] using this
theorem WebAt.cut_shapes {w:World} {wb g cap m:Nat} {H:Hd} {Z:Nat->Prop} {S:WS} (h:WebAt w wb H Z S) (hd:H.shapes=.slice (some ⟨g,0,none⟩) S.shapes.length cap) (hm:m<=S.shapes.length) :
  WebAt (w.setCell ⟨wb,2,none⟩ (.slice (some ⟨g,0,none⟩) m cap)) wb { H with shapes:=.slice (some ⟨g,0,none⟩) m cap } Z { S with shapes:=S.shapes.take m }:=by
 have hrd:=h.rs
 rw [hd] at hrd
 have hlt:=h.lt
 have c0:=h.c0
 have c1:=h.c1
 have c2:=h.c2
 have c3:=h.c3
 have c4:=h.c4
 have c5:=h.c5
 have cm:=h.cm
 refine h.rehead ((Upd.refl [wb] w).setCell (p:=⟨wb,2,none⟩) (by simp) _) (fun o=>by rw [World.frozen?_setCell]; exact h.free o) (blocks_shapes (by rw [hd]; rfl)) rfl rfl (by go_simp) (by go_simp) (by go_simp) (by go_simp) (by go_simp) (by go_simp) (by go_simp) ?_ h.rc h.rd h.rm h.rb rfl rfl rfl rfl
 have:=ownsRow_cut hrd hm
 simpa [flatSh_take,Nat.min_eq_left hm] using this
theorem WebAt.cut_classes {w:World} {wb g cap m:Nat} {H:Hd} {Z:Nat->Prop} {S:WS} (h:WebAt w wb H Z S) (hd:H.classes=.slice (some ⟨g,0,none⟩) S.classes.length cap) (hm:m<=S.classes.length) :
  WebAt (w.setCell ⟨wb,4,none⟩ (.slice (some ⟨g,0,none⟩) m cap)) wb { H with classes:=.slice (some ⟨g,0,none⟩) m cap } Z { S with classes:=S.classes.take m }:=by
 have hrd:=h.rc
 rw [hd] at hrd
 have hlt:=h.lt
 have c0:=h.c0
 have c1:=h.c1
 have c2:=h.c2
 have c3:=h.c3
 have c4:=h.c4
 have c5:=h.c5
 have cm:=h.cm
 refine h.rehead ((Upd.refl [wb] w).setCell (p:=⟨wb,4,none⟩) (by simp) _) (fun o=>by rw [World.frozen?_setCell]; exact h.free o) (blocks_classes (by rw [hd]; rfl)) rfl rfl (by go_simp) (by go_simp) (by go_simp) (by go_simp) (by go_simp) (by go_simp) (by go_simp) h.rs ?_ h.rd h.rm h.rb rfl rfl rfl rfl
 have:=ownsRow_cut hrd hm
 rw [intsOf_take]
 simpa [Nat.min_eq_left hm] using this
theorem WebAt.cut_marks {w:World} {wb g cap m:Nat} {H:Hd} {Z:Nat->Prop} {S:WS} (h:WebAt w wb H Z S) (hd:H.marks=.slice (some ⟨g,0,none⟩) S.marks.length cap) (hm:m<=S.marks.length) :
  WebAt (w.setCell ⟨wb,1,none⟩ (.slice (some ⟨g,0,none⟩) m cap)) wb { H with marks:=.slice (some ⟨g,0,none⟩) m cap } Z { S with marks:=S.marks.take m }:=by
 have hrd:=h.rm
 rw [hd] at hrd
 have hlt:=h.lt
 have c0:=h.c0
 have c1:=h.c1
 have c2:=h.c2
 have c3:=h.c3
 have c4:=h.c4
 have c5:=h.c5
 have cm:=h.cm
 refine h.rehead ((Upd.refl [wb] w).setCell (p:=⟨wb,1,none⟩) (by simp) _) (fun o=>by rw [World.frozen?_setCell]; exact h.free o) (blocks_marks (by rw [hd]; rfl)) rfl rfl (by go_simp) (by go_simp) (by go_simp) (by go_simp) (by go_simp) (by go_simp) (by go_simp) h.rs h.rc h.rd ?_ h.rb rfl rfl rfl rfl
 have:=ownsRow_cut hrd hm
 rw [intsOf_take]
 simpa [Nat.min_eq_left hm] using this
theorem AllIs.unsnoc {α β:Type} {R:α->β->Prop} {ys:List β} {b:β}:∀ {xs:List α},AllIs R xs (ys++[b])->∃ ls a,xs=ls++[a]/\AllIs R ls ys/\R a b:=by
 induction ys with
 | nil =>
  intro xs h
  match xs,h with
  | [a],h=>exact ⟨[],a,rfl,trivial,h.1⟩
  | [],h=>exact h.elim
  | _ :: _ :: _,h=>exact h.2.elim
 | cons y ys ih =>
  intro xs h
  match xs,h with
  | x :: xs,h =>
   obtain ⟨ls,a,rfl,h2,h3⟩:=ih h.2
   exact ⟨x :: ls,a,rfl,⟨h.1,h2⟩,h3⟩
  | [],h=>exact h.elim
theorem WebAt.pop {w:World} {wb g cap:Nat} {H:Hd} {Z:Nat->Prop} {S:WS} {us:List Un} {u:Un} {z:Value} (h:WebAt w wb H Z S) (ht:S.trail=us++[u]) (hd:H.backs=.slice (some ⟨g,0,none⟩) (us.length+1) cap) :
  WebAt ((w.setCell ⟨g,us.length,none⟩ z).setCell ⟨wb,0,none⟩ (.slice (some ⟨g,0,none⟩) us.length cap)) wb { H with backs:=.slice (some ⟨g,0,none⟩) us.length cap } Z { S with trail:=us } /\
   ∃ v,w.cell? ⟨g,us.length,none⟩=some v/\IsUn ((w.setCell ⟨g,us.length,none⟩ z).setCell ⟨wb,0,none⟩ (.slice (some ⟨g,0,none⟩) us.length cap)) wb (fun k=>Z k/\k ∉ H.blocks wb) v u/\w.frozen? ⟨g,us.length,none⟩=false:=by
 obtain ⟨cls,hrow,hall⟩:=h.rb
 rw [ht] at hall
 obtain ⟨cs,v,rfl,hall',hv⟩:=hall.unsnoc
 rw [hd,ht] at hrow
 simp only [List.length_append,List.length_singleton] at hrow
 have hcl:=hall'.length
 have hg:H.backs.ownBlock=some g:=by rw [hd]; rfl
 have hA:=Hd.parts h.apart
 have hgw:=(hA.b g hg).1
 have hlt:=h.lt
 have U1:=(Upd.refl [g] w).setCell (p:=⟨g,us.length,none⟩) (by simp) z
 have hwg:wb ∉ [g]:=by simp; exact fun e=>hgw e.symm
 have c0:=(U1.cell (p:=⟨wb,0,none⟩) h.lt hwg).trans h.c0
 have c1:=(U1.cell (p:=⟨wb,2,none⟩) h.lt hwg).trans h.c1
 have c2:=(U1.cell (p:=⟨wb,3,none⟩) h.lt hwg).trans h.c2
 have c3:=(U1.cell (p:=⟨wb,4,none⟩) h.lt hwg).trans h.c3
 have c4:=(U1.cell (p:=⟨wb,5,none⟩) h.lt hwg).trans h.c4
 have c5:=(U1.cell (p:=⟨wb,6,none⟩) h.lt hwg).trans h.c5
 have cm:=(U1.cell (p:=⟨wb,1,none⟩) h.lt hwg).trans h.cm
 have U2:=(U1.mono (L':=[g,wb]) (fun x hx _=>by simp at hx ⊢; exact .inl hx)).setCell (p:=⟨wb,0,none⟩) (by simp) (.slice (some ⟨g,0,none⟩) us.length cap)
 have hB:∀ k,k ∈ [g,wb]->k ∈ H.blocks wb:=fun k hk=>by
  simp at hk
  rcases hk with rfl | rfl
  ·exact Hd.mem_backs hg
  ·exact H.mem_wb _
 have hFn:∀ k,Z k/\k ∉ H.blocks wb->k ∉ [g,wb]:=fun k hk hm=>hk.2 (hB k hm)
 have hrow':w.ownsRow 0 1 1 (.slice (some ⟨g,0,none⟩) us.length cap) us.length cs:=by
  have:=ownsRow_cut (m:=us.length) hrow (by omega)
  rw [Nat.mul_one,<- hcl,List.take_left] at this
  rw [<- hcl]; exact this
 have hrow2:(w.setCell ⟨g,us.length,none⟩ z).ownsRow 0 1 1 (.slice (some ⟨g,0,none⟩) us.length cap) us.length cs:=by
  have h1:=(hrow.stored us.length z).1
  have:=ownsRow_cut (m:=us.length) h1 (by omega)
  rw [Nat.mul_one,<- hcl,List.take_set_of_le (Nat.le_refl _),List.take_left] at this
  rw [<- hcl]; exact this
 have hH:({ H with backs:=.slice (some ⟨g,0,none⟩) us.length cap }:Hd).blocks wb=H.blocks wb:=blocks_backs hg
 refine ⟨?_,v,?_,hv.later U2 hFn,hrow.frozenAt _⟩
 ·have hap:(({ H with backs:=.slice (some ⟨g,0,none⟩) us.length cap }:Hd).blocks wb).Nodup:=by rw [hH]; exact h.apart
  have hno:∀ k,k ∈ H.blocks wb->k ≠ g->k ≠ wb->k ∉ [g,wb]:=fun k _ h1 h2 hm=>by simp at hm; rcases hm with hm | hm; exact h1 hm; exact h2 hm
  exact {
   lt:=Nat.lt_of_lt_of_le h.lt U2.size
   free:=fun o=>by rw [World.frozen?_setCell]; exact (U1.frozen (p:=⟨wb,o,none⟩) h.lt hwg).trans (h.free o)
   c0:=by go_simp
   c1:=by go_simp
   c2:=by go_simp
   c3:=by go_simp
   c4:=by go_simp
   c5:=by go_simp
   cm:=by go_simp
   rs:=U2.ownsRow h.rs fun k hk=>hno k (Hd.mem_shapes hk) (fun e=>(hA.s k hk).2.2.2.1 (e ▸ hg)) (hA.s k hk).1
   rc:=U2.ownsRow h.rc fun k hk=>hno k (Hd.mem_classes hk) (fun e=>(hA.c k hk).2.2.2.1 (e ▸ hg)) (hA.c k hk).1
   rd:=U2.ownsRow h.rd fun k hk=>hno k (Hd.mem_said hk) (fun e=>(hA.d k hk).2.2.2.1 (e ▸ hg)) (hA.d k hk).1
   rm:=U2.ownsRow h.rm fun k hk=>hno k (Hd.mem_marks hk) (fun e=>(hA.m k hk).2.2.2.1 (e ▸ hg)) (hA.m k hk).1
   mn:=h.mn.later U2 (hno _ (H.mem_nb wb) (fun e=>(hA.b g hg).2.1 e.symm) (fun e=>hA.wn e.symm))
   ma:=h.ma.later U2 (hno _ (H.mem_ab wb) (fun e=>(hA.b g hg).2.2.1 e.symm) (fun e=>hA.wa e.symm))
   apart:=hap
   rb:=⟨cs,((Upd.refl [wb] (w.setCell ⟨g,us.length,none⟩ z)).setCell (p:=⟨wb,0,none⟩) (by simp) _).ownsRow hrow2 (fun k hk hm=>by simp [own_slice] at hk hm; omega),by
    rw [hH]
    exact hall'.mono fun _ _ hi=>hi.later U2 hFn⟩
   inZ:=by rw [hH]; exact h.inZ }
 ·have:=hrow.cellAt us.length (by omega)
  rw [this,<- hcl]
  simp
theorem note1_any (w:World) (wb bw:Nat) (H:Hd) (Z:Nat->Prop) (S:WS) (h:WebAt w wb H Z S) (hw:w.cell? ⟨bw,0,none⟩=some (.pointer (some ⟨wb,0,none⟩))) (hpos:0 < S.said.length) :
  Calls Tryz.prog 154 #[.pointer (some ⟨bw,0,none⟩)] w fun e w'=>e=.returned (.tuple #[])/\∃ H',WebAt w' wb H' Z { S with said:=S.said.dropLast }/\Upd (H.blocks wb) w w'/\H'.blocks wb=H.blocks wb:=by
 obtain ⟨g,cap,hd,hcap,hmax⟩:∃ g cap,H.said=.slice (some ⟨g,0,none⟩) S.said.length cap/\S.said.length<=cap/\cap<=maxLen:=by
  rcases ownsRow_slice h.rd with ⟨_,h0⟩ | hh
  ·omega
  ·exact hh
 have c5:=h.c5
 rw [hd] at c5
 have hfr:=h.free
 unfold maxLen at hmax
 have hW:=h.cut_said (m:=S.said.length - 1) hd (by omega)
 rw [<- List.dropLast_eq_take] at hW
 have HU:Hid (Upd (H.blocks wb) w (w.setCell ⟨wb,6,none⟩ (.slice (some ⟨g,0,none⟩) (S.said.length - 1) cap)).drew):=((Upd.refl (H.blocks wb) w).setCell (p:=⟨wb,6,none⟩) (.inl (H.mem_wb wb)) _).drew
 have HW:Hid (WebAt (w.setCell ⟨wb,6,none⟩ (.slice (some ⟨g,0,none⟩) (S.said.length - 1) cap)).drew wb { H with said:=.slice (some ⟨g,0,none⟩) (S.said.length - 1) cap } Z { S with said:=S.said.dropLast }):=hW.later ((Upd.refl [] _).drew) (fun _ _=>by simp)
 have HB:Hid (({ H with said:=.slice (some ⟨g,0,none⟩) (S.said.length - 1) cap }:Hd).blocks wb=H.blocks wb):=blocks_said (by rw [hd]; rfl)
 obtain ⟨n,hn⟩:∃ n,S.said.length=n+1:=⟨S.said.length - 1,by omega⟩
 rw [hn] at c5 HU HW HB hcap
 simp only [Nat.add_sub_cancel] at HU HW HB
 clear hW hd hn hpos
 go_enter Tryz.func154,Tryz.ntmps154
 go_wp2
 go_region
 go_wp2
 go_end0
 exact ⟨rfl,_,HW.out,HU.out,HB.out⟩
theorem flatSh_set:∀ (l:List Sh) (i:Nat) (s:Sh),i < l.length->flatSh (l.set i s)=(((((flatSh l).set (i * 5) (.string s.1)).set (i * 5+1) (.int .i64 s.2.1)).set (i * 5+2) (.int .i64 s.2.2.1)).set (i * 5+3) (.int .i64 s.2.2.2.1)).set (i * 5+4) (.int .i64 s.2.2.2.2)
 | [],_,_,h=>by simp at h
 | t :: l,0,s,_=>by simp [flatSh]
 | t :: l,i+1,s,h=>by
  have:=flatSh_set l i s (by simpa using h)
  rw [List.set_cons_succ,flatSh,flatSh,this,show (i+1) * 5=i * 5+1+1+1+1+1 by omega]
  simp only [List.set_cons_succ,Nat.add_right_comm _ 1]
def put5 (w:World) (g o:Nat) (s:Sh):World:=((((w.setCell ⟨g,o,none⟩ (.string s.1)).setCell ⟨g,o+1,none⟩ (.int .i64 s.2.1)).setCell ⟨g,o+2,none⟩ (.int .i64 s.2.2.1)).setCell ⟨g,o+3,none⟩ (.int .i64 s.2.2.2.1)).setCell ⟨g,o+4,none⟩ (.int .i64 s.2.2.2.2)
theorem put5_upd (w:World) (g o:Nat) (s:Sh):Upd [g] w (put5 w g o s):=(((((Upd.refl [g] w).setCell (p:=⟨g,o,none⟩) (by simp) _).setCell (p:=⟨g,o+1,none⟩) (by simp) _).setCell (p:=⟨g,o+2,none⟩) (by simp) _).setCell (p:=⟨g,o+3,none⟩) (by simp) _).setCell (p:=⟨g,o+4,none⟩) (by simp) _
theorem WebAt.set_shape {w:World} {wb g cap i:Nat} {H:Hd} {Z:Nat->Prop} {S:WS} {s:Sh} (h:WebAt w wb H Z S) (hcl:H.shapes=.slice (some ⟨g,0,none⟩) S.shapes.length cap) (hi:i < S.shapes.length):WebAt (put5 w g (i * 5) s) wb H Z { S with shapes:=S.shapes.set i s }:=by
 have hA:=Hd.parts h.apart
 have hg:H.shapes.ownBlock=some g:=by rw [hcl]; rfl
 have hn:=hA.s g hg
 have U:=put5_upd w g (i * 5) s
 have hwb:wb ∉ [g]:=by simp; exact fun e=>hn.1 e.symm
 obtain ⟨cls,hrow,hall⟩:=h.rb
 exact {
  lt:=Nat.lt_of_lt_of_le h.lt U.size
  free:=fun o=>(U.frozen (p:=⟨wb,o,none⟩) h.lt hwb).trans (h.free o)
  c0:=(U.cell h.lt hwb).trans h.c0
  c1:=(U.cell h.lt hwb).trans h.c1
  c2:=(U.cell h.lt hwb).trans h.c2
  c3:=(U.cell h.lt hwb).trans h.c3
  c4:=(U.cell h.lt hwb).trans h.c4
  c5:=(U.cell h.lt hwb).trans h.c5
  cm:=(U.cell h.lt hwb).trans h.cm
  rs:=by
   have:=h.rs
   rw [hcl] at this ⊢
   have h5:=(((((this.stored (i * 5) (.string s.1)).1.stored (i * 5+1) (.int .i64 s.2.1)).1.stored (i * 5+2) (.int .i64 s.2.2.1)).1.stored (i * 5+3) (.int .i64 s.2.2.2.1)).1.stored (i * 5+4) (.int .i64 s.2.2.2.2)).1
   simp only [List.length_set,flatSh_set _ _ _ hi]
   exact h5
  rc:=U.ownsRow h.rc fun k hk hm=>by simp at hm; subst hm; exact hn.2.2.2.2.1 hk
  rd:=U.ownsRow h.rd fun k hk hm=>by simp at hm; subst hm; exact hn.2.2.2.2.2 hk
  rm:=U.ownsRow h.rm fun k hk hm=>by simp at hm; subst hm; exact (hA.m k hk).2.2.2.2.1 hg
  mn:=h.mn.later U (by simp; exact fun e=>hn.2.1 e.symm)
  ma:=h.ma.later U (by simp; exact fun e=>hn.2.2.1 e.symm)
  apart:=h.apart
  rb:=⟨cls,U.ownsRow hrow (fun k hk hm=>by simp at hm; subst hm; exact hn.2.2.2.1 hk),hall.mono fun _ _ hi=>hi.later U fun k hk hm=>hk.2 (by simp at hm; subst hm; exact Hd.mem_shapes hg)⟩
  inZ:=h.inZ }
theorem enter1_any (w:World) (wb bw bn bs:Nat) (H:Hd) (Z:Nat->Prop) (S:WS) (n:Nat) (s:Sh) (h:WebAt w wb H Z S) (hw:Box1 w bw (.pointer (some ⟨wb,0,none⟩))) (hn:Box1 w bn (.int .i64 n)) (hs:BoxSh w bs s) (hgs:GoodSh s) (hin:(S.numbers s).isSome=true) (hlt:n < S.shapes.length) (hlc:n < S.classes.length)
  (ow:bw ∉ H.blocks wb) (on:bn ∉ H.blocks wb) (os:bs ∉ H.blocks wb) :
  Calls Tryz.prog 158 #[.pointer (some ⟨bw,0,none⟩),.pointer (some ⟨bn,0,none⟩),.pointer (some ⟨bs,0,none⟩)] w fun e w'=>e=.returned (.tuple #[])/\∃ H',WebAt w' wb H' Z { S with shapes:=S.shapes.take n,classes:=S.classes.take n,numbers:=setF S.numbers s none,nums:=S.nums - 1 }/\Upd (H.blocks wb) w w'/\H'.blocks wb=H.blocks wb:=by
 obtain ⟨g,cap,hd,hcap,hmax⟩:∃ g cap,H.shapes=.slice (some ⟨g,0,none⟩) S.shapes.length cap/\S.shapes.length<=cap/\cap<=maxLen:=by
  rcases ownsRow_slice h.rs with ⟨_,h0⟩ | hh
  ·omega
  ·exact hh
 have hlt':(n:Int) < (S.shapes.length:Int):=by omega
 have c1:=h.c1
 rw [hd] at c1
 have hrs:=h.rs
 rw [hd] at hrs
 obtain ⟨e0,e1,e2,e3,e4⟩:=row5_cells hrs (List.getElem?_eq_getElem hlt)
 have hfr:=hrs.frozenAt
 have hw0:=hw.2
 have hn0:=hn.2
 have HX:Hid ((S.shapes.set n noSh).take n=S.shapes.take n):=List.take_set_of_le (Nat.le_refl n)
 have hgB:g ∈ H.blocks wb:=Hd.mem_shapes (by rw [hd]; rfl)
 have HS:=hide (h.set_shape (s:=noSh) hd hlt)
 have HU:=hide (put5_upd w g (n * 5) noSh)
 have Hlt:=hide hlc
 have Hd':=hide hd
 go_enter Tryz.func158,Tryz.ntmps158
 go_wp2
 go_region
 obtain ⟨W1,hW1⟩:∃ W1,W1=(put5 w g (n * 5) noSh).drew:=⟨_,rfl⟩
 have hW1':W1=(((((w.setCell ⟨g,n * 5,none⟩ (.string ⟨#[]⟩)).setCell ⟨g,n * 5+1,none⟩ (.int .i64 0)).setCell ⟨g,n * 5+2,none⟩ (.int .i64 0)).setCell ⟨g,n * 5+3,none⟩ (.int .i64 0)).setCell ⟨g,n * 5+4,none⟩ (.int .i64 0)).drew:=hW1
 rw [<- hW1']
 have h1:WebAt W1 wb H Z { S with shapes:=S.shapes.set n noSh }:=hW1 ▸ HS.out.later ((Upd.refl [] _).drew) (fun _ _=>by simp)
 have U1:Upd (H.blocks wb) w W1:=hW1 ▸ (HU.out.mono (fun x hx _=>by simp at hx; subst hx; exact hgB)).drew
 clear hW1 hW1' HS HU e0 e1 e2 e3 e4 hfr c1 hrs hw0 hn0 hd hlt hlc h
 have hw1:=hw.later U1 ow
 have hn1:=hn.later U1 on
 have hs1:=hs.later U1 os
 have hwc:=hw1.2
 have hnc:=hn1.2
 have c1:=h1.c1
 rw [Hd'.out] at c1
 have hfr:=h1.free
 have hd1:H.shapes=.slice (some ⟨g,0,none⟩) (S.shapes.set n noSh).length cap:=by rw [List.length_set]; exact Hd'.out
 have HS2:=hide (h1.cut_shapes (m:=n) hd1 (by simp; omega))
 have HB2:=hide (blocks_shapes (wb:=wb) (n:=n) (c:=cap) (H:=H) (g:=g) (by rw [Hd'.out]; rfl))
 clear hd1
 have hncap:(n:Int)<=(cap:Int):=by omega
 unfold maxLen at hmax
 go_wp2
 go_region
 obtain ⟨W2,hW2⟩:∃ W2,W2=(W1.setCell ⟨wb,2,none⟩ (.slice (some ⟨g,0,none⟩) n cap)).drew:=⟨_,rfl⟩
 rw [<- hW2]
 have h2:=HS2.out.later ((Upd.refl [] _).drew) (fun _ _=>by simp)
 rw [HX.out,<- hW2] at h2
 have U2:Upd (H.blocks wb) w W2:=hW2 ▸ (U1.setCell (p:=⟨wb,2,none⟩) (.inl (H.mem_wb wb)) _).drew
 clear hW2 HS2 c1 hfr hwc hnc hw1 hn1 hs1 h1 U1
 have HB:=HB2.out
 generalize hH2:({ H with shapes:=.slice (some ⟨g,0,none⟩) n cap }:Hd)=H2 at *
 have hcH:H2.classes=H.classes:=by rw [<- hH2]
 clear hH2 HB2
 obtain ⟨g3,cap3,hd3,hcap3,hmax3⟩:∃ g cap,H2.classes=.slice (some ⟨g,0,none⟩) S.classes.length cap/\S.classes.length<=cap/\cap<=maxLen:=by
  rcases ownsRow_slice h2.rc with ⟨_,h0⟩ | hh
  ·have:=Hlt.out; simp at h0; rw [h0] at this; simp at this
  ·exact hh
 have hw1:=hw.later U2 ow
 have hn1:=hn.later U2 on
 have hs1:=hs.later U2 os
 have hwc:=hw1.2
 have hnc:=hn1.2
 have c3:=h2.c3
 rw [hd3] at c3
 have hfr:=h2.free
 have HS3:=hide (h2.cut_classes (m:=n) hd3 (by have:=Hlt.out; simp; omega))
 have HB3:=hide (blocks_classes (wb:=wb) (n:=n) (c:=cap3) (H:=H2) (g:=g3) (by rw [hd3]; rfl))
 have hncap3:(n:Int)<=(cap3:Int):=by have:=Hlt.out; omega
 have hlc3:(n:Int)<=(S.classes.length:Int):=by have:=Hlt.out; omega
 unfold maxLen at hmax3
 clear hd3 hcH
 go_wp2
 go_region
 obtain ⟨W3,hW3⟩:∃ W3,W3=(W2.setCell ⟨wb,4,none⟩ (.slice (some ⟨g3,0,none⟩) n cap3)).drew:=⟨_,rfl⟩
 rw [<- hW3]
 have h3:=HS3.out.later ((Upd.refl [] _).drew) (fun _ _=>by simp)
 rw [<- hW3] at h3
 have U3:Upd (H.blocks wb) w W3:=hW3 ▸ (U2.setCell (p:=⟨wb,4,none⟩) (.inl (H.mem_wb wb)) _).drew
 clear hW3 HS3 c3 hfr hwc hnc hw1 hn1 hs1 h2 U2
 have HBf:=HB3.out.trans HB
 generalize hH3:({ H2 with classes:=.slice (some ⟨g3,0,none⟩) n cap3 }:Hd)=H3 at *
 clear hH3 HB3 HB
 have hw1:=hw.later U3 ow
 have hs1:=hs.later U3 os
 have hwc:=hw1.2
 obtain ⟨_,v1,v2,v3,v4,v5⟩:=hs1
 have c2:=h3.c2
 obtain ⟨wf,hrun0,hm,ht⟩:=(h3.mn.later ((Upd.refl [] W3).drew) (by simp)).del s hgs hin 0
 have hrun:(Builtin.delete_ #[108,141] 0 #[.map (some H3.nb),.agg #[.string s.1,.int .i64 s.2.1,.int .i64 s.2.2.1,.int .i64 s.2.2.2.1,.int .i64 s.2.2.2.2]]).run Tryz.prog W3.drew=.ok (.tuple #[]) wf:=hrun0
 have HW:=hide ((h3.later ((Upd.refl [] W3).drew) (fun _ _=>by simp)).set_numbers ht hm)
 have HU:Hid (Upd (H.blocks wb) w wf):=(U3.drew).trans' (mapTurned_upd ht) (fun x hx _=>by simp at hx; rw [hx,<- HBf]; exact H3.mem_nb wb)
 have HBF:=hide HBf
 clear hrun0 hm ht HBf h3 U3 hw hn hs
 go_wp2
 go_region
 go_wp2
 go_end0
 exact ⟨rfl,H3,HW.out,HU.out,HBF.out⟩
theorem un_any (w:World) (wb:Nat) (H:Hd) (Z:Nat->Prop) (R:WS) (v:Value) (u:Un) (h:WebAt w wb H Z R) (hv:IsUn w wb (fun k=>Z k/\k ∉ H.blocks wb) v u) (ho:okUn R u) :
  ∃ f caps,(f=154\/f=158\/f=178\/f=177)/\v=.func (.func f) #[] caps/\Calls Tryz.prog f caps w fun e w'=>e=.returned (.tuple #[])/\∃ H',WebAt w' wb H' Z (undo1 R u)/\Upd (H.blocks wb) w w'/\H'.blocks wb=H.blocks wb:=by
 obtain ⟨bw,hF,hb,hr⟩:=hv
 rcases hr with ⟨ht,hv⟩ | ⟨ht,bn,bs,f1,f2,h1,h2,hv⟩ | ⟨ht,bs,f1,h1,hv⟩ | ⟨ht,bf,bn,f1,f2,h1,h2,hv⟩
 ·refine ⟨_,_,.inl rfl,hv,?_⟩
  have hp:0 < R.said.length:=by
   rcases ho with ⟨_,hp⟩ | ⟨e,_⟩ | ⟨e,_⟩ | ⟨e,_⟩
   ·exact hp
   ·omega
   ·omega
   ·omega
  have e:undo1 R u={ R with said:=R.said.dropLast }:=by unfold undo1; rw [if_pos ht]
  rw [e]
  exact note1_any w wb bw H Z R h hb.2 hp
 ·refine ⟨_,_,.inr (.inl rfl),hv,?_⟩
  obtain ⟨o1,o2,_,o4,o5⟩:u.a < R.shapes.length/\u.a < R.classes.length/\R.shapes.length<=1000000/\GoodSh u.sh/\(R.numbers u.sh).isSome=true:=by
   rcases ho with ⟨e,_⟩ | ⟨_,hp⟩ | ⟨e,_⟩ | ⟨e,_⟩
   ·omega
   ·exact hp
   ·omega
   ·omega
  have e:undo1 R u={ R with shapes:=R.shapes.take u.a,classes:=R.classes.take u.a,numbers:=setF R.numbers u.sh none,nums:=R.nums - 1 }:=by unfold undo1; rw [if_neg (by omega),if_pos ht]
  rw [e]
  exact enter1_any w wb bw bn bs H Z R u.a u.sh h hb h1 h2 o4 o5 o1 o2 hF.2 f1.2 f2.2
 ·refine ⟨_,_,.inr (.inr (.inl rfl)),hv,?_⟩
  obtain ⟨o1,o2⟩:GoodSh u.sh/\(R.alike u.sh).isSome=true:=by
   rcases ho with ⟨e,_⟩ | ⟨e,_⟩ | ⟨_,hp⟩ | ⟨e,_⟩
   ·omega
   ·omega
   ·exact hp
   ·omega
  have e:undo1 R u={ R with alike:=setF R.alike u.sh none,files:=R.files - 1 }:=by unfold undo1; rw [if_neg (by omega),if_neg (by omega),if_pos ht]
  rw [e]
  exact (file1_any w wb bw bs H Z R u.sh h hb.2 h1 o1 o2).mono fun e w' hw=>⟨hw.1,H,hw.2.1,hw.2.2,rfl⟩
 ·refine ⟨_,_,.inr (.inr (.inr rfl)),hv,?_⟩
  have o1:u.a < R.classes.length:=by
   rcases ho with ⟨e,_⟩ | ⟨e,_⟩ | ⟨e,_⟩ | ⟨_,hp⟩
   ·omega
   ·omega
   ·omega
   ·exact hp
  have e:undo1 R u={ R with classes:=R.classes.set u.a u.b }:=by unfold undo1; rw [if_neg (by omega),if_neg (by omega),if_neg (by omega)]
  rw [e]
  exact (move1_any w wb bw bf bn H Z R u.a u.b h hb.2 h1.2 h2.2 o1).mono fun e w' hw=>⟨hw.1,H,hw.2.1,hw.2.2,rfl⟩
def Backing (w wr:World) (wb:Nat) (H:Hd) (Z:Nat->Prop) (S0:WS) (k:Nat):Prop :=
 ∃ R H',R.trail.length=S0.trail.length+k/\CanBack k R S0/\WebAt wr wb H' Z R/\Upd (H.blocks wb) w wr/\H'.blocks wb=H.blocks wb
theorem Backing.next {w wr w2:World} {wb b j n:Nat} {H H' H2:Hd} {Z:Nat->Prop} {S0 T:WS} {us:List Un} {z v:Value} (hu:Upd (H.blocks wb) w wr) (hB:H'.blocks wb=H.blocks wb) (hT:us.length=S0.trail.length+j) (hc:CanBack j T S0) (hb:b ∈ H.blocks wb)
  (hw:WebAt w2 wb H2 Z T) (hu2:Upd (H'.blocks wb) ((wr.setCell ⟨b,us.length,none⟩ z).setCell ⟨wb,0,none⟩ v) w2) (hH:H2.blocks wb=H'.blocks wb) (ht:T.trail=us) (hj:j+1<=n):j<=n/\Hid (Backing w w2 wb H Z S0 j):=by
 rw [hB] at hu2
 exact ⟨by omega,T,H2,by rw [ht]; exact hT,hc,hw,((hu.setCell (p:=⟨b,us.length,none⟩) (.inl hb) _).setCell (p:=⟨wb,0,none⟩) (.inl (H.mem_wb wb)) _).trans hu2,hH.trans hB⟩
theorem undo1_trail (S:WS) (u:Un):(undo1 S u).trail=S.trail:=by
 unfold undo1
 repeat' split
 all_goals rfl
theorem trail_slice {w:World} {wb:Nat} {H:Hd} {Z:Nat->Prop} {S:WS} (h:WebAt w wb H Z S):∃ g cap,H.backs=.slice g S.trail.length cap/\S.trail.length<=cap/\cap<=maxLen/\(0 < S.trail.length->∃ b,g=some ⟨b,0,none⟩):=by
 obtain ⟨cls,hrow,_⟩:=h.rb
 rcases ownsRow_slice hrow with ⟨h1,h2⟩ | ⟨g,cap,h1,h2,h3⟩
 ·exact ⟨none,0,by rw [h1,h2],by omega,by simp [maxLen],fun e=>by omega⟩
 ·exact ⟨_,cap,h1,h2,h3,fun _=>⟨g,rfl⟩⟩
theorem backTo_any (w:World) (wb:Nat) (H:Hd) (Z:Nat->Prop) (S S0:WS) (h:WebAt w wb H Z S) (hg:Goes S0 S) (hb:S.trail.length<=9000000) :
  Calls Tryz.prog 59 #[.pointer (some ⟨wb,0,none⟩),.int .i64 S0.trail.length] w fun e w'=>e=.returned (.tuple #[])/\∃ H',WebAt w' wb H' Z S0/\Upd (H.blocks wb) w w'/\H'.blocks wb=H.blocks wb:=by
 obtain ⟨n,hn,hc⟩:=hg
 have hstart:Backing w w wb H Z S0 n:=⟨S,H,hn,hc,h,Upd.refl _ _,rfl⟩
 have hn':S0.trail.length+n<=9000000:=by omega
 clear hn hc h hb
 have hmax:S0.trail.length<=9000000:=by omega
 go_enter Tryz.func59,Tryz.ntmps59
 go_wp2
 go_loopg [4] n (fun k _ wr=>k<=n/\Hid (Backing w wr wb H Z S0 k))
 case atStart=>exact ⟨Nat.le_refl _,hstart⟩
 case round =>
  obtain ⟨hk,HR⟩:=hrel
  clear hstart
  obtain ⟨R,H',hl,hcb,hw,hu,hH⟩:=HR.out
  clear HR
  obtain ⟨g,cap,hd,hcap,hcm,hgs⟩:=trail_slice hw
  have c0:=hw.c0
  rw [hd] at c0
  unfold maxLen at hcm
  cases gk with
  | zero =>
   have e:R=S0:=hcb
   subst e
   have Hw:=hide hw
   have HH:=hide hH
   clear hw hH hl hcb hd hgs
   go_wp2
   go_end0
   exact ⟨rfl,H',Hw.out,hu,HH.out⟩
  | succ j =>
   obtain ⟨us,u,ht,ho,hcb'⟩:=hcb
   have hlu:R.trail.length=us.length+1:=by rw [ht]; simp
   obtain ⟨b,rfl⟩:=hgs (by omega)
   rw [hlu] at c0 hd hcap
   have hul:us.length=S0.trail.length+j:=by omega
   obtain ⟨hwp,v,hcell,hv,hfz⟩:=hw.pop (z:=.nilFunc) ht hd
   have hfw:=hw.free
   have hHp:({ H' with backs:=.slice (some ⟨b,0,none⟩) us.length cap }:Hd).blocks wb=H'.blocks wb:=blocks_backs (by rw [hd]; rfl)
   obtain ⟨f,caps,hf,rfl,hcall⟩:=un_any _ wb _ Z _ v u hwp (by rw [hHp]; exact hv) ho
   have HC:=hide hcall
   have hne:b ≠ wb:=fun e=>by
    have:=(Hd.parts hw.apart).b b (by rw [hd]; rfl)
    exact this.1 e
   have hgt:(S0.trail.length:Int) < (us.length:Int)+1:=by omega
   have HU:=hide hu
   have HB:=hide (hHp.trans hH)
   have HT:=hide hul
   have Hcb:=hide hcb'
   have hbH:b ∈ H.blocks wb:=by rw [<- hH]; exact Hd.mem_backs (by rw [hd]; rfl)
   have hus:(us.length:Int)<=9000000:=by omega
   have hcapI:(us.length:Int) < (cap:Int):=by omega
   clear hcall hv hwp hu hHp hH hul hcb' hl hlu ht ho hd hw
   rcases hf with rfl | rfl | rfl | rfl
   ·go_wp2_with (go_at_call 154; refine HC.out.mono ?_; rintro e w2 ⟨rfl,H2,hw2,hu2,hH2⟩)
    go_roundg j
    case measure=>omega
    case rel=>exact Backing.next HU.out HB.out HT.out Hcb.out hbH hw2 hu2 hH2 (undo1_trail _ _) (by omega)
   ·go_wp2_with (go_at_call 158; refine HC.out.mono ?_; rintro e w2 ⟨rfl,H2,hw2,hu2,hH2⟩)
    go_roundg j
    case measure=>omega
    case rel=>exact Backing.next HU.out HB.out HT.out Hcb.out hbH hw2 hu2 hH2 (undo1_trail _ _) (by omega)
   ·go_wp2_with (go_at_call 178; refine HC.out.mono ?_; rintro e w2 ⟨rfl,H2,hw2,hu2,hH2⟩)
    go_roundg j
    case measure=>omega
    case rel=>exact Backing.next HU.out HB.out HT.out Hcb.out hbH hw2 hu2 hH2 (undo1_trail _ _) (by omega)
   ·go_wp2_with (go_at_call 177; refine HC.out.mono ?_; rintro e w2 ⟨rfl,H2,hw2,hu2,hH2⟩)
    go_roundg j
    case measure=>omega
    case rel=>exact Backing.next HU.out HB.out HT.out Hcb.out hbH hw2 hu2 hH2 (undo1_trail _ _) (by omega)
end Go.Proofs.YtmfkpllnmmfpiaaGreatDoor
