/- Clone, Term, Term2, Sent, Sign, Range -/
import Derived.Test.YtmfkpllnmmfpiaaGreatDoorWebHeapA
import Derived.Test.YtmfkpllnmmfpiaaGreatDoorRows
import Derived.Lib.Strings
import Derived.Lib.Walk
import Derived.Lib.BufferWrite
import Derived.Lib.UnsafeStr
import Derived.Lib.Hide
import Derived.Laws.MakeOwn
import Derived.Test.YtmfkpllnmmfpiaaGreatDoorNextA
set_option maxHeartbeats 16000000
set_option maxRecDepth 100000
namespace Go.Proofs.YtmfkpllnmmfpiaaGreatDoor
open Go.RowKit
theorem info_u8:(Tryz.prog.info? 5).map (fun i=>(i.zero,i.size,i.bytes))=some (some (.int .u8 0),1,1):=by kernel_rfl
theorem cloneLite_any (s:ByteArray) (w:World) (hlim:s.size<=1000) :
  Calls Tryz.prog 183 #[.string s] w fun e w'=>e=.returned (.string s)/\Below w.heap.size w w':=by
 by_cases h0:s.size=0
 ·have hs:s=⟨#[]⟩:=ByteArray.ext (Array.eq_empty_of_size_eq_zero h0)
  subst hs
  go_enter Tryz.func183,Tryz.ntmps183
  go_wp2
  go_ret
  exact ⟨rfl,Below.refl _ _⟩
 ·obtain ⟨i0,hi,hz0,hz1,hz2⟩:=info_parts info_u8
  have hinfo:(Tryz.prog.info? 5).map (·.size)=some 1:=by rw [hi]; simp [hz1]
  have hco:Tryz.prog.cellsOf 5=1:=by simp [Program.cellsOf,hi,hz1]
  obtain ⟨M,hM⟩:∃ M,M=madeCells (Value.int .u8 0).cells (((s.size:Nat):Int).toNat * i0.size):=⟨_,rfl⟩
  have hMs:M.size=s.size:=by rw [hM,size_madeCells,hz1]; simp
  have hmk:∀ W:World,(Instr.makeSlice 186 (.int .i64 (s.size:Int)) (.int .i64 (s.size:Int))).run Tryz.prog W=.ok (.slice (some ⟨W.heap.size,0,none⟩) s.size s.size) (W.alloc (.cells M 5)):=fun W=>by
   have h:=run_make (P:=Tryz.prog) W 186 5 i0 (.int .u8 0) Tryz.underlying186 hi hz0 .i64 .i64 (s.size:Int) (s.size:Int) (by omega) (by omega) (by rw [hz2]; omega) (by omega)
   rw [<- hM] at h
   simpa using h
  clear hM
  have hcp:=Lib.run_copy_row_string (P:=Tryz.prog) (w.alloc (.cells M 5)) 186 9 3 5 w.heap.size 0 s.size s.size s M 5 Tryz.underlying186 hinfo (heap_alloc_new w _) (Nat.le_refl _) (by omega)
  obtain ⟨Y,hY⟩:∃ Y,Y=(M.toList.take 0++Lib.byteCells s.data.toList++M.toList.drop (0+s.size)).toArray:=⟨_,rfl⟩
  rw [<- hY] at hcp
  have hYl:Y.toList=Lib.byteCells s.data.toList:=by
   rw [hY,List.toList_toArray,List.take_zero,List.nil_append,List.drop_of_length_le (by rw [Array.length_toList]; omega),List.append_nil]
  have hYs:Y.size=s.size:=by rw [<- Array.length_toList,hYl,Lib.byteCells_length,<- Lib.size_eq]
  have hgY:((w.alloc (.cells M 5)).setRow w.heap.size Y).heap[w.heap.size]?=some (.cells Y 5 (0,0)):=setRow_heap _ _ M _ 5 (0,0) (heap_alloc_new w _)
  have hne:s.data.toList ≠ []:=fun e=>h0 (by rw [Lib.size_eq,e]; rfl)
  have hUS:=Lib.run_unsafeString_row (P:=Tryz.prog) ((w.alloc (.cells M 5)).setRow w.heap.size Y) 255 3 9 5 Tryz.underlying255 hco w.heap.size Y.size (by unfold World.shape?; rw [hgY]) s.data.toList hne (by rw [<- Lib.size_eq]; omega) (by rw [<- Lib.size_eq]; omega)
   (fun j x hx=>Lib.cells_of_row hgY Y.size j _ (by rw [List.take_of_length_le (by rw [Array.length_toList]; exact Nat.le_refl _),hYl]; simp [Lib.byteCells,hx]))
  rw [<- Lib.size_eq] at hUS
  clear hY
  go_enter Tryz.func183,Tryz.ntmps183
  go_wp2
  go_ret
  have hb1:Below w.heap.size w (w.alloc (.cells M 5)):=(Below.refl _ w).alloc (Nat.le_refl _) _
  have hb2:Below w.heap.size (w.alloc (.cells M 5)) ((w.alloc (.cells M 5)).setRow w.heap.size Y):=⟨rfl,rfl,rfl,by simp,fun k hk=>setRow_other _ _ _ _ (by omega)⟩
  exact ⟨rfl,Lib.below_freeze (hb1.trans hb2) (p:=⟨w.heap.size,0,none⟩) (Nat.le_refl _) _⟩
theorem clone_any (s:ByteArray) (w:World) (hlim:s.size<=1000) :
  Calls Tryz.prog 175 #[.string s] w fun e w'=>e=.returned (.string s)/\Below w.heap.size w w':=by
 go_enter Tryz.func175,Tryz.ntmps175
 go_wp2_with (go_at_call 183; refine (cloneLite_any _ _ hlim).mono ?_; rintro e w' ⟨rfl,hb⟩)
 go_ret
 exact ⟨rfl,hb⟩
theorem info_term:(Tryz.prog.info? 98).map (fun i=>(i.zero,i.size,i.bytes))=some (some (.agg #[.string ⟨#[]⟩,.int .i64 0,.slice none 0 0]),3,48):=by kernel_rfl
def TermDone (n:Nat) (s:ByteArray) (r:Nat) (st:Wd) (w:World) (e:Ending) (w':World):Prop :=
 ∃ (a:ByteArray) (p:Int) (g:Option Addr) (l c:Nat) (b:Bool),e=.returned (.tuple #[.agg #[.string a,.int .i64 p,.slice g l c],.bool b]) /\
  Rd w' r s (termOf s n st).2.1 (termOf s n st).2.2.1 (termOf s n st).2.2.2/\Upd [r] w w'/\b=(termOf s n st).1.isSome /\
  ∀ t,(termOf s n st).1=some t->IsTm w' (fun k=>w.heap.size<=k) n (.string a,.int .i64 p,.slice g l c) t
def TermOK (n:Nat):Prop:=∀ (s:ByteArray) (r:Nat) (st:Wd) (w:World),s.size<=200->Rd w r s st.1 st.2.1 st.2.2->Fit s st->s.size < n+st.2.1 ->
 Calls Tryz.prog 151 #[.pointer (some ⟨r,0,none⟩)] w (TermDone n s r st w)
def PartsDone (n:Nat) (s:ByteArray) (r:Nat) (st:Wd) (w:World) (e:Ending) (w':World):Prop :=
 ∃ (g:Option Addr) (l c:Nat) (b:Bool),e=.returned (.tuple #[.slice g l c,.bool b]) /\
  Rd w' r s (partsOf s (termOf s n) (s.size+1) st).2.1 (partsOf s (termOf s n) (s.size+1) st).2.2.1 (partsOf s (termOf s n) (s.size+1) st).2.2.2/\Upd [r] w w'/\b=(partsOf s (termOf s n) (s.size+1) st).1.isSome /\
  ∀ ps,(partsOf s (termOf s n) (s.size+1) st).1=some ps->∃ cs:List V3,w'.ownsRow 0 98 3 (.slice g l c) ps.length (flat3 cs)/\(∀ k,(Value.slice g l c).ownBlock=some k->w.heap.size<=k)/\AllIs (IsTm w' (fun k=>w.heap.size<=k) n) cs ps
def PartsOK (n:Nat):Prop:=∀ (s:ByteArray) (r:Nat) (st:Wd) (w:World),s.size<=200->Rd w r s st.1 st.2.1 st.2.2->Fit s st->st.2.1 < st.2.2->s.size < n+1+st.2.1 ->
 Calls Tryz.prog 176 #[.pointer (some ⟨r,0,none⟩)] w (PartsDone n s r st w)
theorem allIs_grown {w wr w1 w2 w3:World} {r n g:Nat} {v:Value} {X Y:Obj} {cs:List V3} {acc:List (Tm n)} {c:V3} {x:Tm n} (hrlt:r < w.heap.size) (hu:Upd [r] w wr) (hu1:Upd [r] wr w1) (hu2:Upd [r] w1 w2)
  (HO:wr.ownsRow w.heap.size 98 3 v acc.length (flat3 cs)) (HA:AllIs (IsTm wr (fun k=>w.heap.size<=k/\some k ≠ v.ownBlock) n) cs acc)
  (hx:IsTm w2 (fun k=>w1.heap.size<=k) n c x) (hgrow:((w2.alloc X).alloc Y).grownBy w3 v.ownBlock) (hat:v.ownBlock=some g\/g=((w2.alloc X).alloc Y).heap.size) :
  AllIs (IsTm w3 (fun k=>w.heap.size<=k/\some k ≠ some g) n) (cs++[c]) (acc++[x]):=by
 have hs1:=hu.size
 have hs2:=hu1.size
 have hs3:=hu2.size
 have hend:((w2.alloc X).alloc Y).heap.size=w2.heap.size+2:=by simp
 have step:∀ (c':V3) (t:Tm n),IsTm w2 (fun k=>w.heap.size<=k/\some k ≠ v.ownBlock/\k < w2.heap.size) n c' t->IsTm w3 (fun k=>w.heap.size<=k/\some k ≠ some g) n c' t:=by
  intro c' t h
  have h1:=h.later (((Upd.refl [] w2).alloc X).alloc Y) (fun _ _=>by simp)
  have h2:=h1.later (Upd.of_grown hgrow) (fun k hk hm=>hk.2.1 (by simpa [eq_comm] using hm))
  refine h2.mono fun k hk _=>⟨hk.1,fun e=>?_⟩
  obtain rfl:=Option.some.inj e
  rcases hat with hat | hat
  ·exact hk.2.1 hat.symm
  ·omega
 refine AllIs.snoc (step _ _ (hx.mono fun k hk hlt=>⟨by omega,fun e=>?_,hlt⟩)) (HA.mono fun a b h=>step _ _ ?_)
 ·have:=(HO.lt k e.symm).2
  omega
 ·have h1:=h.later (hu1.trans hu2) (fun k hk hm=>by simp at hm; omega)
  exact h1.mono fun k hk hlt=>⟨hk.1,hk.2,hlt⟩
theorem news3 (w:World) (X:Obj) (a b c:Value) (t:TypeId):∀ j u,[a,b,c][j]?=some u->((w.alloc X).alloc (.cells #[a,b,c] t)).cell? ((⟨w.heap.size+1,0,none⟩:Addr).add j)=some u:=by
 have hb:((w.alloc X).alloc (.cells #[a,b,c] t)).heap[w.heap.size+1]?=some (.cells #[a,b,c] t (0,0)):=by
  have:=heap_alloc_new (w.alloc X) (.cells #[a,b,c] t)
  simpa using this
 exact World.news_of_block hb
theorem parts_of_term (n:Nat) (hT:TermOK n):PartsOK n:=by
 intro s r st w hs hrd hfit hlt hn
 have hrlt:=hrd.lt
 go_enter Tryz.func176,Tryz.ntmps176
 go_wp2
 go_loopw [4] (fun v wr=>∃ (m:Nat) (st':Wd) (acc:List (Tm n)) (cs:List V3),Fit s st'/\st.2.1 < st'.2.2/\s.size < m+st'.2.2/\acc.length<=st'.2.2 /\
   Hid (partsOf s (termOf s n) (s.size+1) st=aheadOf acc (partsOf s (termOf s n) m st'))/\Rd wr r s st'.1 st'.2.1 st'.2.2/\Upd [r] w wr /\
   Hid (wr.ownsRow w.heap.size 98 3 v acc.length (flat3 cs))/\Hid (AllIs (IsTm wr (fun k=>w.heap.size<=k/\some k ≠ v.ownBlock) n) cs acc))
  (fun _ wr=>s.size - natAt wr ⟨r,3,none⟩)
 case atStart =>
  exact ⟨s.size+1,st,[],[],hfit,hlt,by omega,Nat.zero_le _,(aheadOf_nil _).symm,hrd,Upd.refl _ _,World.ownsRow_nil _ _ _ _,trivial⟩
 case round =>
  obtain ⟨m,st',acc,cs,hfit',hlt',hm,hacc,HP,hrd',hu,HO,HA⟩:=hrel
  obtain ⟨m,rfl⟩:∃ m',m=m'+1:=⟨m - 1,by have:=hfit'.size; omega⟩
  have hsz:=hfit'.size
  have hrt:=hrd'.till
  go_wp2_with fail
  refine (next_any r s _ _ _ _ hrd' (by omega) hsz).mono ?_
  rintro e w1 ⟨rfl,hrd1,hu1⟩
  have hfit1:=Fit.next s st'.2.2 hsz
  have hw1:=wordAt_le s st'.2.2 hsz
  go_wp2_with fail
  refine (hT s r (wordAt s st'.2.2) w1 hs hrd1 hfit1 (by omega)).mono ?_
  rintro e w2 ⟨a,p,g,l,c,b,rfl,hrd2,hu2,hb,ht⟩
  have hu3:=(hu.trans hu1).trans hu2
  cases hres:termOf s n (wordAt s st'.2.2) with
  | mk o st2 =>
   rw [hres] at hrd2 hb ht
   simp only at hrd2 hb ht
   cases o with
   | none =>
    obtain rfl:b=false:=hb
    have HE:Hid (partsOf s (termOf s n) (s.size+1) st=(none,st2)):=HP.out.trans (partsOf_none hres)
    clear hres HP HO HA ht hT hrd hrd' hrd1 hu hu1 hu2
    go_wp2
    go_ret2
    exact ⟨none,0,0,false,rfl,by rw [HE.out]; exact hrd2.later ((Upd.refl [] _).alloc _) (by simp),hu3.alloc _,by rw [HE.out]; rfl,fun ps hps=>by rw [HE.out] at hps; cases hps⟩
   | some x =>
    obtain rfl:b=true:=hb
    have hx:=ht x rfl
    have hfit2:=(termOf_fit n (wordAt s st'.2.2) hfit1).1
    have hle2:=(termOf_fit n (wordAt s st'.2.2) hfit1).2
    rw [hres] at hfit2 hle2
    simp only at hfit2 hle2
    clear ht hT hrd hrd' hrd1
    have hsz2:=hfit2.size
    have hle3:=hfit2.le
    have hbase:=hu3.size
    obtain ⟨i0,hi,hz0,hz1,hz2⟩:=info_parts info_term
    have hown2:((w2.alloc (.cells #[.string a,.int .i64 p,.slice g l c] 98)).alloc (.cells #[.string a,.int .i64 p,.slice g l c] 98)).ownsRow w.heap.size 98 3 u4 acc.length (flat3 cs) :=
     (((Upd.refl [] _).alloc _).alloc _).ownsRow ((hu1.trans hu2).ownsRow HO.out (fun k hk hm=>by have:=(HO.out.lt k hk).1; simp at hm; omega)) (fun _ _=>by simp)
    have hnews:=news3 w2 (.cells #[.string a,.int .i64 p,.slice g l c] 98) (.string a) (.int .i64 p) (.slice g l c) 98
    have hone:∀ u ∈ [Value.string a,.int .i64 p,.slice g l c],u.oneCell'=true:=by intro u hu'; simp at hu'; rcases hu' with rfl | rfl | rfl <;> rfl
    have Hrd3:Hid (∀ w3,((w2.alloc (.cells #[.string a,.int .i64 p,.slice g l c] 98)).alloc (.cells #[.string a,.int .i64 p,.slice g l c] 98)).grownBy w3 u4.ownBlock->Rd w3 r s st2.1 st2.2.1 st2.2.2):=fun w3 hg =>
     (hrd2.later (((Upd.refl [] _).alloc _).alloc _) (by simp)).later (Upd.of_grown hg) (fun hm=>by have:=(HO.out.lt r (by simpa using hm)).1; omega)
    have Hu3:Hid (∀ w3,((w2.alloc (.cells #[.string a,.int .i64 p,.slice g l c] 98)).alloc (.cells #[.string a,.int .i64 p,.slice g l c] 98)).grownBy w3 u4.ownBlock->Upd [r] w w3):=fun w3 hg =>
     ((hu3.alloc _).alloc _).grown hg (fun k hk=>.inr (HO.out.lt k hk).1)
    have HA3:Hid (∀ w3 g',((w2.alloc (.cells #[.string a,.int .i64 p,.slice g l c] 98)).alloc (.cells #[.string a,.int .i64 p,.slice g l c] 98)).grownBy w3 u4.ownBlock->(u4.ownBlock=some g'\/g'=((w2.alloc (.cells #[.string a,.int .i64 p,.slice g l c] 98)).alloc (.cells #[.string a,.int .i64 p,.slice g l c] 98)).heap.size)->AllIs (IsTm w3 (fun k=>w.heap.size<=k/\some k ≠ some g') n) (cs++[(.string a,.int .i64 p,.slice g l c)]) (acc++[x])) :=
     fun w3 g' hg hat=>allIs_grown hrlt hu hu1 hu2 HO.out HA.out hx hg hat
    have Hfl:Hid (flat3 cs++[.string a,.int .i64 p,.slice g l c]=flat3 (cs++[(.string a,.int .i64 p,.slice g l c)])):=by show _=_; rw [flat3_append]; rfl
    clear HO HA hx hu hu1 hu2 hu3 hrd2
    by_cases hk2:st2.1=2
    ·have HE:Hid (partsOf s (termOf s n) (s.size+1) st=(some (acc++[x]),wordAt s st2.2.2)):=HP.out.trans (partsOf_close hres hk2)
     have hk2':(st2.1 == 2)=true:=by simpa using hk2
     clear hk2 hres HP
     go_wp2_with (at_builtin; refine wpList_append_lies _ rfl _ _ 96 rfl w.heap.size 98 i0 (.agg #[.string ⟨#[]⟩,.int .i64 0,.slice none 0 0]) 3 48 Tryz.underlying96 hi hz0 hz1 hz2 rfl (by decide) _ _ _ rfl hown2 ⟨w2.heap.size+1,0,none⟩ 1 1 [.string a,.int .i64 p,.slice g l c] rfl rfl hnews hone (by decide) (by unfold maxLen; omega) (by omega) (by simp; omega) _ rfl ?_; intro g' cap w3 hown' hgrow hat hlt3; obtain ⟨y0,y1,y2,y3,y4,y5⟩:=Hrd3.out w3 hgrow)
     refine (next_any r s _ _ _ _ (Hrd3.out w3 hgrow) (by omega) hsz2).mono ?_
     rintro e w4 ⟨rfl,hrd4,hu4⟩
     have hlo:=(hown'.lt g' rfl).1
     have hrg:∀ k,(Value.slice (some ⟨g',0,none⟩) (acc.length+1) cap).ownBlock=some k->k ∉ [r]:=fun k hk hm=>by simp [Value.ownBlock] at hk hm; omega
     have hA4:=(HA3.out w3 g' hgrow hat).mono fun _ _ h=>(h.later hu4 (fun k hk hm=>by simp at hm; omega)).mono fun k hk _=>hk.1
     have hO4:w4.ownsRow 0 98 3 (.slice (some ⟨g',0,none⟩) (acc.length+1) cap) (acc++[x]).length (flat3 (cs++[(.string a,.int .i64 p,.slice g l c)])):=by
      rw [<- Hfl.out]; simpa using hu4.ownsRow (ownsRow_base hown' (fun _ _=>Nat.zero_le _)) hrg
     have hU4:=(Hu3.out w3 hgrow).trans hu4
     clear hown' hgrow hat hnews hone hown2 Hrd3 Hu3 HA3 Hfl hu4 y0 y1 y2 y3 y4 y5
     go_wp2
     go_ret2
     exact ⟨_,_,_,true,rfl,by rw [HE.out]; exact hrd4,hU4,by rw [HE.out]; rfl,fun ps hps=>by
      rw [HE.out] at hps
      obtain rfl:=Option.some.inj hps
      exact ⟨_,hO4,fun k hk=>by simp [Value.ownBlock] at hk; omega,hA4⟩⟩
    ·have hk2':(st2.1 == 2)=false:=by simpa using hk2
     by_cases hk3:st2.1=3
     ·have HE:Hid (partsOf s (termOf s n) (s.size+1) st=aheadOf (acc++[x]) (partsOf s (termOf s n) m st2)):=HP.out.trans (partsOf_comma hres hk3)
      have hk3':(st2.1 != 3)=false:=by simp [hk3]
      have hlt2:=hfit2.lt (by omega)
      clear hk2 hk3 hres HP
      go_wp2_with (at_builtin; refine wpList_append_lies _ rfl _ _ 96 rfl w.heap.size 98 i0 (.agg #[.string ⟨#[]⟩,.int .i64 0,.slice none 0 0]) 3 48 Tryz.underlying96 hi hz0 hz1 hz2 rfl (by decide) _ _ _ rfl hown2 ⟨w2.heap.size+1,0,none⟩ 1 1 [.string a,.int .i64 p,.slice g l c] rfl rfl hnews hone (by decide) (by unfold maxLen; omega) (by omega) (by simp; omega) _ rfl ?_; intro g' cap w3 hown' hgrow hat hlt3; obtain ⟨y0,y1,y2,y3,y4,y5⟩:=Hrd3.out w3 hgrow)
      have hw3:=Hrd3.out w3 hgrow
      refine ⟨⟨m,st2,acc++[x],cs++[((Value.string a,Value.int .i64 p,Value.slice g l c):V3)],hfit2,by omega,by omega,by simp; omega,HE,hw3,Hu3.out w3 hgrow,?_,HA3.out w3 g' hgrow hat⟩,?_⟩
      ·show World.ownsRow _ _ _ _ _ _ _
       rw [<- Hfl.out]; simpa using hown'
      ·rw [natAt_eq hw3.till,natAt_eq hrt]; omega
     ·have HE:Hid (partsOf s (termOf s n) (s.size+1) st=(none,st2)):=HP.out.trans (partsOf_other hres hk2 hk3)
      have hk3':(st2.1 != 3)=true:=by simp [hk3]
      clear hk2 hk3 hres HP
      go_wp2_with (at_builtin; refine wpList_append_lies _ rfl _ _ 96 rfl w.heap.size 98 i0 (.agg #[.string ⟨#[]⟩,.int .i64 0,.slice none 0 0]) 3 48 Tryz.underlying96 hi hz0 hz1 hz2 rfl (by decide) _ _ _ rfl hown2 ⟨w2.heap.size+1,0,none⟩ 1 1 [.string a,.int .i64 p,.slice g l c] rfl rfl hnews hone (by decide) (by unfold maxLen; omega) (by omega) (by simp; omega) _ rfl ?_; intro g' cap w3 hown' hgrow hat hlt3; obtain ⟨y0,y1,y2,y3,y4,y5⟩:=Hrd3.out w3 hgrow)
      go_ret2
      exact ⟨none,0,0,false,rfl,by rw [HE.out]; exact Hrd3.out w3 hgrow,Hu3.out w3 hgrow,by rw [HE.out]; rfl,fun ps hps=>by rw [HE.out] at hps; cases hps⟩
theorem bcell {W w1:World} (hb:Below W.heap.size W w1):(∀ b o,b < W.heap.size->w1.cell? ⟨b,o,none⟩=W.cell? ⟨b,o,none⟩)/\(∀ b o,b < W.heap.size->w1.frozen? ⟨b,o,none⟩=W.frozen? ⟨b,o,none⟩) :=
 ⟨fun b o h=>hb.cell (p:=⟨b,o,none⟩) h,fun b o h=>hb.frozen (p:=⟨b,o,none⟩) h⟩
theorem clone_keeps (r:Nat) (s:ByteArray) (f t:Int) (x:ByteArray) (W:World) (hx:x.size<=1000)
  (h:W.cell? ⟨r,0,none⟩=some (.string s)/\W.cell? ⟨r,2,none⟩=some (.int .i64 f)/\W.cell? ⟨r,3,none⟩=some (.int .i64 t)) :
  Calls Tryz.prog 175 #[.string x] W fun e w'=>e=.returned (.string x)/\Below W.heap.size W w'/\w'.cell? ⟨r,0,none⟩=some (.string s)/\w'.cell? ⟨r,2,none⟩=some (.int .i64 f)/\w'.cell? ⟨r,3,none⟩=some (.int .i64 t):=by
 have hlt:=World.block_lt_of_cell? _ _ h.1
 exact (clone_any x W hx).mono fun e w' ⟨he,hb⟩=>⟨he,hb,(hb.cell (p:=⟨r,0,none⟩) hlt).trans h.1,(hb.cell (p:=⟨r,2,none⟩) hlt).trans h.2.1,(hb.cell (p:=⟨r,3,none⟩) hlt).trans h.2.2⟩
structure Box3 (w:World) (B:Nat) (c0 c1 c2:Value):Prop where
 lt:B < w.heap.size
 c0:w.cell? ⟨B,0,none⟩=some c0
 c1:w.cell? ⟨B,1,none⟩=some c1
 c2:w.cell? ⟨B,2,none⟩=some c2
 free:∀ o,w.frozen? ⟨B,o,none⟩=false
theorem Box3.later {w w':World} {L:List Nat} {B:Nat} {c0 c1 c2:Value} (h:Box3 w B c0 c1 c2) (hu:Upd L w w') (hB:B ∉ L):Box3 w' B c0 c1 c2 :=
 ⟨Nat.lt_of_lt_of_le h.lt hu.size,(hu.cell h.lt hB).trans h.c0,(hu.cell h.lt hB).trans h.c1,(hu.cell h.lt hB).trans h.c2,fun o=>(hu.frozen (p:=⟨B,o,none⟩) h.lt hB).trans (h.free o)⟩
theorem Box3.new (w:World) (c0 c1 c2:Value) (t:TypeId):Box3 (w.alloc (.cells #[c0,c1,c2] t)) w.heap.size c0 c1 c2 :=
 ⟨by simp,by simp,by simp,by simp,fun o=>by rw [frozen?_alloc_cells]; simp [World.frozen?]⟩
theorem Box3.set {w:World} {B:Nat} {c0 c1 c2:Value} (h:Box3 w B c0 c1 c2) (d0 d1 d2:Value):Box3 (((w.setCell ⟨B,0,none⟩ d0).setCell ⟨B,1,none⟩ d1).setCell ⟨B,2,none⟩ d2) B d0 d1 d2:=by
 obtain ⟨hlt,h0,h1,h2,hf⟩:=h
 exact ⟨by simpa using hlt,by go_simp,by go_simp,by go_simp,fun o=>by simpa using hf o⟩
def Literal (w:World) (r:Nat) (s:ByteArray) (st:Wd) (N A:Value) (p:Value) (wc:World):Prop :=
 ∃ B,p=.pointer (some ⟨B,0,none⟩)/\w.heap.size < B/\Box3 wc B N A (.slice none 0 0)/\Box3 wc w.heap.size (.string ⟨#[]⟩) (.int .i64 0) (.slice none 0 0)/\Rd wc r s st.1 st.2.1 st.2.2/\Upd [r] w wc
theorem rel_cloned_first {w w':World} {r:Nat} {s:ByteArray} {st:Wd} {N A:Value} {T T':TypeId} (hrd:Rd w r s st.1 st.2.1 st.2.2)
  (hb:Below (w.alloc (.cells #[.string ⟨#[]⟩,.int .i64 0,.slice none 0 0] T)).drew.heap.size (w.alloc (.cells #[.string ⟨#[]⟩,.int .i64 0,.slice none 0 0] T)).drew w') :
  Literal w r s st N A (.pointer (some ⟨w'.heap.size,0,none⟩)) (w'.alloc (.cells #[N,A,.slice none 0 0] T')):=by
 have hsz:=hb.size
 simp at hsz
 have U1:Upd [] w w':=(((Upd.refl [] w).alloc _).drew).trans (Upd.of_below hb)
 have b0:Box3 w' w.heap.size _ _ _:=((Box3.new w (.string ⟨#[]⟩) (.int .i64 0) (.slice none 0 0) T).later ((Upd.refl [] _).drew) (by simp)).later (Upd.of_below (L:=[]) hb) (by simp)
 exact ⟨_,rfl,by omega,Box3.new _ _ _ _ _,b0.later ((Upd.refl [] _).alloc _) (by simp),hrd.later (U1.alloc _) (by simp),(U1.alloc _).mono (fun x hx _=>by cases hx)⟩
theorem rel_alloc_first {w w':World} {r:Nat} {s:ByteArray} {st:Wd} {N A:Value} {T:TypeId} (hrd:Rd w r s st.1 st.2.1 st.2.2)
  (hb:Below ((w.alloc (.cells #[.string ⟨#[]⟩,.int .i64 0,.slice none 0 0] T)).alloc (.cells #[.string ⟨#[]⟩,.int .i64 0,.slice none 0 0] T)).drew.heap.size ((w.alloc (.cells #[.string ⟨#[]⟩,.int .i64 0,.slice none 0 0] T)).alloc (.cells #[.string ⟨#[]⟩,.int .i64 0,.slice none 0 0] T)).drew w') :
  Literal w r s st N A (.pointer (some ⟨w.heap.size+1,0,none⟩)) (((w'.setCell ⟨w.heap.size+1,0,none⟩ N).setCell ⟨w.heap.size+1,1,none⟩ A).setCell ⟨w.heap.size+1,2,none⟩ (.slice none 0 0)):=by
 have hlt:=hrd.lt
 have U1:Upd [] w w':=((((Upd.refl [] w).alloc _).alloc _).drew).trans (Upd.of_below hb)
 have b0:Box3 w' w.heap.size _ _ _:=(((Box3.new w (.string ⟨#[]⟩) (.int .i64 0) (.slice none 0 0) T).later ((Upd.refl [] _).alloc _) (by simp)).later ((Upd.refl [] _).drew) (by simp)).later (Upd.of_below (L:=[]) hb) (by simp)
 have b1:Box3 w' (w.alloc (.cells #[.string ⟨#[]⟩,.int .i64 0,.slice none 0 0] T)).heap.size _ _ _:=((Box3.new (w.alloc (.cells #[.string ⟨#[]⟩,.int .i64 0,.slice none 0 0] T)) (.string ⟨#[]⟩) (.int .i64 0) (.slice none 0 0) T).later ((Upd.refl [] _).drew) (by simp)).later (Upd.of_below (L:=[]) hb) (by simp)
 have e1:(w.alloc (.cells #[.string ⟨#[]⟩,.int .i64 0,.slice none 0 0] T)).heap.size=w.heap.size+1:=by simp
 rw [e1] at b1
 have U2:Upd [w.heap.size+1] w' (((w'.setCell ⟨w.heap.size+1,0,none⟩ N).setCell ⟨w.heap.size+1,1,none⟩ A).setCell ⟨w.heap.size+1,2,none⟩ (.slice none 0 0)) :=
  (((Upd.refl _ _).setCell (by simp) _).setCell (by simp) _).setCell (by simp) _
 exact ⟨_,rfl,by omega,b1.set _ _ _,b0.later U2 (by simp),(hrd.later U1 (by simp)).later U2 (by simp; omega),U1.mono (fun x hx _=>by cases hx) |>.trans' U2 (fun x hx hl=>by simp at hx; omega)⟩
theorem term_close {n r B l c:Nat} {s:ByteArray} {st:Wd} {w w1 w3:World} {g:Option Addr} {b:Bool} (hrlt:r < w.heap.size) (hB1:B < w1.heap.size) (hR1:w.heap.size < w1.heap.size) (hB:w.heap.size < B) (hU:Upd [r] w w3)
  (hk:st.1=0) (hk1:(wordAt s st.2.2).1=1)
  (hrd3:Rd w3 r s (partsOf s (termOf s n) (s.size+1) (wordAt s st.2.2)).2.1 (partsOf s (termOf s n) (s.size+1) (wordAt s st.2.2)).2.2.1 (partsOf s (termOf s n) (s.size+1) (wordAt s st.2.2)).2.2.2)
  (hb:b=(partsOf s (termOf s n) (s.size+1) (wordAt s st.2.2)).1.isSome)
  (hps:∀ ps,(partsOf s (termOf s n) (s.size+1) (wordAt s st.2.2)).1=some ps->∃ cs:List V3,w3.ownsRow 0 98 3 (.slice g l c) ps.length (flat3 cs)/\(∀ k,(Value.slice g l c).ownBlock=some k->w1.heap.size<=k)/\AllIs (IsTm w3 (fun k=>w1.heap.size<=k) n) cs ps) :
  TermDone (n+1) s r st w (.returned (.tuple #[.agg #[.string (s.extract st.2.1 st.2.2),.int .i64 st.2.1,.slice g l c],.bool b]))
   ((((w3.setCell ⟨B,2,none⟩ (.slice g l c)).setCell ⟨w.heap.size,0,none⟩ (.string (s.extract st.2.1 st.2.2))).setCell ⟨w.heap.size,1,none⟩ (.int .i64 st.2.1)).setCell ⟨w.heap.size,2,none⟩ (.slice g l c)):=by
 have U:=((((Upd.refl [B,w.heap.size] w3).setCell (p:=⟨B,2,none⟩) (by simp) (.slice g l c)).setCell (p:=⟨w.heap.size,0,none⟩) (by simp) (.string (s.extract st.2.1 st.2.2))).setCell (p:=⟨w.heap.size,1,none⟩) (by simp) (.int .i64 st.2.1)).setCell (p:=⟨w.heap.size,2,none⟩) (by simp) (.slice g l c)
 have hU2:=hU.trans' U (fun x hx hl=>by simp at hx; omega)
 have hn:r ∉ [B,w.heap.size]:=by simp; omega
 cases hp:partsOf s (termOf s n) (s.size+1) (wordAt s st.2.2) with
 | mk o st2 =>
  rw [hp] at hrd3 hb hps
  cases o with
  | none =>
   have HE:=termOf_fails hk hk1 hp
   exact ⟨_,_,g,l,c,b,rfl,by rw [HE]; exact hrd3.later U hn,hU2,by rw [HE]; exact hb,fun t ht=>by rw [HE] at ht; cases ht⟩
  | some ps =>
   have HE:=termOf_parts hk hk1 hp
   obtain ⟨cs,hown,hF,hall⟩:=hps ps rfl
   exact ⟨_,_,g,l,c,b,rfl,by rw [HE]; exact hrd3.later U hn,hU2,by rw [HE]; exact hb,fun t ht=>by
    rw [HE] at ht
    obtain rfl:=Option.some.inj ht
    refine ⟨rfl,rfl,cs,U.ownsRow hown (fun k hk hm=>?_),fun k hk=>?_,hall.mono fun _ _ h=>(h.later U (fun k hk hm=>?_)).mono fun k hk _=>?_⟩
    ·have:=hF k hk; simp at hm; omega
    ·have:=hF k hk; omega
    ·simp at hm; omega
    ·omega⟩
theorem term_zero:TermOK 0:=by
 intro s r st w hs hrd hfit hn
 have:=hfit.le
 have:=hfit.size
 omega
theorem term_of_parts (n:Nat) (hP:PartsOK n):TermOK (n+1):=by
 intro s r st w hs hrd hfit hn
 have hrd':=hrd
 obtain ⟨hrlt,h0,h1,h2,h3,hf⟩:=hrd'
 by_cases hk:st.1=0
 ·have hk':(st.1 != 0)=false:=by simp [hk]
  have hle:=hfit.lt (by omega)
  have hsz:=hfit.size
  have hlt1:(st.2.1:Int)<=(st.2.2:Int):=by omega
  have hlt2:(st.2.2:Int)<=(s.size:Int):=by omega
  have hne:=World.new_ne w ⟨r,0,none⟩ h0
  have hne2:=World.new_ne w ⟨r,2,none⟩ h2
  have hne3:=World.new_ne w ⟨r,3,none⟩ h3
  have Hk:Hid (st.1=0):=hk
  clear hk
  go_enter Tryz.func151,Tryz.ntmps151
  go_wp2
  go_cut [4] (fun p wc=>Literal w r s st (.string (s.extract st.2.1 st.2.2)) (.int .i64 st.2.1) p wc)
  case first =>
   go_region_held3 (fun w'=>w'.cell? ⟨r,0,none⟩=some (.string s)/\w'.cell? ⟨r,2,none⟩=some (.int .i64 st.2.1)/\w'.cell? ⟨r,3,none⟩=some (.int .i64 st.2.2)) ((first | go_keep | (refine ⟨?_,?_,?_⟩ <;> go_simp))) (first | (go_at_call 175; refine (clone_keeps r s st.2.1 st.2.2 _ _ ?_ ?_).mono ?_; (simp; omega); assumption; rintro e w' ⟨rfl,hb,q0,q1,q2⟩; obtain ⟨hbc,hbf⟩:=bcell hb))
   ·go_wp2_with fail
    go_meet
    case rel=>exact rel_cloned_first hrd hb
   ·go_wp2_with fail
    go_meet
    case rel=>exact rel_alloc_first hrd hb
  case rest =>
   obtain ⟨B,rfl,hB,hbox,hres,hrdc,huc⟩:=hcut
   clear h0 h1 h2 h3 hf hne hne2 hne3
   go_wp2_with fail
   refine (next_any r s _ _ _ _ hrdc (by omega) hsz).mono ?_
   rintro e w1 ⟨rfl,hrd1,hu1⟩
   have hfit1:=Fit.next s st.2.2 hsz
   have hw1:=wordAt_le s st.2.2 hsz
   have hrB:B ∉ [r]:=by simp; omega
   have hr0:w.heap.size ∉ [r]:=by simp; omega
   have hbox1:=hbox.later hu1 hrB
   have hres1:=hres.later hu1 hr0
   have hu2:=huc.trans hu1
   clear hbox hres huc hu1 hrdc
   by_cases hk1:(wordAt s st.2.2).1=1
   ·have hk1':((wordAt s st.2.2).1 != 1)=false:=by simp [hk1]
    have Hk1:Hid ((wordAt s st.2.2).1=1):=hk1
    have hlt4:=hfit1.lt (by omega)
    clear hk1
    have hrd1':=hrd1
    obtain ⟨y0,y1,y2,y3,y4,y5⟩:=hrd1'
    go_wp2_with fail
    refine (hP s r (wordAt s st.2.2) w1 hs hrd1 hfit1 hlt4 (by omega)).mono ?_
    rintro e w3 ⟨g,l,c,b,rfl,hrd3,hu3,hb,hps⟩
    have hB1:=hbox1.lt
    have hR1:=hres1.lt
    have Hb:Hid (b=(partsOf s (termOf s n) (s.size+1) (wordAt s st.2.2)).1.isSome):=hb
    clear hb
    have hbox3:=hbox1.later hu3 hrB
    have hres3:=hres1.later hu3 hr0
    have hres2:=hres3
    have hU:=hu2.trans hu3
    have hsz1:=hu2.size
    clear y0 y1 y2 y3 y4 y5 hbox1 hres1 hu3 hrd1
    obtain ⟨a0,a1,a2,a3,a4⟩:=hbox3
    obtain ⟨d0,d1,d2,d3,d4⟩:=hres2
    go_wp2
    refine bodyPost_ret (v:=.tuple #[.agg #[.string (s.extract st.2.1 st.2.2),.int .i64 st.2.1,.slice g l c],.bool b]) (by simp [results,Tryz.results151,go_sem,d1,d2,d3]) rfl ?_
    clear a0 a1 a2 a3 a4 d0 d1 d2 d3 d4
    exact term_close hrlt hB1 hR1 hB hU Hk.out Hk1.out hrd3 Hb.out hps
   ·have hk1':((wordAt s st.2.2).1 != 1)=true:=by simp [hk1]
    have HE:Hid (termOf s (n+1) st=(some (Tm.mk (s.extract st.2.1 st.2.2) st.2.1 []),wordAt s st.2.2)):=termOf_bare Hk.out hk1
    clear hk1
    obtain ⟨a0,a1,a2,a3,a4⟩:=hbox1
    have hres2:=hres1
    obtain ⟨d0,d1,d2,d3,d4⟩:=hres2
    have hrd1':=hrd1
    obtain ⟨y0,y1,y2,y3,y4,y5⟩:=hrd1'
    go_wp2
    refine bodyPost_ret (v:=.tuple #[.agg #[.string (s.extract st.2.1 st.2.2),.int .i64 st.2.1,.slice none 0 0],.bool true]) (by simp [results,Tryz.results151,go_sem,d1,d2,d3]) rfl ?_
    clear a0 a1 a2 a3 a4 d0 d1 d2 d3 d4 y0 y1 y2 y3 y4 y5
    have U:=(((Upd.refl [w.heap.size] w1).setCell (p:=⟨w.heap.size,0,none⟩) (by simp) (.string (s.extract st.2.1 st.2.2))).setCell (p:=⟨w.heap.size,1,none⟩) (by simp) (.int .i64 st.2.1)).setCell (p:=⟨w.heap.size,2,none⟩) (by simp) (.slice none 0 0)
    exact ⟨_,_,none,0,0,true,rfl,by rw [HE.out]; exact hrd1.later U (by simp; omega),hu2.trans' U (fun x hx hl=>by simp at hx; omega),by rw [HE.out]; rfl,fun t ht=>by
     rw [HE.out] at ht
     obtain rfl:=Option.some.inj ht
     exact ⟨rfl,rfl,[],World.ownsRow_nil _ _ _ _,fun k hk=>(by simp [Value.ownBlock] at hk),trivial⟩⟩
 ·have hk':(st.1 != 0)=true:=by simp [hk]
  have HE:Hid (termOf s (n+1) st=(none,st)):=termOf_no hk
  clear hk
  go_enter Tryz.func151,Tryz.ntmps151
  go_wp2
  refine bodyPost_ret (v:=.tuple #[.agg #[.string ⟨#[]⟩,.int .i64 0,.slice none 0 0],.bool false]) (by simp [results,Tryz.results151,go_sem]) rfl ?_
  exact ⟨_,_,none,0,0,false,rfl,by rw [HE.out]; exact hrd.later ((Upd.refl [] _).alloc _) (by simp),(Upd.refl _ _).alloc _,by rw [HE.out]; rfl,fun t ht=>by rw [HE.out] at ht; cases ht⟩
theorem term_ok:∀ n,TermOK n
 | 0=>term_zero
 | n+1=>term_of_parts n (parts_of_term n (term_ok n))
def signOf (s:ByteArray) (st:Wd):Option Bool × Wd :=
 if st.1=4 then (some true,wordAt s st.2.2)
 else if st.1=5 then (some false,wordAt s st.2.2)
 else if st.1=6 then (none,(6,st.2.2,st.2.2))
 else (none,st)
structure Snt (n:Nat) where
 left:Tm n
 eq:Bool
 right:Tm n
def sentOf (s:ByteArray) (n:Nat) (st:Wd):Option (Snt n) × Wd :=
 match termOf s n st with
 | (none,st1)=>(none,st1)
 | (some l,st1) =>
  match signOf s st1 with
  | (none,st2)=>(none,st2)
  | (some g,st2) =>
   match termOf s n st2 with
   | (none,st3)=>(none,st3)
   | (some r,st3)=>if st3.1=7 then (some ⟨l,g,r⟩,st3) else (none,st3)
def firstOf {α β:Type} (f:α->Option β):List α->Option β
 | []=>none
 | a :: l=>match f a with
  | some b=>some b
  | none=>firstOf f l
def rangeOf:(n:Nat)->Tm n->Nat->Option (Int × Nat)
 | 0,_,_=>none
 | n+1,t,d =>
  if 8 < t.name.size then some (3,t.place)
  else if 3 < t.parts.length then some (4,t.place)
  else if 12 < d then some (5,t.place)
  else firstOf (fun p=>rangeOf n p (d+1)) t.parts
def fuelOf (s:ByteArray):Nat:=s.size+1
def readOf (s:ByteArray):Option (Snt (fuelOf s)) × Int × Nat :=
 if 200 < s.size then (none,1,0)
 else match sentOf s (fuelOf s) (wordAt s 0) with
  | (none,st)=>(none,2,st.2.1)
  | (some x,_)=>match rangeOf _ x.left 0 with
   | some (k,p)=>(none,k,p)
   | none=>match rangeOf _ x.right 0 with
    | some (k,p)=>(none,k,p)
    | none=>(some x,0,0)
theorem signOf_eq {s:ByteArray} {st:Wd} (h:st.1=4):signOf s st=(some true,wordAt s st.2.2):=by simp [signOf,h]
theorem signOf_ne {s:ByteArray} {st:Wd} (h:st.1=5):signOf s st=(some false,wordAt s st.2.2):=by simp [signOf,h]
theorem signOf_bang {s:ByteArray} {st:Wd} (h:st.1=6):signOf s st=(none,(6,st.2.2,st.2.2)):=by simp [signOf,h]
theorem signOf_no {s:ByteArray} {st:Wd} (h4:st.1 ≠ 4) (h5:st.1 ≠ 5) (h6:st.1 ≠ 6):signOf s st=(none,st):=by simp [signOf,h4,h5,h6]
theorem firstOf_ahead {α β:Type} {f:α->Option β}:∀ {l l':List α},(∀ a ∈ l,f a=none)->firstOf f (l++l')=firstOf f l'
 | [],_,_=>rfl
 | a :: l,l',h=>by
  have h1:=h a (by simp)
  have h2:=firstOf_ahead (l:=l) (l':=l') (fun b hb=>h b (by simp [hb]))
  simp [firstOf,h1,h2]
theorem firstOf_none {α β:Type} {f:α->Option β} {l:List α} (h:∀ a ∈ l,f a=none):firstOf f l=none:=by
 have:=firstOf_ahead (l':=[]) h
 simpa [firstOf] using this
theorem firstOf_mem {α β:Type} {f:α->Option β}:∀ {l:List α} {b:β},firstOf f l=some b->∃ a ∈ l,f a=some b
 | [],_,h=>by simp [firstOf] at h
 | a :: l,b,h=>by
  cases ha:f a with
  | some c=>simp [firstOf,ha] at h; subst h; exact ⟨a,by simp,ha⟩
  | none =>
   simp [firstOf,ha] at h
   obtain ⟨x,hx,hf⟩:=firstOf_mem h
   exact ⟨x,by simp [hx],hf⟩
theorem rangeOf_kind:∀ {n:Nat} {t:Tm n} {d:Nat} {x:Int × Nat},rangeOf n t d=some x->3<=x.1/\x.1<=5
 | 0,_,_,_,h=>by simp [rangeOf] at h
 | n+1,t,d,x,h=>by
  unfold rangeOf at h
  split at h
  ·cases h; simp
  ·split at h
   ·cases h; simp
   ·split at h
    ·cases h; simp
    ·obtain ⟨a,_,ha⟩:=firstOf_mem h
     exact rangeOf_kind ha
def signInt (b:Bool):Int:=if b then 0 else 1
theorem sign_any (s:ByteArray) (r:Nat) (st:Wd) (w:World) (hs:s.size<=200) (hrd:Rd w r s st.1 st.2.1 st.2.2) (hfit:Fit s st) :
  Calls Tryz.prog 152 #[.pointer (some ⟨r,0,none⟩)] w fun e w'=>∃ k:Int,e=.returned (.tuple #[.int .i64 k,.bool (signOf s st).1.isSome]) /\
   Rd w' r s (signOf s st).2.1 (signOf s st).2.2.1 (signOf s st).2.2.2/\Upd [r] w w'/\∀ g,(signOf s st).1=some g->k=signInt g:=by
 have hsz:=hfit.size
 have hrd':=hrd
 obtain ⟨hrlt,h0,h1,h2,h3,hf⟩:=hrd'
 by_cases h4:st.1=4
 ·have h4':(st.1 == 4)=true:=by simp [h4]
  have HE:Hid (signOf s st=(some true,wordAt s st.2.2)):=signOf_eq h4
  clear h4
  go_enter Tryz.func152,Tryz.ntmps152
  go_wp2_with (go_at_call 124; refine (next_any r s _ _ _ _ hrd (by omega) hsz).mono ?_; rintro e w1 ⟨rfl,hrd1,hu1⟩)
  go_ret2
  rw [HE.out]
  exact ⟨_,rfl,hrd1,hu1,fun g hg=>by obtain rfl:=Option.some.inj hg; rfl⟩
 ·have h4':(st.1 == 4)=false:=by simp [h4]
  by_cases h5:st.1=5
  ·have h5':(st.1 == 5)=true:=by simp [h5]
   have HE:Hid (signOf s st=(some false,wordAt s st.2.2)):=signOf_ne h5
   clear h4 h5
   go_enter Tryz.func152,Tryz.ntmps152
   go_wp2_with (go_at_call 124; refine (next_any r s _ _ _ _ hrd (by omega) hsz).mono ?_; rintro e w1 ⟨rfl,hrd1,hu1⟩)
   go_ret2
   rw [HE.out]
   exact ⟨_,rfl,hrd1,hu1,fun g hg=>by obtain rfl:=Option.some.inj hg; rfl⟩
  ·have h5':(st.1 == 5)=false:=by simp [h5]
   by_cases h6:st.1=6
   ·have h6':(st.1 == 6)=true:=by simp [h6]
    have HE:Hid (signOf s st=(none,(6,st.2.2,st.2.2))):=signOf_bang h6
    have hfin:=hrd.set_from (f':=st.2.2) (v:=st.2.2) rfl
    rw [h6] at hfin
    clear h4 h5 h6
    go_enter Tryz.func152,Tryz.ntmps152
    go_wp2
    go_ret2
    rw [HE.out]
    exact ⟨_,rfl,hfin,(Upd.refl _ _).setCell (by simp) _,fun g hg=>by cases hg⟩
   ·have h6':(st.1 == 6)=false:=by simp [h6]
    have HE:Hid (signOf s st=(none,st)):=signOf_no h4 h5 h6
    clear h4 h5 h6
    go_enter Tryz.func152,Tryz.ntmps152
    go_wp2
    go_ret2
    rw [HE.out]
    exact ⟨_,rfl,hrd,Upd.refl _ _,fun g hg=>by cases hg⟩
theorem flat3_get {cs:List V3} {i:Nat} {c:V3} (h:cs[i]?=some c):(flat3 cs)[i * 3]?=some c.1/\(flat3 cs)[i * 3+1]?=some c.2.1/\(flat3 cs)[i * 3+2]?=some c.2.2:=by
 induction cs generalizing i with
 | nil=>simp at h
 | cons d ds ih =>
  cases i with
  | zero=>simp at h; subst h; simp [flat3]
  | succ i =>
   have:=ih (i:=i) (by simpa using h)
   have e:(i+1) * 3=i * 3+1+1+1:=by omega
   rw [e]
   simpa [flat3] using this
theorem row3_cells {w:World} {base e g len cap n:Nat} {cs:List V3} {c:V3} {i:Nat} (h:w.ownsRow base e 3 (.slice (some ⟨g,0,none⟩) len cap) n (flat3 cs)) (hi:cs[i]?=some c) :
  w.cell? ⟨g,i * 3,none⟩=some c.1/\w.cell? ⟨g,i * 3+1,none⟩=some c.2.1/\w.cell? ⟨g,i * 3+2,none⟩=some c.2.2:=by
 obtain ⟨hl,hr⟩:=h
 rcases hr with ⟨hv,_⟩ | ⟨g',cap',cur,hv,_,hg,_,_,hcs,htk⟩
 ·cases hv
 ·cases hv
  have hc:=flat3_get hi
  have key:∀ j u,(flat3 cs)[j]?=some u->w.cell? ⟨g,j,none⟩=some u:=by
   intro j u hu
   rw [cell_of_row w g j cur e (0,0) hg]
   rw [<- htk,List.getElem?_take] at hu
   split at hu
   ·simpa using hu
   ·cases hu
  exact ⟨key _ _ hc.1,key _ _ hc.2.1,key _ _ hc.2.2⟩
theorem AllIs.get {α β:Type} {R:α->β->Prop}:∀ {xs:List α} {ys:List β},AllIs R xs ys->∀ {i:Nat} {y:β},ys[i]?=some y->∃ x,xs[i]?=some x/\R x y
 | [],[],_,_,_,h=>by simp at h
 | x :: _,_ :: _,h,0,y,hy=>by simp at hy; subst hy; exact ⟨x,rfl,h.1⟩
 | _ :: xs,_ :: ys,h,i+1,y,hy=>by
  obtain ⟨x,hx,hr⟩:=AllIs.get h.2 (i:=i) (y:=y) (by simpa using hy)
  exact ⟨x,by simpa using hx,hr⟩
 | [],_ :: _,h,_,_,_=>h.elim
 | _ :: _,[],h,_,_,_=>h.elim
def faultOf (o:Option (Int × Nat)):Int × Nat:=o.getD (0,0)
def RangeOK (n:Nat):Prop:=∀ (w:World) (F:Nat->Prop) (c:V3) (t:Tm n) (d:Nat),IsTm w F n c t->d<=1000 ->
 Calls Tryz.prog 126 #[.agg #[c.1,c.2.1,c.2.2],.int .i64 d] w fun e w'=>e=.returned (.tuple #[.int .i64 (faultOf (rangeOf n t d)).1,.int .i64 (faultOf (rangeOf n t d)).2])/\Below w.heap.size w w'
theorem ownsRow_slice {w:World} {base e size n:Nat} {v:Value} {xs:List Value} (h:w.ownsRow base e size v n xs):(v=.slice none 0 0/\n=0)\/∃ g cap,v=.slice (some ⟨g,0,none⟩) n cap/\n<=cap/\cap<=maxLen:=by
 rcases h.2 with hv | ⟨g,cap,cur,hv,_,_,hc,hm,_⟩
 ·exact .inl hv
 ·exact .inr ⟨g,cap,hv,hc,hm⟩
theorem IsTm.form {w:World} {F:Nat->Prop}:∀ {n:Nat} {c:V3} {t:Tm n},IsTm w F n c t->∃ (a:ByteArray) (p:Int) (g:Option Addr) (l cap:Nat),c=(.string a,.int .i64 p,.slice g l cap)
 | 0,_,_,h=>h.elim
 | _+1,(c0,c1,c2),t,⟨h0,h1,cs,hown,_,_⟩=>by
  simp only at h0 h1 hown
  subst h0 h1
  rcases ownsRow_slice hown with ⟨rfl,_⟩ | ⟨g,cap,rfl,_,_⟩
  ·exact ⟨_,_,_,_,_,rfl⟩
  ·exact ⟨_,_,_,_,_,rfl⟩
theorem range_succ (n:Nat) (hR:RangeOK n):RangeOK (n+1):=by
 rintro w F ⟨c0,c1,c2⟩ t d ⟨h0,h1,cs,hown,hF,hall⟩ hd
 simp only at h0 h1 hown hF
 subst h0 h1
 have hlen:=hall.length
 obtain ⟨g,l,cap,hc2,hl,hlc,hcm,hg⟩:∃ (g:Option Addr) (l cap:Nat),c2=.slice g l cap/\l=t.parts.length/\l<=cap/\cap<=maxLen/\(0 < l->∃ b,g=some ⟨b,0,none⟩):=by
  rcases ownsRow_slice hown with ⟨rfl,hn⟩ | ⟨g,cap,rfl,h2,h3⟩
  ·exact ⟨none,0,0,rfl,hn.symm,Nat.le_refl _,Nat.zero_le _,fun h=>by omega⟩
  ·exact ⟨_,_,cap,rfl,rfl,h2,h3,fun _=>⟨g,rfl⟩⟩
 subst hc2
 by_cases h8:8 < t.name.size
 ·have HE:Hid (rangeOf (n+1) t d=some (3,t.place)):=by show _=_; simp only [rangeOf,if_pos h8]
  have h8':(8:Int) < (t.name.size:Int):=by omega
  clear hl
  go_enter Tryz.func126,Tryz.ntmps126
  go_wp2
  go_quiet (fail)
  go_wp2
  go_ret2
  rw [HE.out]
  exact ⟨rfl,(Below.refl _ _).alloc (Nat.le_refl _) _ |> fun h=>below_drewN h _⟩
 ·have h8':¬ (8:Int) < (t.name.size:Int):=by omega
  by_cases h3:3 < l
  ·have HE:Hid (rangeOf (n+1) t d=some (4,t.place)):=by show _=_; simp only [rangeOf,if_neg h8]; rw [if_pos (by omega)]
   have h3':(3:Int) < (l:Int):=by omega
   clear hl h8
   go_enter Tryz.func126,Tryz.ntmps126
   go_wp2
   go_quiet (fail)
   go_wp2
   go_ret2
   rw [HE.out]
   exact ⟨rfl,(Below.refl _ _).alloc (Nat.le_refl _) _ |> fun h=>below_drewN h _⟩
  ·have h3':¬ (3:Int) < (l:Int):=by omega
   by_cases h12:12 < d
   ·have HE:Hid (rangeOf (n+1) t d=some (5,t.place)):=by show _=_; simp only [rangeOf,if_neg h8]; rw [if_neg (by omega),if_pos h12]
    have h12':(12:Int) < (d:Int):=by omega
    clear hl h8 h3
    go_enter Tryz.func126,Tryz.ntmps126
    go_wp2
    go_quiet (fail)
    go_wp2
    go_ret2
    rw [HE.out]
    exact ⟨rfl,(Below.refl _ _).alloc (Nat.le_refl _) _ |> fun h=>below_drewN h _⟩
   ·have h12':¬ (12:Int) < (d:Int):=by omega
    have HE:Hid (rangeOf (n+1) t d=firstOf (fun p=>rangeOf n p (d+1)) t.parts):=by show _=_; simp only [rangeOf,if_neg h8]; rw [if_neg (by omega),if_neg h12]
    have Hl:Hid (l=t.parts.length):=hl
    have HO:Hid (w.ownsRow 0 98 3 (.slice g l cap) l (flat3 cs)):=by show World.ownsRow _ _ _ _ _ _ _; rw [hl] at hown ⊢; exact hown
    have HA:Hid (AllIs (IsTm w F n) cs t.parts):=hall
    have HF:Hid (∀ k,(Value.slice g l cap).ownBlock=some k->F k):=hF
    have HG:Hid (0 < l->∃ b,g=some ⟨b,0,none⟩):=hg
    clear hl h8 h3 h12 hown hall hF hg hlen
    unfold maxLen at hcm
    go_enter Tryz.func126,Tryz.ntmps126
    go_wp2
    go_loopw [32] (fun i wr=>∃ k:Nat,k<=l/\i=.int .i64 k/\Hid (∀ p ∈ t.parts.take k,rangeOf n p (d+1)=none)/\Below w.heap.size w wr) (fun i _=>l - (intOf i).toNat)
    case atStart=>exact ⟨0,Nat.zero_le _,rfl,fun p hp=>by simp at hp,(Below.refl _ _).alloc (Nat.le_refl _) _⟩
    case round =>
     obtain ⟨k,hk,rfl,HN,hb⟩:=hrel
     by_cases hlt:k < l
     ·obtain ⟨b,rfl⟩:=HG.out (by omega)
      have hkp:k < t.parts.length:=by rw [<- Hl.out]; exact hlt
      obtain ⟨c,hck,hic⟩:=HA.out.get (i:=k) (List.getElem?_eq_getElem hkp)
      have hb0:b < w.heap.size:=ownsRow_lt HO.out rfl
      obtain ⟨k0,k1,k2⟩:=row3_cells HO.out hck
      obtain ⟨a,p,g2,l2,cap2,rfl⟩:=hic.form
      have k0':=(hb.cell (p:=⟨b,k * 3,none⟩) hb0).trans k0
      have k1':=(hb.cell (p:=⟨b,k * 3+1,none⟩) hb0).trans k1
      have k2':=(hb.cell (p:=⟨b,k * 3+2,none⟩) hb0).trans k2
      have hicr:Hid (∀ o,IsTm (wr.alloc o) F n (.string a,.int .i64 p,.slice g2 l2 cap2) t.parts[k]):=fun o=>hic.later ((Upd.of_below (L:=[]) hb).alloc o) (fun _ _=>by simp)
      have hlt':(k:Int) < (l:Int):=by omega
      have hstep:Hid (t.parts.take (k+1)=t.parts.take k++[t.parts[k]]):=List.take_succ_eq_append_getElem hkp
      have hsplit:Hid (t.parts=t.parts.take k++(t.parts[k] :: t.parts.drop (k+1))):=by show _=_; rw [<- List.drop_eq_getElem_cons hkp,List.take_append_drop]
      have hbs:=hb.size
      clear k0 k1 k2 hic hck
      cases hr:rangeOf n t.parts[k] (d+1) with
      | none =>
       have HN':Hid (∀ p ∈ t.parts.take (k+1),rangeOf n p (d+1)=none):=by
        intro p hp
        rw [hstep.out] at hp
        rcases List.mem_append.1 hp with hp | hp
        ·exact HN.out p hp
        ·simp at hp; subst hp; exact hr
       have Hr:Hid (faultOf (rangeOf n t.parts[k] (d+1))=(0,0)):=by show _=_; rw [hr]; rfl
       clear hr
       go_wp2_with (go_at_call 126; refine (hR _ F (.string a,.int .i64 p,.slice g2 l2 cap2) t.parts[k] (d+1) (hicr.out _) (by omega)).mono ?_; rintro e w2 ⟨rfl,hb2⟩; rw [Hr.out])
       exact ⟨⟨k+1,by omega,by go_num,HN',(hb.alloc hbs _).trans (hb2.mono (by simp; omega))⟩,by simp [intOf]; omega⟩
      | some x =>
       obtain ⟨kf,pf⟩:=x
       have hkf:=rangeOf_kind hr
       simp only at hkf
       have hkf':(kf != 0)=true:=by simp; omega
       have HE':Hid (rangeOf (n+1) t d=some (kf,pf)):=by
        show _=_
        rw [HE.out,hsplit.out,firstOf_ahead HN.out]
        simp only [firstOf,hr]
       have Hr:Hid (faultOf (rangeOf n t.parts[k] (d+1))=(kf,pf)):=by show _=_; rw [hr]; rfl
       clear hr
       go_wp2_with (go_at_call 126; refine (hR _ F (.string a,.int .i64 p,.slice g2 l2 cap2) t.parts[k] (d+1) (hicr.out _) (by omega)).mono ?_; rintro e w2 ⟨rfl,hb2⟩; rw [Hr.out])
       go_ret2
       rw [HE'.out]
       exact ⟨rfl,(hb.alloc hbs _).trans (hb2.mono (by simp; omega))⟩
     ·have hge:¬ (k:Int) < (l:Int):=by omega
      have HE':Hid (rangeOf (n+1) t d=none):=HE.out.trans (firstOf_none (fun p hp=>HN.out p (by rw [List.take_of_length_le (by rw [<- Hl.out]; omega)]; exact hp)))
      go_wp2
      go_ret2
      rw [HE'.out]
      exact ⟨rfl,hb⟩
theorem range_ok:∀ n,RangeOK n
 | 0=>fun _ _ _ _ _ h=>h.elim
 | n+1=>range_succ n (range_ok n)
end Go.Proofs.YtmfkpllnmmfpiaaGreatDoor
