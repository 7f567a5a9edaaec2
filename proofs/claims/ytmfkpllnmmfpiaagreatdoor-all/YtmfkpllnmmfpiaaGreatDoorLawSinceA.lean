/- RefLaid, RefClasses, RefClassWalk, LawSince -/
import Derived.Test.YtmfkpllnmmfpiaaGreatDoorRefPosA
import Derived.Test.YtmfkpllnmmfpiaaGreatDoorLawSaidA
import Derived.Sort.Walk0
import Derived.OwnWalk
import Derived.Deep.CutBlock
set_option maxHeartbeats 16000000
set_option maxRecDepth 100000
namespace Go.Proofs.YtmfkpllnmmfpiaaGreatDoor
open Go.RowKit
theorem less_is (a b:ByteArray):Op.bytesLess a.toList b.toList=decide (bLt a b):=by
 rw [bytesLess_eq]
 unfold bLt
 simp [ByteArray.toList_eq]
theorem takeWhile_len {α:Type} {p:α->Bool}:∀ {l:List α} {j:Nat},(∀ q x,q < j->l[q]?=some x->p x=true)->(j=l.length\/∃ x,l[j]?=some x/\p x=false)->l.takeWhile p=l.take j/\l.dropWhile p=l.drop j
 | [],j,_,h=>by
  rcases h with rfl | ⟨x,hx,_⟩
  ·simp
  ·simp at hx
 | a :: l,0,_,h=>by
  rcases h with h | ⟨x,hx,hp⟩
  ·simp at h
  ·simp at hx
   subst hx
   simp [hp]
 | a :: l,j+1,hq,h=>by
  have ha:=hq 0 a (by omega) (by simp)
  obtain ⟨e1,e2⟩:=takeWhile_len (p:=p) (l:=l) (j:=j) (fun q x hlt hx=>hq (q+1) x (by omega) (by simpa using hx)) (by
   rcases h with h | ⟨x,hx,hp⟩
   ·left; simpa using h
   ·right; exact ⟨x,by simpa using hx,hp⟩)
  simp [ha,e1,e2]
theorem laidR_at {l:List ByteArray} {s:ByteArray} {j:Nat} (h1:∀ q x,q < j->l[q]?=some x->bLt x s) (h2:j=l.length\/∃ x,l[j]?=some x/\¬ bLt x s):laidR l s=l.take j++s :: l.drop j:=by
 obtain ⟨e1,e2⟩:=takeWhile_len (p:=fun x=>decide (bLt x s)) (l:=l) (j:=j) (fun q x hq hx=>by simpa using h1 q x hq hx) (h2.imp id fun ⟨x,hx,hp⟩=>⟨x,hx,by simpa using hp⟩)
 unfold laidR
 rw [e1,e2]
theorem append_emptyS (a:Option Addr) (cap:Nat) (ty:TypeId) (W:World):(Builtin.append_ #[50,50] ty #[.slice none 0 0,.slice a 0 cap]).run Tryz.prog W=.ok (.slice none 0 0) W:=by
 obtain ⟨i0,hi,hz0,hz1,hz2⟩:=info_parts info_str
 cases a with
 | none=>simp [Builtin.append_,run_underlying Tryz.underlying50,sizeOf,typeInfo,hi,Builtin.lenOf,Builtin.firstCells]
 | some a=>simp [Builtin.append_,run_underlying Tryz.underlying50,sizeOf,typeInfo,hi,Builtin.lenOf,Builtin.firstCells,loadCells,loadCellsFrom]
theorem wpList_append_emptyS {w:World} {ops:Array Oper} {rest:List Oper} {o:Oper} {a:Act} {Q:Exit->Act->World->Prop} (hgd:o.guard=none) (s x:Operand)
  (ho:o.op=.call { callee:=.builtin .append,args:=#[s,x],argTypes:=#[50,50] }) (ad:Option Addr) (cap:Nat)
  (hs:a.eval s=.slice none 0 0) (hx:a.eval x=.slice ad 0 cap)
  (h:wpList Tryz.prog ops Q rest (a.put o.dst (.slice none 0 0)) w):wpList Tryz.prog ops Q (o :: rest) a w:=by
 refine wpList_plain hgd fun K hK=>?_
 have hrun:=append_emptyS ad cap o.type w
 unfold Oper.wp
 simp [execOp,ho,resolve,invoke,builtin,hs,hx,hrun,Result.andThen]
 exact hK _ _ h
theorem strRow_form2 {w:World} {base:Nat} {v:Value} {l:List ByteArray} (h:StrRow w base v l):∃ a cap,v=.slice a l.length cap/\l.length<=cap/\cap<=maxLen/\(a=none->cap=0)/\(0 < l.length->∃ g,a=some ⟨g,0,none⟩/\g < w.heap.size/\∀ (i:Nat) (t:ByteArray),l[i]?=some t->w.cell? ⟨g,i,none⟩=some (.string t)):=by
 rcases ownsRow_slice h with ⟨h1,h2⟩ | ⟨g,cap,h1,h2,h3⟩
 ·rw [h2]
  exact ⟨none,0,h1,Nat.le_refl _,by simp [maxLen],fun _=>rfl,fun h=>absurd h (Nat.lt_irrefl _)⟩
 ·subst h1
  refine ⟨_,cap,rfl,h2,h3,fun e=>(by cases e),fun _=>⟨g,rfl,ownsRow_lt h rfl,fun i t ht=>?_⟩⟩
  have hi:=(List.getElem?_eq_some_iff.1 ht).1
  have:=h.cellAt i (by omega)
  rw [this]
  simp [ht]
theorem refLaid_any (w:World) (B:Nat) (v:Value) (l:List ByteArray) (s:ByteArray) (h:StrRow w B v l) (hl:l.length<=100000) :
  Calls Tryz.prog 102 #[v,.string s] w fun e w'=>∃ v',e=.returned v'/\Upd [] w w'/\StrRow w' w.heap.size v' (laidR l s):=by
 obtain ⟨i0,hi,hz0,hz1,hz2⟩:=info_parts info_str
 obtain ⟨a,cap,hv,hc1,hc2,hnil,hform⟩:=strRow_form2 h
 have Hnil:=hide hnil
 subst hv
 obtain ⟨n,hn⟩:∃ n,l.length=n:=⟨_,rfl⟩
 rw [hn] at hc1 hform hl ⊢
 have Hn:=hide hn
 have Hform:=hide hform
 unfold maxLen at hc2
 clear h hn hform hnil
 go_enter Tryz.func102,Tryz.ntmps102
 go_upto_block 0 with fail
 go_cut [5] (fun p wx=>∃ j:Nat,j<=n/\p=.int .i64 j/\wx=w/\Hid (laidR l s=l.take j++s :: l.drop j))
 case first =>
  go_wp2_with fail
  go_loopw [5] (fun i wr=>∃ j:Nat,j<=n/\i=.int .i64 j/\wr=w/\Hid (∀ q x,q < j->l[q]?=some x->bLt x s)) (fun i _=>n - (intOf i).toNat)
  case atStart=>exact ⟨0,Nat.zero_le _,rfl,rfl,fun q x hq=>by omega⟩
  case round =>
   obtain ⟨j,hj,rfl,rfl,HJ⟩:=hrel
   by_cases hjn:j < n
   ·have hjI:(j:Int) < (n:Int):=by omega
    obtain ⟨x,hx⟩:∃ x,l[j]?=some x:=⟨_,List.getElem?_eq_getElem (by rw [Hn.out]; exact hjn)⟩
    obtain ⟨g,rfl,_,hg3⟩:=Hform.out (by omega)
    have q0:=hg3 j x hx
    have hls:=less_is x s
    by_cases hb:bLt x s
    ·have hls2:Op.bytesLess x.toList s.toList=true:=by rw [hls]; simpa using hb
     have HN:Hid (∀ q y,q < j+1->l[q]?=some y->bLt y s):=fun q y hq hy=>by
      by_cases e:q < j
      ·exact HJ.out q y e hy
      ·obtain rfl:q=j:=by omega
       rw [hx] at hy
       obtain rfl:=Option.some.inj hy
       exact hb
     clear hls hg3 hx hb
     go_wp2
     refine ⟨⟨j+1,by omega,by simp,trivial,HN⟩,?_⟩
     simp [intOf]
     omega
    ·have hls2:Op.bytesLess x.toList s.toList=false:=by rw [hls]; simpa using hb
     have HL:Hid (laidR l s=l.take j++s :: l.drop j):=laidR_at HJ.out (.inr ⟨x,hx,hb⟩)
     clear hls hg3 hx hb
     go_wp2_with fail
     go_meet
     case rel=>exact ⟨j,by omega,rfl,rfl,HL.out⟩
   ·have hjI:¬ (j:Int) < (n:Int):=by omega
    have HL:Hid (laidR l s=l.take j++s :: l.drop j):=laidR_at HJ.out (.inl (by rw [Hn.out]; omega))
    go_wp2_with fail
    go_meet
    case rel=>exact ⟨j,by omega,rfl,rfl,HL.out⟩
 case rest =>
  obtain ⟨j,hj,rfl,hwc,HL⟩:=hcut
  rw [hwc]
  clear hwc wc
  have hjl:(l.take j).length=j:=by rw [List.length_take,Hn.out]; omega
  have Hjl:=hide hjl
  clear hjl
  go_upto_region 5 with fail
  go_cut [6] (fun mv wx=>Hid (StrRow wx w.heap.size mv (l.take j)/\Upd [] w wx))
  case first =>
   by_cases hj0:j=0
   ·subst hj0
    go_wp2_with (at_builtin; refine wpList_append_emptyS rfl _ _ rfl _ _ rfl rfl ?_)
    go_meet
    case rel=>exact ⟨⟨rfl,.inl ⟨rfl,rfl⟩⟩,Upd.refl _ _⟩
   ·have hpos:0 < j:=by omega
    obtain ⟨g0,rfl,hg1,hg3⟩:=Hform.out (by omega)
    have hnews0:Hid (∀ q u,((l.take j).map Value.string)[q]?=some u->w.cell? ((⟨g0,0,none⟩:Addr).add q)=some u):=fun q u hu=>by
     rw [List.getElem?_map] at hu
     obtain ⟨c,hc,rfl⟩:=Option.map_eq_some_iff.1 hu
     have hqj:q < j:=by have:=(List.getElem?_eq_some_iff.1 hc).1; rw [Hjl.out] at this; exact this
     rw [List.getElem?_take_of_lt hqj] at hc
     have:=hg3 q c hc
     cases q <;> simpa [Addr.add] using this
    have hone0:Hid (∀ u ∈ (l.take j).map Value.string,u.oneCell'=true):=fun u hu=>by
     obtain ⟨c,_,rfl⟩:=List.mem_map.1 hu
     rfl
    have hlen0:Hid (((l.take j).map Value.string).length=j * 1):=by show _=_; rw [List.length_map,Hjl.out]; omega
    have Hrow0:Hid (w.ownsRow w.heap.size 9 1 (.slice none 0 0) 0 []):=⟨rfl,.inl ⟨rfl,rfl⟩⟩
    have hlm0:0+j<=maxLen:=by unfold maxLen; omega
    have hlb0:(0+j) * 16<=140737488355328:=by omega
    have hcap0:¬ cap=0:=by omega
    clear hg3 hg1
    go_wp2_with (at_builtin; go_must (refine wpList_append_lies _ rfl _ _ 50 rfl w.heap.size 9 i0 (.string ⟨#[]⟩) 1 16 Tryz.underlying50 hi hz0 hz1 hz2 rfl (by decide) _ _ _ rfl Hrow0.out ⟨g0,0,none⟩ j cap ((l.take j).map Value.string) rfl hlen0.out hnews0.out hone0.out hpos hlm0 hlb0 (Nat.le_refl _) _ rfl ?_); intro g1 cap1 w1 hown1 hgrow1 hat1 hlt1)
    go_meet
    case rel =>
     refine ⟨?_,Upd.of_grown hgrow1⟩
     unfold StrRow
     rw [Hjl.out]
     simpa using hown1
  case rest =>
   obtain ⟨hown,hU⟩:=hcut.out
   have hs3:=hU.size
   have hrw:=((Upd.refl [] wc).alloc (.cells #[.string s] 9)).ownsRow hown (fun _ _=>by simp)
   rw [Hjl.out] at hrw
   have Hrw:=hide hrw
   have Hnews:Hid (∀ q u,[Value.string s][q]?=some u->(wc.alloc (.cells #[.string s] 9)).cell? ((⟨wc.heap.size,0,none⟩:Addr).add q)=some u):=World.news_of_block (heap_alloc_new _ _)
   have hone:Hid (∀ u ∈ [Value.string s],u.oneCell'=true):=(fun u hu'=>by simp at hu'; subst hu'; rfl)
   have Hfin:Hid (∀ g cp w3,(wc.alloc (.cells #[.string s] 9)).grownBy w3 u6.ownBlock->w3.ownsRow w.heap.size 9 1 (.slice (some ⟨g,0,none⟩) (j+1) cp) (j+1) ((l.take j).map Value.string++[.string s])->Upd [] w w3/\w3.ownsRow w.heap.size 9 1 (.slice (some ⟨g,0,none⟩) (j+1) cp) (j+1) ((l.take j++[s]).map Value.string)):=fun g cp w3 hg ho=>by
    refine ⟨(hU.alloc _).trans' (Upd.of_grown hg) (fun k hk hl=>?_),by simpa using ho⟩
    have:=own_geT hown (show u6.ownBlock=some k by simpa using hk)
    omega
   have hlm:j+1<=maxLen:=by unfold maxLen; omega
   have hlb:(j+1) * 16<=140737488355328:=by omega
   clear hcut hrw hU hown
   go_upto_region 7 with (at_builtin; go_must (refine wpList_append_lies _ rfl _ _ 50 rfl w.heap.size 9 i0 (.string ⟨#[]⟩) 1 16 Tryz.underlying50 hi hz0 hz1 hz2 rfl (by decide) _ _ _ rfl Hrw.out ⟨wc.heap.size,0,none⟩ 1 1 [.string s] rfl rfl Hnews.out hone.out (by decide) hlm hlb (by simp; omega) _ rfl ?_); intro g3 cap3 w3 hown3 hgrow3 hat3 hlt3)
   obtain ⟨hu3,ho3⟩:=Hfin.out g3 cap3 w3 hgrow3 hown3
   have Hu3:=hide hu3
   have Ho3:=hide ho3
   have hk3:j+1<=cap3:=by
    rcases ownsRow_slice ho3 with ⟨x,_⟩ | ⟨_,_,x,y,_⟩
    ·cases x
    ·cases x; exact y
   clear hu3 ho3 hown3 hgrow3 hat3 hlt3 Hfin Hrw Hnews hone
   by_cases hjn:j < n
   ·obtain ⟨g0,rfl,hg1,hg3⟩:=Hform.out (by omega)
    have hdl:(l.drop j).length=n - j:=by rw [List.length_drop,Hn.out]
    have hnews0:Hid (∀ q u,((l.drop j).map Value.string)[q]?=some u->w3.cell? ((⟨g0,j,none⟩:Addr).add q)=some u):=fun q u hu=>by
     rw [List.getElem?_map] at hu
     obtain ⟨c,hc,rfl⟩:=Option.map_eq_some_iff.1 hu
     rw [List.getElem?_drop] at hc
     have:=(Hu3.out.cell (p:=⟨g0,j+q,none⟩) hg1 (by simp)).trans (hg3 (j+q) c hc)
     cases q <;> simpa [Addr.add] using this
    have hone0:Hid (∀ u ∈ (l.drop j).map Value.string,u.oneCell'=true):=fun u hu=>by
     obtain ⟨c,_,rfl⟩:=List.mem_map.1 hu
     rfl
    have hlen0:Hid (((l.drop j).map Value.string).length=(n - j) * 1):=by show _=_; rw [List.length_map,hdl]; omega
    have hlm0:j+1+(n - j)<=maxLen:=by unfold maxLen; omega
    have hlb0:(j+1+(n - j)) * 16<=140737488355328:=by omega
    have hcj:¬ cap=j:=by omega
    have hpos:0 < n - j:=by omega
    have hs03:=Hu3.out.size
    have hjI:(j:Int)<=(n:Int):=by omega
    have HR:Hid (∀ g cp w4,w3.grownBy w4 (some g3)->w4.ownsRow w.heap.size 9 1 (.slice (some ⟨g,0,none⟩) (j+1+(n - j)) cp) (j+1+(n - j)) ((l.take j++[s]).map Value.string++(l.drop j).map Value.string)->Upd [] w w4/\StrRow w4 w.heap.size (.slice (some ⟨g,0,none⟩) (j+1+(n - j)) cp) (laidR l s)):=fun g cp w4 hg ho=>by
     refine ⟨Hu3.out.trans' (Upd.of_grown hg) (fun k hk hl=>?_),?_⟩
     ·have:=own_geT Ho3.out (show (Value.slice (some ⟨g3,0,none⟩) (j+1) cap3).ownBlock=some k by simp at hk; rw [hk]; rfl)
      omega
     ·unfold StrRow
      rw [HL.out,List.length_append,List.length_cons,hdl,Hjl.out]
      have e:j+(n - j+1)=j+1+(n - j):=by omega
      rw [e]
      simpa using ho
    clear hg3 hg1 hdl
    go_wp2_with (at_builtin; go_must (refine wpList_append_lies _ rfl _ _ 50 rfl w.heap.size 9 i0 (.string ⟨#[]⟩) 1 16 Tryz.underlying50 hi hz0 hz1 hz2 rfl (by decide) _ _ _ rfl Ho3.out ⟨g0,j,none⟩ (n - j) (cap - j) ((l.drop j).map Value.string) rfl hlen0.out hnews0.out hone0.out hpos hlm0 hlb0 (by omega) _ rfl ?_); intro g4 cap4 w4 hown4 hgrow4 hat4 hlt4)
    go_ret
    obtain ⟨r1,r2⟩:=HR.out g4 cap4 w4 hgrow4 hown4
    exact ⟨_,rfl,r1,r2⟩
   ·have hjn2:j=n:=by omega
    have hdl:l.drop j=[]:=List.drop_eq_nil_of_le (by rw [Hn.out]; omega)
    have HR:Hid (∀ w4,w3.grownBy w4 (some g3)->w4.ownsRow w.heap.size 9 1 (.slice (some ⟨g3,0,none⟩) (j+1+0) cap3) (j+1+0) ((l.take j++[s]).map Value.string++[])->Upd [] w w4/\StrRow w4 w.heap.size (.slice (some ⟨g3,0,none⟩) (j+1) cap3) (laidR l s)):=fun w4 hg ho=>by
     refine ⟨Hu3.out.trans' (Upd.of_grown hg) (fun k hk hl=>?_),?_⟩
     ·have h1:=Hu3.out.size
      have:=own_geT Ho3.out (show (Value.slice (some ⟨g3,0,none⟩) (j+1) cap3).ownBlock=some k by simp at hk; rw [hk]; rfl)
      omega
     ·unfold StrRow
      rw [HL.out,hdl,List.length_append,List.length_singleton,Hjl.out]
      simpa using ho
    have HnA:Hid (a=none->0=0/\cap - j=0):=fun e=>by have:=Hnil.out e; omega
    have HnB:Hid (a.map (fun x=>x.add j)=none->0=0/\cap - j=0):=fun e=>by have:=Hnil.out (by simpa using e); omega
    subst hjn2
    clear hdl hjn
    by_cases hcj:cap=j
    ·go_wp2_with (at_builtin; go_must (refine wpList_append_fits_any _ rfl _ _ 50 rfl w.heap.size 9 i0 1 Tryz.underlying50 hi hz1 g3 (j+1) cap3 ((l.take j++[s]).map Value.string) rfl Ho3.out _ 0 _ [] rfl rfl (by first | exact HnA.out | (rw [<- hcj]; simp) | simp) (fun _ _ q u hu=>by simp at hu) (fun u hu=>by cases hu) hk3 ?_); intro w4 hown4 hgrow4)
     go_ret
     obtain ⟨r1,r2⟩:=HR.out w4 hgrow4 hown4
     exact ⟨_,rfl,r1,r2⟩
    ·go_wp2_with (at_builtin; go_must (refine wpList_append_fits_any _ rfl _ _ 50 rfl w.heap.size 9 i0 1 Tryz.underlying50 hi hz1 g3 (j+1) cap3 ((l.take j++[s]).map Value.string) rfl Ho3.out _ 0 _ [] rfl rfl HnB.out (fun _ _ q u hu=>by simp at hu) (fun u hu=>by cases hu) hk3 ?_); intro w4 hown4 hgrow4)
     go_ret
     obtain ⟨r1,r2⟩:=HR.out w4 hgrow4 hown4
     exact ⟨_,rfl,r1,r2⟩
structure LRead (w:World) (B:Nat) (v:Value) (rs:List Value) (ls:List (List ByteArray)):Prop where
 row:w.ownsRow B 50 1 v ls.length rs
 len:rs.length=ls.length
 all:∀ (p:Nat) (r:Value) (l:List ByteArray),rs[p]?=some r->ls[p]?=some l->StrRow w B r l
 out:∀ (p:Nat) (r:Value),rs[p]?=some r->∀ k,r.ownBlock=some k->v.ownBlock ≠ some k
theorem LRead.empty (w:World) (B:Nat):LRead w B (.slice none 0 0) [] []:=⟨⟨rfl,.inl ⟨rfl,rfl⟩⟩,rfl,fun p r l h=>by simp at h,fun p r h=>by simp at h⟩
theorem LRead.later {w w':World} {B:Nat} {v:Value} {rs:List Value} {ls:List (List ByteArray)} (h:LRead w B v rs ls) (hu:Upd [] w w'):LRead w' B v rs ls :=
 ⟨hu.ownsRow h.row (fun _ _=>by simp),h.len,fun p r l hr hl=>hu.ownsRow (h.all p r l hr hl) (fun _ _=>by simp),h.out⟩
theorem LRead.snoc {w w2 w3:World} {B B2 g cap:Nat} {v r:Value} {rs:List Value} {ls:List (List ByteArray)} {l:List ByteArray} (h:LRead w B v rs ls) (hl:StrRow w B2 r l) (hB:B<=B2) (hr:∀ k,r.ownBlock=some k->v.ownBlock ≠ some k) (hu:Upd [] w w2) (hg:w2.grownBy w3 v.ownBlock) (hat:v.ownBlock=some g\/g=w2.heap.size)
  (hown:w3.ownsRow B 50 1 (.slice (some ⟨g,0,none⟩) (ls.length+1) cap) (ls.length+1) (rs++[r])):LRead w3 B (.slice (some ⟨g,0,none⟩) (ls.length+1) cap) (rs++[r]) (ls++[l]):=by
 have U:Upd v.ownBlock.toList w w3:=(hu.mono (fun x hx _=>by cases hx)).trans (Upd.of_grown hg)
 have hs:=hu.size
 have hl2:StrRow w B r l:=ownsRow_base hl fun k hk=>Nat.le_trans hB (own_geT hl hk)
 have key:∀ (p:Nat) (r':Value) (l':List ByteArray),(rs++[r])[p]?=some r'->(ls++[l])[p]?=some l'->StrRow w B r' l'/\∀ k,r'.ownBlock=some k->v.ownBlock ≠ some k:=fun p r' l' h1 h2=>by
  by_cases hp:p < ls.length
  ·rw [List.getElem?_append_left (by rw [h.len]; exact hp)] at h1
   rw [List.getElem?_append_left hp] at h2
   exact ⟨h.all p r' l' h1 h2,h.out p r' h1⟩
  ·have hp2:p=ls.length:=by
    have:=(List.getElem?_eq_some_iff.1 h2).1
    simp at this
    omega
   subst hp2
   rw [<- h.len,List.getElem?_concat_length] at h1
   rw [List.getElem?_concat_length] at h2
   obtain rfl:=Option.some.inj h1
   obtain rfl:=Option.some.inj h2
   exact ⟨hl2,hr⟩
 refine ⟨by simpa using hown,by simp [h.len],fun p r' l' h1 h2=>?_,fun p r' h1 k hk e=>?_⟩
 ·obtain ⟨a,b⟩:=key p r' l' h1 h2
  exact U.ownsRow a (fun k hk hm=>b k hk (by simpa using hm))
 ·have hpl:p < (ls++[l]).length:=by
   have:=(List.getElem?_eq_some_iff.1 h1).1
   simp [h.len] at this ⊢
   exact this
  obtain ⟨a,b⟩:=key p r' _ h1 (List.getElem?_eq_getElem hpl)
  simp only [own_slice,Option.some.injEq] at e
  subst e
  rcases hat with hat | hat
  ·exact b g hk hat
  ·have:=ownsRow_lt a hk
   omega
theorem RWB.reader {w0 w:World} {wb:Nat} {l:List Trm} {cl:List Nat} (h:RWB w0 w wb l cl) (hcl:cl.length=l.length):∃ av capv au capu,w.cell? ⟨wb,0,none⟩=some (.slice av l.length capv)/\w.cell? ⟨wb,1,none⟩=some (.slice au l.length capu)/\l.length<=capv/\capv<=maxLen/\l.length<=capu/\capu<=maxLen/\wb < w.heap.size /\
  (0 < l.length->∃ gv gu,av=some ⟨gv,0,none⟩/\au=some ⟨gu,0,none⟩/\gv < w.heap.size/\gu < w.heap.size/\∀ (i:Nat) (t:Trm),l[i]?=some t->∃ tb,tb < w.heap.size/\w.cell? ⟨gv,i,none⟩=some (.pointer (some ⟨tb,0,none⟩))/\w.cell? ⟨gu,i,none⟩=some (.int .i64 (clsAt cl i))/\w.cell? ⟨tb,2,none⟩=some (.string t.text)):=by
 by_cases hp:0 < l.length
 ·obtain ⟨gv,capv,gu,capu,cw,hw,a1,a2,b1,b2⟩:=h.at hp hcl
  refine ⟨_,capv,_,capu,hw.c0,hw.c1,a1,a2,b1,b2,hw.lt,fun _=>⟨gv,gu,rfl,rfl,ownsRow_lt hw.rowL rfl,ownsRow_lt hw.rowC rfl,fun i t ht=>?_⟩⟩
  have hi:=(List.getElem?_eq_some_iff.1 ht).1
  obtain ⟨tb,htb⟩:∃ tb,cw[i]?=some tb:=⟨_,List.getElem?_eq_getElem (by rw [hw.len]; exact hi)⟩
  have hk:=hw.kids i tb t htb ht
  refine ⟨tb,hk.lt,?_,hw.class_at (by rw [hcl]; exact hi) hcl.symm,hk.text⟩
  rw [hw.rowL.cellAt i (by omega)]
  simp [ptrs,htb]
 ·have h0:l.length=0:=by omega
  obtain ⟨_,v,u,cs,hw⟩:=h
  obtain ⟨av,capv,hv⟩:=slice_len hw.rowL
  obtain ⟨au,capu,hu⟩:=slice_len hw.rowC
  have e1:=hw.c0
  have e2:=hw.c1
  rw [hv] at e1
  rw [hu,hcl] at e2
  refine ⟨av,capv,au,capu,e1,e2,by omega,?_,by omega,?_,hw.lt,fun hh=>absurd hh hp⟩
  ·rcases ownsRow_slice hw.rowL with ⟨x,_⟩ | ⟨_,_,x,_,y⟩
   ·rw [hv] at x; simp only [Value.slice.injEq] at x; rw [x.2.2]; simp [maxLen]
   ·rw [hv] at x; simp only [Value.slice.injEq] at x; rw [x.2.2]; exact y
  ·rcases ownsRow_slice hw.rowC with ⟨x,_⟩ | ⟨_,_,x,_,y⟩
   ·rw [hu] at x; simp only [Value.slice.injEq] at x; rw [x.2.2]; simp [maxLen]
   ·rw [hu] at x; simp only [Value.slice.injEq] at x; rw [x.2.2]; exact y
theorem minTo_succ (T:Nat->ByteArray) (C:Nat->Nat) (i k:Nat):minTo T C i (k+1)=if C k=C i/\bLt (T k) (minTo T C i k) then T k else minTo T C i k:=rfl
theorem firstsTo_succ (T:Nat->ByteArray) (C:Nat->Nat) (n i:Nat):firstsTo T C n (i+1)=if minTo T C i n=T i then laidR (firstsTo T C n i) (minTo T C i n) else firstsTo T C n i:=rfl
theorem classTo_succ (T:Nat->ByteArray) (C:Nat->Nat) (c k:Nat):classTo T C c (k+1)=if C k=c then laidR (classTo T C c k) (T k) else classTo T C c k:=rfl
theorem laidR_len (l:List ByteArray) (s:ByteArray):(laidR l s).length=l.length+1:=by
 unfold laidR
 have:=congrArg List.length (List.takeWhile_append_dropWhile (p:=fun x=>decide (bLt x s)) (l:=l))
 rw [List.length_append] at this
 simp only [List.length_append,List.length_cons]
 omega
theorem firstsTo_len (T:Nat->ByteArray) (C:Nat->Nat) (n:Nat):∀ i,(firstsTo T C n i).length<=i
 | 0=>Nat.le_refl _
 | i+1=>by
  have:=firstsTo_len T C n i
  rw [firstsTo_succ]
  split
  ·rw [laidR_len]; omega
  ·omega
theorem classTo_len (T:Nat->ByteArray) (C:Nat->Nat) (c:Nat):∀ i,(classTo T C c i).length<=i
 | 0=>Nat.le_refl _
 | i+1=>by
  have:=classTo_len T C c i
  rw [classTo_succ]
  split
  ·rw [laidR_len]; omega
  ·omega
theorem StrRow.base {w:World} {B B':Nat} {v:Value} {l:List ByteArray} (h:StrRow w B v l) (hb:B'<=B):StrRow w B' v l:=ownsRow_base h fun _ hk=>Nat.le_trans hb (own_geT h hk)
theorem StrRow.later {w w':World} {B:Nat} {v:Value} {l:List ByteArray} (h:StrRow w B v l) (hu:Upd [] w w'):StrRow w' B v l:=hu.ownsRow h (fun _ _=>by simp)
theorem drawnR_len {L:List ST} (hok:∀ s ∈ L,STOK s):(drawnR L).length=(termsR L).length:=by
 obtain ⟨hT,hk⟩:=termsR_ok hok
 have:=(loopR_end (L:=L) hT (fun t ht=>(hk t).1 ht) ((termsR L).length+1) (eqsTo L L.length) (eqsTo_ok hok) (by have:=kinds_le (termsR L).length (eqsTo L L.length); omega)).1.len
 unfold eqsTo at this
 rw [List.take_of_length_le (Nat.le_refl _)] at this
 exact this
theorem RWB.later {w0 w w':World} {wb:Nat} {l:List Trm} {cl:List Nat} (h:RWB w0 w wb l cl) (hu:Upd [] w w'):RWB w0 w' wb l cl:=by
 obtain ⟨h0,v,u,cs,hw⟩:=h
 exact ⟨h0.trans hu,v,u,cs,hw.later hu (fun _ _=>by simp) (by simp) (fun _ _=>by simp) (fun _ _=>by simp)⟩
theorem refClasses_any (w0:World) (rb:Nat) (Z:Nat->Prop) (L:List ST) (M:List Nat) (h:RBAt w0 rb Z L M) (hok:∀ x ∈ L,STOK x) (hsm:SmallL L) (hL:L.length<=40) :
  Calls Tryz.prog 65 #[.pointer (some ⟨rb,0,none⟩)] w0 fun e w'=>∃ v rs,e=.returned v/\Upd [] w0 w'/\LRead w' w0.heap.size v rs (classesR L):=by
 obtain ⟨i0,hi,hz0,hz1,hz2⟩:=info_parts info_strs
 obtain ⟨sv,cs,c0,hrow⟩:=h.said
 have HD:=hide (refDrawn_any w0 L sv cs (hrow.mono fun k _ hl=>hl) hok (fun s hs=>by have:=hsm s hs; omega) (by omega))
 have hlen:=termsR_len L (fun s hs=>by have:=hsm s hs; omega)
 have hdl:=drawnR_len hok
 obtain ⟨hT,_⟩:=termsR_ok hok
 obtain ⟨ts,hts⟩:∃ ts,termsR L=ts:=⟨_,rfl⟩
 obtain ⟨D,hD⟩:∃ D,drawnR L=D:=⟨_,rfl⟩
 have HCR:Hid (classesR L=(firstsTo (textAt ts) (clsAt D) ts.length ts.length).map fun f=>classTo (textAt ts) (clsAt D) (clsAt D ((idxT f ts).getD 0)) ts.length):=by show _=_; unfold classesR; rw [hts,hD]
 rw [hts] at HD hlen hdl hT
 rw [hD] at HD hdl
 obtain ⟨N,hN⟩:∃ N,ts.length=N:=⟨_,rfl⟩
 have HTx:Hid (∀ (i:Nat) (t:Trm),ts[i]?=some t->textAt ts i=t.text):=fun i t e=>by unfold textAt; rw [e]
 have HTi:Hid (∀ i j,i < N->j < N->textAt ts i=textAt ts j->i=j):=fun i j hi' hj' e=>by
  obtain ⟨t,ht⟩:∃ t,ts[i]?=some t:=⟨_,List.getElem?_eq_getElem (by rw [hN]; exact hi')⟩
  obtain ⟨u,hu⟩:∃ u,ts[j]?=some u:=⟨_,List.getElem?_eq_getElem (by rw [hN]; exact hj')⟩
  rw [HTx.out i t ht,HTx.out j u hu] at e
  have:=text_inj (hT.ok t (List.mem_of_getElem? ht)) (hT.ok u (List.mem_of_getElem? hu)) e
  subst this
  exact nodup_at hT.nodup ht hu
 have HIx:Hid (∀ f ∈ firstsTo (textAt ts) (clsAt D) N N,∃ i,i < N/\idxT f ts=some i):=fun f hf=>by
  obtain ⟨j,a,b,_⟩:=((firstsTo_is (C:=clsAt D) HTi.out N (Nat.le_refl _)).2 f).1 hf
  obtain ⟨t,ht⟩:∃ t,ts[j]?=some t:=⟨_,List.getElem?_eq_getElem (by rw [hN]; exact a)⟩
  exact ⟨j,a,by rw [b,HTx.out j t ht]; exact (hT.idx (hT.ok t (List.mem_of_getElem? ht))).2 ht⟩
 have HN:=hide hN
 rw [hN] at HCR hlen
 have Hdl:=hide hdl
 have hrlt:=h.lt
 clear h hrow hts hD hT hok hsm hN hdl
 go_enter Tryz.func65,Tryz.ntmps65
 go_wp2_with (go_at_call 76; refine HD.out.mono ?_; rintro e w2 ⟨wb,rfl,h2⟩; have H2:=hide h2; clear h2)
 obtain ⟨av,capv,au,capu,k0,k1,a1,a2,b1,b2,hwb,hrd⟩:=H2.out.reader Hdl.out
 rw [HN.out] at k0 k1 a1 b1 hrd
 have HK0:=hide k0
 have HK1:=hide k1
 have HRd:=hide hrd
 unfold maxLen at a2 b2
 clear c0 HD k0 k1 hrd
 go_loopw [4,5] (fun fv i wr=>∃ j:Nat,j<=N/\i=.int .i64 j/\Hid (Upd [] w2 wr/\StrRow wr w2.heap.size fv (firstsTo (textAt ts) (clsAt D) N j))) (fun _ i _=>N - (intOf i).toNat)
 case atStart=>exact ⟨0,Nat.zero_le _,rfl,Upd.refl _ _,⟨rfl,.inl ⟨rfl,rfl⟩⟩⟩
 case round =>
  obtain ⟨w3,hw3⟩:∃ w3,w3=wr:=⟨_,rfl⟩
  rw [<- hw3] at hrel ⊢
  clear hw3
  obtain ⟨j,hj,rfl,HJ⟩:=hrel
  have e0:=(HJ.out.1.cell (p:=⟨wb,0,none⟩) hwb (by simp)).trans HK0.out
  by_cases hjn:j < N
  ·have hjI:(j:Int) < (N:Int):=by omega
   obtain ⟨gv,gu,rfl,rfl,gl1,gl2,hcell⟩:=HRd.out (by omega)
   obtain ⟨t,ht⟩:∃ t,ts[j]?=some t:=⟨_,List.getElem?_eq_getElem (by rw [HN.out]; exact hjn)⟩
   obtain ⟨tb,tl,y1,y2,y3⟩:=hcell j t ht
   have e1:=(HJ.out.1.cell (p:=⟨wb,1,none⟩) hwb (by simp)).trans HK1.out
   have e2:=(HJ.out.1.cell (p:=⟨gv,j,none⟩) gl1 (by simp)).trans y1
   have e3:=(HJ.out.1.cell (p:=⟨gu,j,none⟩) gl2 (by simp)).trans y2
   have e4:=(HJ.out.1.cell (p:=⟨tb,2,none⟩) tl (by simp)).trans y3
   rw [<- HTx.out j t ht] at e4
   obtain ⟨Tj,hTj⟩:∃ Tj,textAt ts j=Tj:=⟨_,rfl⟩
   obtain ⟨Cj,hCj⟩:∃ Cj,clsAt D j=Cj:=⟨_,rfl⟩
   rw [hTj] at e4
   rw [hCj] at e3
   have HTj:=hide hTj
   have HCj:=hide hCj
   have Hcell:Hid (∀ q,q < N->∃ ub,w3.cell? ⟨gv,q,none⟩=some (.pointer (some ⟨ub,0,none⟩))/\w3.cell? ⟨gu,q,none⟩=some (.int .i64 (clsAt D q))/\w3.cell? ⟨ub,2,none⟩=some (.string (textAt ts q))):=fun q hq=>by
    obtain ⟨u,hu⟩:∃ u,ts[q]?=some u:=⟨_,List.getElem?_eq_getElem (by rw [HN.out]; exact hq)⟩
    obtain ⟨ub,ul,x1,x2,x3⟩:=hcell q u hu
    refine ⟨ub,(HJ.out.1.cell (p:=⟨gv,q,none⟩) gl1 (by simp)).trans x1,(HJ.out.1.cell (p:=⟨gu,q,none⟩) gl2 (by simp)).trans x2,?_⟩
    rw [HTx.out q u hu]
    exact (HJ.out.1.cell (p:=⟨ub,2,none⟩) ul (by simp)).trans x3
   clear hcell y1 y2 y3 ht hTj hCj
   go_wp2
   go_loopw [6,7] (fun f k wr=>∃ (q m:Nat) (X:ByteArray),q<=N/\k=.int .i64 q/\f=.string X/\wr=w3.drewN m/\Hid (minTo (textAt ts) (clsAt D) j q=X)) (fun _ k _=>N - (intOf k).toNat)
   case atStart=>exact ⟨0,0,Tj,Nat.zero_le _,rfl,rfl,rfl,HTj.out⟩
   case round =>
    obtain ⟨q,m,X,hq,rfl,rfl,rfl,HX⟩:=hrel
    by_cases hqn:q < N
    ·have hqI:(q:Int) < (N:Int):=by omega
     obtain ⟨ub,x1,x2,x3⟩:=Hcell.out q hqn
     obtain ⟨Tq,hTq⟩:∃ Tq,textAt ts q=Tq:=⟨_,rfl⟩
     obtain ⟨Cq,hCq⟩:∃ Cq,clsAt D q=Cq:=⟨_,rfl⟩
     rw [hTq] at x3
     rw [hCq] at x2
     have HM:Hid (minTo (textAt ts) (clsAt D) j (q+1)=if Cq=Cj/\bLt Tq X then Tq else X):=by show _=_; rw [minTo_succ,HX.out,hTq,hCq,HCj.out]
     clear hTq hCq
     by_cases hc:Cq=Cj
     ·have hc2:(Cq:Int)=(Cj:Int):=by omega
      have hc3:((Cq:Int) == (Cj:Int))=true:=by simp [hc]
      have hls:=less_is Tq X
      by_cases hb:bLt Tq X
      ·have hls2:Op.bytesLess Tq.toList X.toList=true:=by rw [hls]; simpa using hb
       have HM2:Hid (minTo (textAt ts) (clsAt D) j (q+1)=Tq):=by show _=_; rw [HM.out,if_pos ⟨hc,hb⟩]
       clear hls hb hc
       go_wp2_with fail
       go_quiet (fail)
       go_wp2
       refine ⟨⟨q+1,_,Tq,by omega,by simp,rfl,rfl,HM2.out⟩,?_⟩
       simp [intOf]
       omega
      ·have hls2:Op.bytesLess Tq.toList X.toList=false:=by rw [hls]; simpa using hb
       have HM2:Hid (minTo (textAt ts) (clsAt D) j (q+1)=X):=by show _=_; rw [HM.out,if_neg (fun e=>hb e.2)]
       clear hls hb hc
       go_wp2_with fail
       go_quiet (fail)
       go_wp2
       refine ⟨⟨q+1,_,X,by omega,by simp,rfl,rfl,HM2.out⟩,?_⟩
       simp [intOf]
       omega
     ·have hc2:¬ (Cq:Int)=(Cj:Int):=by omega
      have hc3:((Cq:Int) == (Cj:Int))=false:=by simp; omega
      have HM2:Hid (minTo (textAt ts) (clsAt D) j (q+1)=X):=by show _=_; rw [HM.out,if_neg (fun e=>hc e.1)]
      clear hc
      go_wp2_with fail
      go_quiet (fail)
      go_wp2
      refine ⟨⟨q+1,_,X,by omega,by simp,rfl,rfl,HM2.out⟩,?_⟩
      simp [intOf]
      omega
    ·have hqI:¬ (q:Int) < (N:Int):=by omega
     have hqe:q=N:=by omega
     have HF:Hid (firstsTo (textAt ts) (clsAt D) N (j+1)=if X=Tj then laidR (firstsTo (textAt ts) (clsAt D) N j) X else firstsTo (textAt ts) (clsAt D) N j):=by
      show _=_
      have hx:=HX.out
      rw [hqe] at hx
      rw [firstsTo_succ,hx,HTj.out]
     obtain ⟨hU3,hS3⟩:=HJ.out
     have hfl:=firstsTo_len (textAt ts) (clsAt D) N j
     have hs3:=hU3.size
     by_cases he:X=Tj
     ·subst he
      rw [if_pos rfl] at HF
      have HLd:=hide (refLaid_any (w3.drewN m) w2.heap.size _ _ X (hS3.later ((Upd.refl [] w3).drewN m)) (by omega))
      have HU3:=hide hU3
      clear hqe hU3 hS3 hfl HJ HX
      go_wp2_with (go_at_call 102; refine HLd.out.mono ?_; rintro e w4 ⟨v4,rfl,hu4,hs4⟩; have Hu4:=hide hu4; have Hs4:=hide hs4; clear hu4 hs4)
      refine ⟨⟨j+1,by omega,by simp,(HU3.out.drewN m).trans Hu4.out,by rw [HF.out]; exact Hs4.out.base (by simpa using hs3)⟩,?_⟩
      simp [intOf]
      omega
     ·have he2:=toList_ne he
      rw [if_neg he] at HF
      have HU3:=hide hU3
      have HS3:=hide hS3
      clear hqe hU3 hS3 hfl HJ HX he
      go_wp2
      refine ⟨⟨j+1,by omega,by simp,HU3.out.drewN m,by rw [HF.out]; exact HS3.out.later ((Upd.refl [] w3).drewN m)⟩,?_⟩
      simp [intOf]
      omega
  ·have hjI:¬ (j:Int) < (N:Int):=by omega
   have hje:j=N:=by omega
   obtain ⟨hU3,hS3⟩:=HJ.out
   rw [hje] at hS3
   obtain ⟨fs,hfs⟩:∃ fs,firstsTo (textAt ts) (clsAt D) N N=fs:=⟨_,rfl⟩
   have hfl:=firstsTo_len (textAt ts) (clsAt D) N N
   rw [hfs] at hS3 HIx HCR hfl
   obtain ⟨af,capf,hfv,f1,f2,fform⟩:=strRow_form hS3
   subst hfv
   obtain ⟨nf,hnf⟩:∃ nf,fs.length=nf:=⟨_,rfl⟩
   rw [hnf] at f1 fform hfl ⊢
   have Hnf:=hide hnf
   have HFf:=hide fform
   have HU3:=hide hU3
   have hs3:=hU3.size
   have HCl:Hid ((classesR L).length=nf):=by show _=_; rw [HCR.out,List.length_map]; exact hnf
   unfold maxLen at f2
   clear hje hU3 hS3 hfs hnf fform HJ hj
   go_wp2
   go_loopw [8,9] (fun ov i wr=>∃ j:Nat,j<=nf/\i=.int .i64 j/\Hid (Upd [] w3 wr/\∃ rs,LRead wr w3.heap.size ov rs ((classesR L).take j))) (fun _ i _=>nf - (intOf i).toNat)
   case atStart=>exact ⟨0,Nat.zero_le _,rfl,Upd.refl _ _,[],LRead.empty _ _⟩
   case round =>
    clear e0
    obtain ⟨w4,hw4⟩:∃ w4,w4=wr:=⟨_,rfl⟩
    rw [<- hw4] at hrel ⊢
    clear hw4
    obtain ⟨p,hp,rfl,HP⟩:=hrel
    by_cases hpn:p < nf
    ·have hpI:(p:Int) < (nf:Int):=by omega
     obtain ⟨hU4,rs,hL4⟩:=HP.out
     have hU24:=HU3.out.trans hU4
     obtain ⟨F,hF⟩:∃ F,fs[p]?=some F:=⟨_,List.getElem?_eq_getElem (by rw [Hnf.out]; exact hpn)⟩
     obtain ⟨gf,rfl,gfl,hfc⟩:=HFf.out (by omega)
     have z0:=(hU4.cell (p:=⟨gf,p,none⟩) gfl (by simp)).trans (hfc p F hF)
     obtain ⟨ii,hiiN,hii⟩:=HIx.out F (List.mem_of_getElem? hF)
     have hiiI:(ii:Int) < (N:Int):=by omega
     obtain ⟨gv,gu,rfl,rfl,gl1,gl2,hcell⟩:=HRd.out (by omega)
     obtain ⟨t,ht⟩:∃ t,ts[ii]?=some t:=⟨_,List.getElem?_eq_getElem (by rw [HN.out]; exact hiiN)⟩
     obtain ⟨tb,tl,y1,y2,y3⟩:=hcell ii t ht
     have e1:=(hU24.cell (p:=⟨wb,1,none⟩) hwb (by simp)).trans HK1.out
     have e3:=(hU24.cell (p:=⟨gu,ii,none⟩) gl2 (by simp)).trans y2
     obtain ⟨CF,hCF⟩:∃ CF,clsAt D ii=CF:=⟨_,rfl⟩
     rw [hCF] at e3
     have HI:Hid (∀ q,Calls Tryz.prog 103 #[.pointer (some ⟨wb,0,none⟩),.string F] (w4.drewN q) fun e w'=>e=.returned (.int .i64 (ii:Int))/\w'=w4.drewN q):=fun q=>by
      have:=((H2.out.later hU24).drewN q).index (by have:=HN.out; omega) F
      rw [idxI_some hii] at this
      exact this
     have Hcell:Hid (∀ (w':World),Upd [] w4 w'->w'.cell? ⟨wb,0,none⟩=some (.slice (some ⟨gv,0,none⟩) N capv)/\w'.cell? ⟨wb,1,none⟩=some (.slice (some ⟨gu,0,none⟩) N capu)/\∀ q,q < N->∃ ub,w'.cell? ⟨gv,q,none⟩=some (.pointer (some ⟨ub,0,none⟩))/\w'.cell? ⟨gu,q,none⟩=some (.int .i64 (clsAt D q))/\w'.cell? ⟨ub,2,none⟩=some (.string (textAt ts q))):=fun w' hu'=>by
      have U:=hU24.trans hu'
      refine ⟨(U.cell (p:=⟨wb,0,none⟩) hwb (by simp)).trans HK0.out,(U.cell (p:=⟨wb,1,none⟩) hwb (by simp)).trans HK1.out,fun q hq=>?_⟩
      obtain ⟨u,hu⟩:∃ u,ts[q]?=some u:=⟨_,List.getElem?_eq_getElem (by rw [HN.out]; exact hq)⟩
      obtain ⟨ub,ul,x1,x2,x3⟩:=hcell q u hu
      refine ⟨ub,(U.cell (p:=⟨gv,q,none⟩) gl1 (by simp)).trans x1,(U.cell (p:=⟨gu,q,none⟩) gl2 (by simp)).trans x2,?_⟩
      rw [HTx.out q u hu]
      exact (U.cell (p:=⟨ub,2,none⟩) ul (by simp)).trans x3
     have HG:Hid ((classesR L)[p]?=some (classTo (textAt ts) (clsAt D) CF N)):=by
      show _=_
      rw [HCR.out,List.getElem?_map,hF]
      simp [hii,hCF]
     have hs4:=hU4.size
     have HU4:=hide hU4
     have HL4:=hide hL4
     clear hU4 hL4 hU24 hF hfc hii hcell ht y1 y2 y3 hCF HP
     go_wp2_with fail
     go_quiet ((go_at_call 103; exact Calls.quiet_of_same (HI.out _)))
     go_wp2
     obtain ⟨w5,hw5⟩:∃ w5,w5=w4.drewN nq:=⟨_,rfl⟩
     have hU5:Upd [] w4 w5:=by rw [hw5]; exact (Upd.refl [] w4).drewN nq
     rw [<- hw5]
     have HU5:=hide hU5
     have hs5:=hU5.size
     clear hw5 hU5 z0 e1 e3 HI
     go_loopw [11,12] (fun lv k wr=>∃ q:Nat,q<=N/\k=.int .i64 q/\Hid (Upd [] w5 wr/\StrRow wr w5.heap.size lv (classTo (textAt ts) (clsAt D) CF q))) (fun _ k _=>N - (intOf k).toNat)
     case atStart=>exact ⟨0,Nat.zero_le _,rfl,Upd.refl _ _,⟨rfl,.inl ⟨rfl,rfl⟩⟩⟩
     case round =>
      obtain ⟨w6,hw6⟩:∃ w6,w6=wr:=⟨_,rfl⟩
      rw [<- hw6] at hrel ⊢
      clear hw6
      obtain ⟨q,hq,rfl,HQ⟩:=hrel
      obtain ⟨hU6,hS6⟩:=HQ.out
      obtain ⟨d0,d1,dq⟩:=Hcell.out w6 (HU5.out.trans hU6)
      have hs6:=hU6.size
      have hcl:=classTo_len (textAt ts) (clsAt D) CF q
      by_cases hqn:q < N
      ·have hqI:(q:Int) < (N:Int):=by omega
       obtain ⟨ub,x1,x2,x3⟩:=dq q hqn
       obtain ⟨Tq,hTq⟩:∃ Tq,textAt ts q=Tq:=⟨_,rfl⟩
       obtain ⟨Cq,hCq⟩:∃ Cq,clsAt D q=Cq:=⟨_,rfl⟩
       rw [hTq] at x3
       rw [hCq] at x2
       have HM:Hid (classTo (textAt ts) (clsAt D) CF (q+1)=if Cq=CF then laidR (classTo (textAt ts) (clsAt D) CF q) Tq else classTo (textAt ts) (clsAt D) CF q):=by show _=_; rw [classTo_succ,hTq,hCq]
       have HU6:=hide hU6
       by_cases hc:Cq=CF
       ·have hc2:(Cq:Int)=(CF:Int):=by omega
        have hc3:((Cq:Int) == (CF:Int))=true:=by simp [hc]
        have HLd:=hide (refLaid_any w6 w5.heap.size _ _ Tq hS6 (by omega))
        have HM2:Hid (classTo (textAt ts) (clsAt D) CF (q+1)=laidR (classTo (textAt ts) (clsAt D) CF q) Tq):=by show _=_; rw [HM.out,if_pos hc]
        clear hTq hCq hc hS6 hU6 hcl dq HQ
        go_wp2_with (go_at_call 102; refine HLd.out.mono ?_; rintro e w7 ⟨v7,rfl,hu7,hs7⟩; have Hu7:=hide hu7; have Hs7:=hide hs7; clear hu7 hs7)
        refine ⟨⟨q+1,by omega,by simp,HU6.out.trans Hu7.out,by rw [HM2.out]; exact Hs7.out.base hs6⟩,?_⟩
        simp [intOf]
        omega
       ·have hc2:¬ (Cq:Int)=(CF:Int):=by omega
        have hc3:((Cq:Int) == (CF:Int))=false:=by simp; omega
        have HM2:Hid (classTo (textAt ts) (clsAt D) CF (q+1)=classTo (textAt ts) (clsAt D) CF q):=by show _=_; rw [HM.out,if_neg hc]
        have HS6:=hide hS6
        clear hTq hCq hc hS6 hU6 hcl dq HQ
        go_wp2
        refine ⟨⟨q+1,by omega,by simp,HU6.out,by rw [HM2.out]; exact HS6.out⟩,?_⟩
        simp [intOf]
        omega
      ·have hqI:¬ (q:Int) < (N:Int):=by omega
       have hqe:q=N:=by omega
       rw [hqe] at hS6
       obtain ⟨al,capl,hlv,_,_,_⟩:=strRow_form hS6
       obtain ⟨lc,hlc⟩:∃ lc,(classTo (textAt ts) (clsAt D) CF N).length=lc:=⟨_,rfl⟩
       rw [hlc] at hlv
       subst hlv
       have hone:Hid (∀ u ∈ [Value.slice al lc capl],u.oneCell'=true):=fun u hu'=>by simp at hu'; rw [hu']; rfl
       have hL6:=(HL4.out.later HU5.out).later hU6
       have hlj:((classesR L).take p).length=p:=by rw [List.length_take,HCl.out]; omega
       have hrw:=((Upd.refl [] w6).alloc (.cells #[(Value.slice al lc capl)] 50)).ownsRow hL6.row (fun _ _=>by simp)
       rw [hlj] at hrw
       have Hrw:=hide hrw
       have Hnews:Hid (∀ j u,[(Value.slice al lc capl)][j]?=some u->(w6.alloc (.cells #[(Value.slice al lc capl)] 50)).cell? ((⟨w6.heap.size,0,none⟩:Addr).add j)=some u):=World.news_of_block (heap_alloc_new _ _)
       have Hfin:Hid (∀ g cp w7,(w6.alloc (.cells #[(Value.slice al lc capl)] 50)).grownBy w7 u8.ownBlock->(u8.ownBlock=some g\/g=(w6.alloc (.cells #[(Value.slice al lc capl)] 50)).heap.size)->w7.ownsRow w3.heap.size 50 1 (.slice (some ⟨g,0,none⟩) (p+1) cp) (p+1) (rs++[(Value.slice al lc capl)])->Upd [] w3 w7/\∃ rs,LRead w7 w3.heap.size (.slice (some ⟨g,0,none⟩) (p+1) cp) rs ((classesR L).take (p+1))):=fun g cp w7 hg hat hown=>by
        refine ⟨(((HU4.out.trans HU5.out).trans hU6).alloc _).trans' (Upd.of_grown hg) (fun k hk hl=>?_),rs++[(Value.slice al lc capl)],?_⟩
        ·have:=own_geT hL6.row (show u8.ownBlock=some k by simpa using hk)
         omega
        ·rw [take_succ_get HG.out]
         have h7:=hL6.snoc (l:=classTo (textAt ts) (clsAt D) CF N) hS6 (by omega) (fun k hk e=>by
          have h1:=own_geT hS6 hk
          have h2:=ownsRow_lt HL4.out.row e
          omega) ((Upd.refl [] w6).alloc _) hg hat (by rw [hlj]; exact hown)
         rw [hlj] at h7
         exact h7
       have hlm:p+1<=maxLen:=by unfold maxLen; omega
       have hlb:(p+1) * 24<=140737488355328:=by omega
       clear hqe hS6 hU6 hlc hL6 hlj hrw dq HQ hcl
       go_wp2_with (at_builtin; go_must (refine wpList_append_lies _ rfl _ _ 33 rfl w3.heap.size 50 i0 (.slice none 0 0) 1 24 Tryz.underlying33 hi hz0 hz1 hz2 rfl (by decide) _ _ _ rfl Hrw.out ⟨w6.heap.size,0,none⟩ 1 1 [(Value.slice al lc capl)] rfl rfl Hnews.out hone.out (by decide) hlm hlb (by simp; omega) _ rfl ?_); intro g7 cap7 w7 hown7 hgrow7 hat7 hlt7)
       have hF7:=Hfin.out g7 cap7 w7 hgrow7 hat7 hown7
       refine ⟨⟨p+1,by omega,by simp,hF7⟩,?_⟩
       simp [intOf]
       omega
    ·have hpI:¬ (p:Int) < (nf:Int):=by omega
     have hpe:(classesR L).take p=classesR L:=List.take_of_length_le (by rw [HCl.out]; omega)
     obtain ⟨hU4,rs,hL4⟩:=HP.out
     rw [hpe] at hL4
     have HU4:=hide hU4
     have HL4:=hide hL4
     clear hpe hU4 hL4 HP
     go_wp2
     go_ret
     have hL:=HL4.out
     have h02:=H2.out.1.size
     exact ⟨_,rfl,(H2.out.1.trans HU3.out).trans HU4.out,rs,ownsRow_base hL.row fun k hk=>by have:=own_geT hL.row hk; omega,hL.len,fun a r l h1 h2=>(hL.all a r l h1 h2).base (by omega),hL.out⟩
theorem BothAt.mono {w:World} {xb:Nat} {Z Z':Nat->Prop} {S:WS} {L:List ST} {M:List Nat} (h:BothAt w xb Z S L M) (hm:∀ k,Z k->Z' k) (hl:∀ k,Z' k->0 < k/\k < w.heap.size):BothAt w xb Z' S L M:=by
 obtain ⟨bb,rb,Zb,Zr,c0,c1,hb,hr,z1,z2⟩:=h.ex
 exact ⟨h.lt,hm _ h.own,hl,⟨bb,rb,Zb,Zr,c0,c1,hb,hr,fun k hk=>⟨hm k (z1 k hk).1,(z1 k hk).2⟩,fun k hk=>⟨hm k (z2 k hk).1,(z2 k hk).2⟩⟩,h.err,h.both⟩
end Go.Proofs.YtmfkpllnmmfpiaaGreatDoor
