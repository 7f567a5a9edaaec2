/- Lists, Classes, Said -/
import Derived.Test.YtmfkpllnmmfpiaaGreatDoorPlacesA
import Derived.Deep.CutBlock
import Derived.Test.YtmfkpllnmmfpiaaGreatDoorBackA
set_option maxHeartbeats 16000000
set_option maxRecDepth 100000
namespace Go.Proofs.YtmfkpllnmmfpiaaGreatDoor
open Go.RowKit
def ofClass (S:WS) (ts:List TN) (i c:Nat):List ByteArray:=((ts.take i).filter (fun t=>classAt S t.2 == c)).map (·.1)
def listsTo (S:WS) (ts:List TN) (i:Nat):List (List ByteArray):=(firstsOf (clsTo S ts i)).map (ofClass S ts i)
theorem listsTo_length (S:WS) (ts:List TN) (i:Nat):(listsTo S ts i).length=(firstsOf (clsTo S ts i)).length:=by simp [listsTo]
theorem ofClass_succ {S:WS} {ts:List TN} {i c:Nat} {t:TN} (h:ts[i]?=some t):ofClass S ts (i+1) c=ofClass S ts i c++(if classAt S t.2=c then [t.1] else []):=by
 unfold ofClass
 have hlt:=(List.getElem?_eq_some_iff.1 h).1
 rw [List.getElem?_eq_getElem hlt] at h
 rw [List.take_succ_eq_append_getElem hlt,Option.some.inj h,List.filter_append,List.map_append]
 congr 1
 by_cases e:classAt S t.2=c
 ·simp [e]
 ·simp [e]
theorem ofClass_none {S:WS} {ts:List TN} {i c:Nat} (h:c ∉ clsTo S ts i):ofClass S ts i c=[]:=by
 unfold ofClass
 rw [List.map_eq_nil_iff,List.filter_eq_nil_iff]
 intro t ht he
 exact h (List.mem_map.2 ⟨t,ht,by simpa using he⟩)
theorem listsTo_new {S:WS} {ts:List TN} {i:Nat} {t:TN} (h:ts[i]?=some t) (hn:classAt S t.2 ∉ clsTo S ts i):listsTo S ts (i+1)=listsTo S ts i++[[t.1]]:=by
 unfold listsTo
 rw [clsTo_succ h,(idx_new hn).1,List.map_append]
 congr 1
 ·refine List.map_congr_left fun c hc=>?_
  rw [ofClass_succ h,if_neg (fun e:classAt S t.2=c=>hn ((mem_firsts _ _).1 (by rw [e]; exact hc))),List.append_nil]
 ·simp only [List.map_cons,List.map_nil]
  rw [ofClass_succ h,if_pos rfl,ofClass_none hn,List.nil_append]
theorem listsTo_at {S:WS} {ts:List TN} {i c:Nat} (h:c ∈ clsTo S ts i):(listsTo S ts i)[placeIn (clsTo S ts i) c]?=some (ofClass S ts i c):=by
 unfold listsTo placeIn
 have hm:=(mem_firsts _ _).2 h
 rw [List.getElem?_map,List.getElem?_eq_getElem (List.idxOf_lt_length_iff.2 hm),List.getElem_idxOf]
 rfl
theorem listsTo_old {S:WS} {ts:List TN} {i:Nat} {t:TN} (h:ts[i]?=some t) (hin:classAt S t.2 ∈ clsTo S ts i):listsTo S ts (i+1)=(listsTo S ts i).set (placeIn (clsTo S ts i) (classAt S t.2)) (ofClass S ts i (classAt S t.2)++[t.1]):=by
 have e:=idx_old hin
 have hnd:=firsts_nodup (clsTo S ts i)
 unfold listsTo placeIn
 rw [clsTo_succ h,e]
 refine List.ext_getElem? fun q=>?_
 rw [List.getElem?_map,List.getElem?_set,List.length_map]
 have hm:=(mem_firsts _ _).2 hin
 have hp:=List.idxOf_lt_length_iff.2 hm
 by_cases hq:q < (firstsOf (clsTo S ts i)).length
 ·rw [List.getElem?_eq_getElem hq]
  simp only [Option.map_some]
  by_cases he:(firstsOf (clsTo S ts i)).idxOf (classAt S t.2)=q
  ·subst he
   rw [if_pos rfl,if_pos hp]
   simp only [List.getElem_idxOf]
   rw [ofClass_succ h,if_pos rfl]
  ·rw [if_neg he,List.getElem?_map,List.getElem?_eq_getElem hq]
   simp only [Option.map_some]
   rw [ofClass_succ h,if_neg (fun e2=>he ?_),List.append_nil]
   rw [e2]
   exact hnd.idxOf_getElem q hq
 ·rw [List.getElem?_eq_none (by omega),if_neg (by omega),List.getElem?_map,List.getElem?_eq_none (by omega)]
  rfl
theorem placesTo_get {S:WS} {ts:List TN} (hnd:(ts.map (·.2)).Nodup) {i:Nat} {t:TN} (h:ts[i]?=some t) (hlt:t.2 < ts.length):∀ m,i < m->m<=ts.length->(placesTo S ts m).getD t.2 0=placeIn (clsTo S ts (i+1)) (classAt S t.2)
 | 0,hm,_=>absurd hm (Nat.not_lt_zero _)
 | m+1,hm,hml=>by
  obtain ⟨u,hu⟩:∃ u,ts[m]?=some u:=⟨_,List.getElem?_eq_getElem (show m < ts.length by omega)⟩
  rw [placesTo_succ hu,List.getD_eq_getElem?_getD,List.getElem?_set]
  by_cases he:i=m
  ·subst he
   obtain rfl:=Option.some.inj (h.symm.trans hu)
   rw [if_pos rfl,if_pos (by rw [placesTo_length]; exact hlt)]
   rfl
  ·have hne:u.2 ≠ t.2:=fun e=>he (by
    have h1:(ts.map (·.2))[m]?=some t.2:=by rw [List.getElem?_map,hu]; simp [e]
    have h2:(ts.map (·.2))[i]?=some t.2:=by rw [List.getElem?_map,h]; rfl
    obtain ⟨l1,e1⟩:=List.getElem?_eq_some_iff.1 h1
    obtain ⟨l2,e2⟩:=List.getElem?_eq_some_iff.1 h2
    exact (List.getElem_inj hnd).1 (e2.trans e1.symm))
   rw [if_neg hne,<- List.getD_eq_getElem?_getD]
   exact placesTo_get hnd h hlt m (by omega) (by omega)
def StrRow (w:World) (base:Nat) (r:Value) (l:List ByteArray):Prop:=w.ownsRow base 9 1 r l.length (l.map Value.string)
structure ListsAt (w:World) (base:Nat) (v:Value) (rs:List Value) (ls:List (List ByteArray)):Prop where
 row:w.ownsRow base 50 1 v ls.length rs
 len:rs.length=ls.length
 all:∀ (p:Nat) (r:Value) (l:List ByteArray),rs[p]?=some r->ls[p]?=some l->StrRow w base r l
 out:∀ (p:Nat) (r:Value),rs[p]?=some r->∀ k,r.ownBlock=some k->v.ownBlock ≠ some k
 sep:∀ (p q:Nat) (r s:Value),rs[p]?=some r->rs[q]?=some s->p ≠ q->∀ k,r.ownBlock=some k->s.ownBlock ≠ some k
theorem ListsAt.empty (w:World) (base:Nat):ListsAt w base (.slice none 0 0) [] []:=⟨World.ownsRow_nil _ _ _ _,rfl,fun p r l h=>by simp at h,fun p r h=>by simp at h,fun p q r s h=>by simp at h⟩
theorem ListsAt.inner {w:World} {base:Nat} {v:Value} {rs:List Value} {ls:List (List ByteArray)} (h:ListsAt w base v rs ls) {p:Nat} {r:Value} (hp:rs[p]?=some r):∃ l,ls[p]?=some l/\StrRow w base r l:=by
 have hlt:=(List.getElem?_eq_some_iff.1 hp).1
 rw [h.len] at hlt
 exact ⟨_,List.getElem?_eq_getElem hlt,h.all p r _ hp (List.getElem?_eq_getElem hlt)⟩
theorem ListsAt.later {w w':World} {L:List Nat} {base:Nat} {v:Value} {rs:List Value} {ls:List (List ByteArray)} (h:ListsAt w base v rs ls) (U:Upd L w w') (hL:∀ k ∈ L,k < base\/w.heap.size<=k):ListsAt w' base v rs ls:=by
 have no:∀ {e size n:Nat} {r:Value} {xs:List Value},w.ownsRow base e size r n xs->w'.ownsRow base e size r n xs:=fun hr=>U.ownsRow hr fun k hk hm=>by
  have h1:=own_ge hr hk
  have h2:=ownsRow_lt hr hk
  have:=hL k hm
  omega
 exact ⟨no h.row,h.len,fun p r l hp hl=>no (h.all p r l hp hl),h.out,h.sep⟩
theorem ListsAt.more {w w':World} {base g cap:Nat} {v:Value} {rs:List Value} {ls:List (List ByteArray)} (h:ListsAt w base v rs ls) (hown:w'.ownsRow base 50 1 (.slice (some ⟨g,0,none⟩) (ls.length+1) cap) (ls.length+1) (rs++[.slice none 0 0])) (hgrow:w.grownBy w' v.ownBlock) (hat:v.ownBlock=some g\/g=w.heap.size) :
  ListsAt w' base (.slice (some ⟨g,0,none⟩) (ls.length+1) cap) (rs++[.slice none 0 0]) (ls++[[]]):=by
 have U:=Upd.of_grown hgrow
 have hg:∀ (p:Nat) (r:Value),(rs++[Value.slice none 0 0])[p]?=some r->∀ k,r.ownBlock=some k->rs[p]?=some r:=fun p r hp k hk=>by
  rcases getElem?_snoc_lt hp with ⟨_,h1⟩ | ⟨_,rfl⟩
  ·exact h1
  ·simp [Value.ownBlock] at hk
 have hl:=h.len
 refine ⟨by simpa using hown,by simp [hl],fun p r l hp hl2=>?_,fun p r hp k hk=>?_,fun p q r s hp hq hne k hk e=>?_⟩
 ·rcases getElem?_snoc_lt hp with ⟨hlt,h1⟩ | ⟨hpe,rfl⟩
  ·rcases getElem?_snoc_lt hl2 with ⟨_,h2⟩ | ⟨he,_⟩
   ·exact U.ownsRow (h.all p r l h1 h2) fun k hk hm2=>h.out p r h1 k hk (by simpa using hm2)
   ·omega
  ·rcases getElem?_snoc_lt hl2 with ⟨he,_⟩ | ⟨_,rfl⟩
   ·omega
   ·exact World.ownsRow_nil _ _ _ _
 ·have h1:=hg p r hp k hk
  simp only [own_slice,ne_eq,Option.some.injEq]
  intro e
  subst e
  rcases hat with hat | hat
  ·exact h.out p r h1 g hk hat
  ·obtain ⟨l,_,hr⟩:=h.inner h1
   have:=ownsRow_lt hr hk
   omega
 ·exact h.sep p q r s (hg p r hp k hk) (hg q s hq k e) hne k hk e
theorem ListsAt.put {w w1 w2:World} {base g cap g' cap' p:Nat} {rs:List Value} {ls:List (List ByteArray)} {r:Value} {l:List ByteArray} {t:ByteArray} (h:ListsAt w base (.slice (some ⟨g,0,none⟩) ls.length cap) rs ls) (hp:rs[p]?=some r) (hl:ls[p]?=some l) (hu1:Upd [] w w1)
  (hown:w2.ownsRow base 9 1 (.slice (some ⟨g',0,none⟩) (l.length+1) cap') (l.length+1) (l.map Value.string++[.string t])) (hgrow:w1.grownBy w2 r.ownBlock) (hat:r.ownBlock=some g'\/g'=w1.heap.size) :
  ListsAt (w2.setCell ⟨g,p,none⟩ (.slice (some ⟨g',0,none⟩) (l.length+1) cap')) base (.slice (some ⟨g,0,none⟩) ls.length cap) (rs.set p (.slice (some ⟨g',0,none⟩) (l.length+1) cap')) (ls.set p (l++[t])):=by
 have hplt:=(List.getElem?_eq_some_iff.1 hp).1
 have hg0:g < w.heap.size:=ownsRow_lt h.row rfl
 have hs1:=hu1.size
 have U2:Upd r.ownBlock.toList w w2:=(hu1.mono (fun x hx _=>by cases hx)).trans (Upd.of_grown hgrow)
 have hgr:r.ownBlock ≠ some g:=fun e=>h.out p r hp g e rfl
 have hgg:g' ≠ g:=fun e=>by
  subst e
  rcases hat with hat | hat
  ·exact hgr hat
  ·omega
 have U3:Upd [g] w2 (w2.setCell ⟨g,p,none⟩ (.slice (some ⟨g',0,none⟩) (l.length+1) cap')):=(Upd.refl [g] w2).setCell (by simp) _
 have get:∀ (q:Nat) (s:Value),(rs.set p (.slice (some ⟨g',0,none⟩) (l.length+1) cap'))[q]?=some s->(q=p/\s=.slice (some ⟨g',0,none⟩) (l.length+1) cap')\/(q ≠ p/\rs[q]?=some s):=fun q s hq=>by
  rw [List.getElem?_set] at hq
  by_cases e:p=q
  ·subst e
   rw [if_pos rfl,if_pos hplt] at hq
   exact .inl ⟨rfl,(Option.some.inj hq).symm⟩
  ·rw [if_neg e] at hq
   exact .inr ⟨fun e2=>e e2.symm,hq⟩
 have new_ne:∀ (q:Nat) (s:Value),q ≠ p->rs[q]?=some s->s.ownBlock ≠ some g':=fun q s hq hs e=>by
  rcases hat with hat | hat
  ·exact h.sep p q r s hp hs (fun e2=>hq e2.symm) g' hat e
  ·obtain ⟨m,_,hm⟩:=h.inner hs
   have:=ownsRow_lt hm e
   omega
 refine ⟨?_,by simp [h.len],fun q s m hq hm=>?_,fun q s hq k hk=>?_,fun q q2 s s2 hq hq2 hne k hk e=>?_⟩
 ·have h1:=U2.ownsRow h.row (fun k hk hm=>by
   simp only [own_slice,Option.some.injEq] at hk
   subst hk
   exact hgr (by simpa using hm))
  have:=(h1.stored p (.slice (some ⟨g',0,none⟩) (l.length+1) cap')).1
  simpa using this
 ·rcases get q s hq with ⟨rfl,rfl⟩ | ⟨hqp,hq'⟩
  ·have hplt2:q < ls.length:=by rw [<- h.len]; exact hplt
   rw [List.getElem?_set,if_pos rfl,if_pos hplt2] at hm
   obtain rfl:=Option.some.inj hm
   show World.ownsRow _ _ _ _ _ (l++[t]).length ((l++[t]).map Value.string)
   have:=U3.ownsRow hown (fun k hk hm2=>by
    simp only [own_slice,Option.some.injEq] at hk
    simp only [List.mem_singleton] at hm2
    omega)
   simpa using this
  ·rw [List.getElem?_set,if_neg (fun e=>hqp e.symm)] at hm
   refine U3.ownsRow (U2.ownsRow (h.all q s m hq' hm) fun k hk hm2=>?_) fun k hk hm2=>?_
   ·exact h.sep q p s r hq' hp hqp k hk (by simpa using hm2)
   ·simp only [List.mem_singleton] at hm2
    subst hm2
    exact h.out q s hq' k hk rfl
 ·rcases get q s hq with ⟨_,rfl⟩ | ⟨hqp,hq'⟩
  ·simp only [own_slice,Option.some.injEq,ne_eq] at hk ⊢
   omega
  ·exact h.out q s hq' k hk
 ·rcases get q s hq with ⟨rfl,rfl⟩ | ⟨hqp,hq'⟩
  ·rcases get q2 s2 hq2 with ⟨rfl,_⟩ | ⟨hqp2,hq2'⟩
   ·exact hne rfl
   ·simp only [own_slice,Option.some.injEq] at hk
    subst hk
    exact new_ne q2 s2 hqp2 hq2' e
  ·rcases get q2 s2 hq2 with ⟨rfl,rfl⟩ | ⟨hqp2,hq2'⟩
   ·simp only [own_slice,Option.some.injEq] at e
    subst e
    exact new_ne q s hqp hq' hk
   ·exact h.sep q q2 s s2 hq' hq2' hne k hk e
theorem info_str:(Tryz.prog.info? 9).map (fun i=>(i.zero,i.size,i.bytes))=some (some (.string ⟨#[]⟩),1,16):=by kernel_rfl
theorem info_strs:(Tryz.prog.info? 50).map (fun i=>(i.zero,i.size,i.bytes))=some (some (.slice none 0 0),1,24):=by kernel_rfl
theorem own_base {w:World} {base base' e size n:Nat} {v:Value} {xs:List Value} (h:w.ownsRow base e size v n xs) (hb:base'<=base):w.ownsRow base' e size v n xs:=by
 obtain ⟨h1,h2⟩:=h
 refine ⟨h1,?_⟩
 rcases h2 with h2 | ⟨g,cap,cur,hv,hg,hr⟩
 ·exact .inl h2
 ·exact .inr ⟨g,cap,cur,hv,Nat.le_trans hb hg,hr⟩
def classesOf (S:WS):List (List ByteArray):=listsTo S (sortedT S) (sortedT S).length
def Listing (w2 wr:World) (v:Value) (ls:List (List ByteArray)):Prop:=(∃ rs,ListsAt wr w2.heap.size v rs ls)/\Upd [] w2 wr
def Midst (w2 wr wc:World) (v:Value) (t:TN) (place:Nat) (ls:List (List ByteArray)) (l:List ByteArray):Prop :=
 ∃ rs g cap,v=.slice (some ⟨g,0,none⟩) ls.length cap/\ls.length<=cap/\cap<=maxLen/\ListsAt wc w2.heap.size v rs ls/\Upd [] w2 wc/\wc.cell? ⟨wr.heap.size,0,none⟩=some (.string t.1)/\ls[place]?=some l
theorem Listing.put {w2 wc w1 w3:World} {g cap g' cap' place:Nat} {rs:List Value} {ls:List (List ByteArray)} {r:Value} {l:List ByteArray} {t:ByteArray} (h:ListsAt wc w2.heap.size (.slice (some ⟨g,0,none⟩) ls.length cap) rs ls) (hu:Upd [] w2 wc) (hp:rs[place]?=some r) (hl:ls[place]?=some l) (hu1:Upd [] wc w1)
  (hown:w3.ownsRow w2.heap.size 9 1 (.slice (some ⟨g',0,none⟩) (l.length+1) cap') (l.length+1) (l.map Value.string++[.string t])) (hgrow:w1.grownBy w3 r.ownBlock) (hat:r.ownBlock=some g'\/g'=w1.heap.size) :
  Listing w2 (w3.setCell ⟨g,place,none⟩ (.slice (some ⟨g',0,none⟩) (l.length+1) cap')) (.slice (some ⟨g,0,none⟩) ls.length cap) (ls.set place (l++[t])):=by
 refine ⟨⟨_,h.put hp hl hu1 hown hgrow hat⟩,?_⟩
 have U2:Upd r.ownBlock.toList wc w3:=(hu1.mono (fun x hx _=>by cases hx)).trans (Upd.of_grown hgrow)
 have hg:w2.heap.size<=g:=own_ge h.row (k:=g) rfl
 have hr:∀ k,r.ownBlock=some k->w2.heap.size<=k:=fun k hk=>by
  obtain ⟨m,_,hm⟩:=h.inner hp
  exact own_ge hm hk
 refine (hu.trans' U2 (fun x hx hlt=>?_)).setCell (.inr hg) _
 have:=hr x (by simpa using hx)
 omega
theorem webClasses_any (w:World) (wb:Nat) (H:Hd) (Z:Nat->Prop) (S:WS) (h:WebAt w wb H Z S) (hB:Base S) (hZ:∀ k,Z k->k < w.heap.size) (hn:S.shapes.length<=1000) (hsm:∀ g j,(plainF S g j).length<=1000) (hnd:((sortedT S).map (·.2)).Nodup) (hnum:∀ t ∈ sortedT S,t.2 < (sortedT S).length) :
  Calls Tryz.prog 48 #[.pointer (some ⟨wb,0,none⟩)] w fun e w'=>∃ v rs,e=.returned v/\Upd [] w w'/\ListsAt w' w.heap.size v rs (classesOf S):=by
 obtain ⟨i1,hi1,hy0,hy1,hy2⟩:=info_parts info_str
 obtain ⟨i2,hi2,hx0,hx1,hx2⟩:=info_parts info_strs
 have hlen:=sortedT_length S
 have HBt:=hide (byText_any w wb H Z S h hB hZ hn hsm)
 have HPl:=hide (fun (w1:World) (v1:Value) (hu:Upd [] w w1) (ht:TextsAt w1 w.heap.size v1 (sortedT S))=>places_any w1 wb w.heap.size H Z S v1 (sortedT S) (h.later hu (fun _ _=>by simp)) hB.inv (fun k hk=>Nat.lt_of_lt_of_le (hZ k hk) hu.size) ht hnum hlen hn)
 have hnT:(sortedT S).length<=1000:=by omega
 have HC:Hid (classesOf S=listsTo S (sortedT S) (sortedT S).length):=by show _=_; rfl
 have Hnum:=hide hnum
 have Hnd:=hide hnd
 clear h hB hZ hsm hn hlen hnd hnum
 generalize sortedT S=ts at *
 go_enter Tryz.func48,Tryz.ntmps48
 go_upto_region 4 with (first
  | (go_at_call 83; refine HBt.out.mono ?_; rintro e w1 ⟨v1,rfl,hu1,ht1⟩; have Hu1:=hide hu1; have Ht1:=hide ht1; clear hu1 ht1)
  | (go_at_call 82; refine (HPl.out w1 v1 Hu1.out Ht1.out).mono ?_; rintro e w2 ⟨P,rfl,hu2,hp2⟩; have Hu2:=hide hu2; have Hp2:=hide hp2; clear hu2 hp2))
 have HT2:=hide (Ht1.out.later Hu2.out (fun k hk=>(by cases hk)))
 obtain ⟨g,cap,hv1,hcap,hcm,hgb,hgl,hcells⟩:=HT2.out.ex
 have Hcells:=hide hcells
 subst hv1
 have hPl:P < w2.heap.size:=ownsRow_lt Hp2.out rfl
 have HU2:=hide (Hu1.out.trans Hu2.out)
 have hw12:=Hu2.out.size
 unfold maxLen at hcm
 have hcapI:(ts.length:Int)<=(cap:Int):=by omega
 clear HBt HPl Ht1 hcells
 go_wp2
 go_loopw [3,16] (fun v i wr=>∃ j:Nat,j<=ts.length/\i=.int .i64 j/\Hid (Listing w2 wr v (listsTo S ts j))) (fun _ i _=>ts.length - (intOf i).toNat)
 case atStart=>exact ⟨0,Nat.zero_le _,rfl,⟨[],ListsAt.empty _ _⟩,Upd.refl _ _⟩
 case round =>
  obtain ⟨j,hj,rfl,HL⟩:=hrel
  by_cases hjn:j < ts.length
  ·have hjn':(j:Int) < (ts.length:Int):=by omega
   obtain ⟨t,htj⟩:∃ t,ts[j]?=some t:=⟨_,List.getElem?_eq_getElem hjn⟩
   have ht2:=Hnum.out t (List.mem_of_getElem? htj)
   obtain ⟨⟨rs,hls⟩,hur⟩:=HL.out
   obtain ⟨q0,q1⟩:=Hcells.out j t htj
   have k0:=(hur.cell (p:=⟨g,j * 2,none⟩) hgl (by simp)).trans q0
   have k1:=(hur.cell (p:=⟨g,j * 2+1,none⟩) hgl (by simp)).trans q1
   obtain ⟨W,hW⟩:∃ W,W=wr.alloc (.cells #[.string t.1,.int .i64 t.2] 147):=⟨_,rfl⟩
   have UW:Upd [] wr W:=hW ▸ (Upd.refl [] wr).alloc _
   have hWsz:wr.heap.size < W.heap.size:=by rw [hW]; simp
   have b0:W.cell? ⟨wr.heap.size,0,none⟩=some (.string t.1):=by rw [hW]; go_simp
   have b1:W.cell? ⟨wr.heap.size,1,none⟩=some (.int .i64 t.2):=by rw [hW]; go_simp
   have hpr:=((hur.trans UW).ownsRow Hp2.out (fun _ _=>by simp))
   have hpc:=row1_cell hpr (i:=t.2) (by rw [placesTo_length]; exact ht2)
   rw [placesTo_get Hnd.out htj ht2 ts.length hjn (Nat.le_refl _)] at hpc
   have ht2':(t.2:Int) < (ts.length:Int):=by omega
   have hsucc:=clsTo_succ (S:=S) htj
   have hlsW:=hls.later UW (fun k hk=>by cases hk)
   have hfl:(listsTo S ts j).length<=1000:=by
    rw [listsTo_length]
    have h1:=firsts_length (clsTo S ts j)
    have h2:(clsTo S ts j).length<=ts.length:=by unfold clsTo; simp; omega
    omega
   obtain ⟨g3,cap3,hv3⟩:=slice_len hls.row
   have HW:=hide hW
   -- the place,the lists behind the test,the list that grows
   obtain ⟨place,ls,l,hplace,hmid,hnext,hll,hcase⟩:∃ place ls l,placeIn (clsTo S ts (j+1)) (classAt S t.2)=place/\ls[place]?=some l/\listsTo S ts (j+1)=ls.set place (l++[t.1])/\l.length<=ts.length/\((place=(listsTo S ts j).length/\ls=listsTo S ts j++[[]])\/(place < (listsTo S ts j).length/\ls=listsTo S ts j)):=by
    by_cases hin:classAt S t.2 ∈ clsTo S ts j
    ·refine ⟨_,listsTo S ts j,ofClass S ts j (classAt S t.2),rfl,?_,?_,?_,.inr ⟨?_,rfl⟩⟩
     ·rw [hsucc,(seen_old hin).1]; exact listsTo_at hin
     ·rw [hsucc,(seen_old hin).1]; exact listsTo_old htj hin
     ·unfold ofClass; rw [List.length_map]; exact Nat.le_trans (List.length_filter_le _ _) (by simp; omega)
     ·rw [hsucc,(seen_old hin).1,listsTo_length]; exact idx_lt _ hin
    ·refine ⟨_,listsTo S ts j++[[]],[],rfl,?_,?_,Nat.zero_le _,.inl ⟨?_,rfl⟩⟩
     ·rw [hsucc,(seen_new hin).1,<- listsTo_length]; simp
     ·rw [hsucc,(seen_new hin).1,<- listsTo_length,listsTo_new htj hin]; simp
     ·rw [hsucc,(seen_new hin).1,listsTo_length]
   rw [hplace] at hpc
   have Hnext:=hide hnext
   have hplI:(place:Int)<=((listsTo S ts j).length:Int):=by rcases hcase with ⟨e,_⟩ | ⟨e,_⟩ <;> omega
   have HlsW:=hide hlsW
   have Hur:=hide (hur.trans UW)
   generalize listsTo S ts j=ls0 at *
   have hlt1:l.length<=1000:=by omega
   have hls2:ls.length<=1001:=by rcases hcase with ⟨_,e⟩ | ⟨_,e⟩ <;> rw [e] <;> (try simp) <;> omega
   have Hown:Hid (∀ k,u3.ownBlock=some k->k < wr.heap.size):=fun k hk=>ownsRow_lt hls.row hk
   clear hsucc hplace hnext hpr hlsW HL q0 q1 hls htj hur hW
   go_upto_region 7 with (fail)
   rw [<- HW.out]
   go_upto_if 28 with (fail)
   go_cut [3] (fun v wc=>Midst w2 wr wc v t place ls l)
   case first =>
    rcases hcase with ⟨hpe,hle⟩ | ⟨hpl,hle⟩
    ·subst hpe
     have hrow1:=((Upd.refl [] W).alloc (.cells #[.slice none 0 0] 50)).ownsRow HlsW.out.row (fun _ _=>by simp)
     have Hrow1:=hide hrow1
     have hnews:=World.news_of_block (heap_alloc_new W (.cells #[.slice none 0 0] 50))
     have Hnews:=hide hnews
     have hone:∀ u ∈ [Value.slice none 0 0],u.oneCell'=true:=fun u hu=>by simp at hu; subst hu; rfl
     have hbase:w2.heap.size<=(W.alloc (.cells #[.slice none 0 0] 50)).heap.size:=Nat.le_trans Hur.out.size (by simp)
     have Hbase:=hide hbase
     have hlm4:ls0.length+1<=maxLen:=by unfold maxLen; omega
     have hlb4:(ls0.length+1) * 24<=140737488355328:=by omega
     clear hrow1 hnews hbase
     go_wp2_with (at_builtin; refine wpList_append_lies _ rfl _ _ 33 rfl w2.heap.size 50 i2 (.slice none 0 0) 1 24 Tryz.underlying33 hi2 hx0 hx1 hx2 rfl (by decide) _ _ _ rfl Hrow1.out ⟨W.heap.size,0,none⟩ 1 1 [.slice none 0 0] rfl rfl Hnews.out hone (by decide) hlm4 hlb4 Hbase.out _ rfl ?_; intro g4 cap4 w4 hown4 hgrow4 hat4 hlt4)
     go_meet
     case rel =>
      have hgrow:(W.alloc (.cells #[.slice none 0 0] 50)).grownBy w4 u3.ownBlock:=hgrow4
      have hat:u3.ownBlock=some g4\/g4=(W.alloc (.cells #[.slice none 0 0] 50)).heap.size:=hat4
      have UA:=(Upd.refl [] W).alloc (.cells #[.slice none 0 0] 50)
      have UG:Upd u3.ownBlock.toList W w4:=(UA.mono (fun x hx _=>by cases hx)).trans (Upd.of_grown hgrow)
      have hL:=(HlsW.out.later UA (fun k hk=>by cases hk)).more hown4 hgrow hat
      have hge3:∀ k,u3.ownBlock=some k->w2.heap.size<=k:=fun k hk=>own_ge HlsW.out.row hk
      have hsl:ls0.length+1<=cap4/\cap4<=maxLen:=by
       rcases ownsRow_slice hown4 with ⟨h1,_⟩ | ⟨g',cap',h1,h2,h3⟩
       ·cases h1
       ·cases h1; exact ⟨h2,h3⟩
      have e:ls.length=ls0.length+1:=by rw [hle]; simp
      refine ⟨rs++[.slice none 0 0],g4,cap4,by rw [e],by omega,hsl.2,by rw [hle]; exact hL,Hur.out.trans' UG (fun x hx hlt=>?_),(UG.cell (p:=⟨wr.heap.size,0,none⟩) hWsz (fun hm=>?_)).trans b0,hmid⟩
      ·have:=hge3 x (by simpa using hx)
       omega
      ·have:=Hown.out _ (by simpa using hm)
       omega
    ·have hne:((place:Int) == (ls0.length:Int))=false:=by simp; omega
     go_wp2_with fail
     go_meet
     case rel =>
      subst hle
      rcases ownsRow_slice HlsW.out.row with ⟨_,h2⟩ | ⟨g',cap',h1,h2,h3⟩
      ·omega
      ·exact ⟨rs,g',cap',h1,h2,h3,HlsW.out,Hur.out,b0,hmid⟩
   case rest =>
    clear HlsW Hown hcase hpc b0 b1 UW Hur hv3
    obtain ⟨rs5,g5,cap5,rfl,hc5,hc6,hls5,hu5,hb5,hl5⟩:=hcut
    have hpl:place < ls.length:=(List.getElem?_eq_some_iff.1 hl5).1
    have hplI:(place:Int) < (ls.length:Int):=by omega
    obtain ⟨r,hr⟩:∃ r,rs5[place]?=some r:=⟨_,List.getElem?_eq_getElem (by rw [hls5.len]; exact hpl)⟩
    have hrow:=hls5.all place r l hr hl5
    obtain ⟨gr,capr,hre⟩:=slice_len hrow
    have hrlt:=fun k (hk:r.ownBlock=some k)=>ownsRow_lt hrow hk
    have hg5:g5 < wc.heap.size:=ownsRow_lt hls5.row rfl
    have hrg:r.ownBlock ≠ some g5:=fun e=>hls5.out place r hr g5 e rfl
    have kc:wc.cell? ⟨g5,place,none⟩=some r:=by rw [hls5.row.cellAt place (by omega),hr]
    have kf:=fun o=>hls5.row.frozenAt o
    have UX:=(Upd.refl [] wc).alloc (.cells #[.string t.1] 9)
    have kc2:=(UX.cell (p:=⟨g5,place,none⟩) hg5 (by simp)).trans kc
    have hbl:wr.heap.size < wc.heap.size:=World.block_lt_of_cell? _ _ hb5
    have hb6:=(UX.cell (p:=⟨wr.heap.size,0,none⟩) hbl (by simp)).trans hb5
    have HF:Hid (∀ w3,(wc.alloc (.cells #[.string t.1] 9)).drew.grownBy w3 r.ownBlock->w3.cell? ⟨g5,place,none⟩=some r/\∀ o,w3.frozen? ⟨g5,o,none⟩=false):=fun w3 hg=>by
     have U:=(((Upd.refl r.ownBlock.toList wc).alloc (.cells #[.string t.1] 9)).drew).trans (Upd.of_grown hg)
     have hn:g5 ∉ r.ownBlock.toList:=fun hm=>hrg (by simpa using hm)
     exact ⟨(U.cell (p:=⟨g5,place,none⟩) hg5 hn).trans kc,fun o=>(U.frozen (p:=⟨g5,o,none⟩) hg5 hn).trans (kf o)⟩
    have hrow1:=(UX.drew).ownsRow hrow (fun _ _=>by simp)
    have hnews:∀ j u,[Value.string t.1][j]?=some u->(wc.alloc (.cells #[.string t.1] 9)).drew.cell? ((⟨wc.heap.size,0,none⟩:Addr).add j)=some u:=World.news_of_block (heap_alloc_new wc _)
    have hone:∀ u ∈ [Value.string t.1],u.oneCell'=true:=by intro u hu'; simp at hu'; subst hu'; rfl
    have HG:Hid (∀ g' cap' w3,(wc.alloc (.cells #[.string t.1] 9)).drew.grownBy w3 r.ownBlock->(r.ownBlock=some g'\/g'=(wc.alloc (.cells #[.string t.1] 9)).drew.heap.size)->w3.ownsRow w2.heap.size 9 1 (.slice (some ⟨g',0,none⟩) (l.length+1) cap') (l.length+1) (l.map Value.string++[.string t.1])->Listing w2 (w3.setCell ⟨g5,place,none⟩ (.slice (some ⟨g',0,none⟩) (l.length+1) cap')) (.slice (some ⟨g5,0,none⟩) ls.length cap5) (ls.set place (l++[t.1]))) :=
     fun g' cap' w3 hg hat hown=>Listing.put hls5 hu5 hr hl5 (UX.drew) hown hg hat
    have hbase:w2.heap.size<=(wc.alloc (.cells #[.string t.1] 9)).drew.heap.size:=Nat.le_trans hu5.size (UX.drew).size
    have hlm:l.length+1<=maxLen:=by unfold maxLen; omega
    have hlb:(l.length+1) * 16<=140737488355328:=by omega
    unfold maxLen at hc6
    have hn1:g5 ≠ wc.heap.size:=by omega
    have hn2:wr.heap.size ≠ wc.heap.size:=by omega
    subst hre
    clear hrow hls5 hrlt UX hl5 hr hmid k0 k1
    go_wp2_with fail
    go_region_law (first
     | (refine step_append_lies _ (by rfl) _ _ 50 (by rfl) w2.heap.size 9 i1 (.string ⟨#[]⟩) 1 16 Tryz.underlying50 hi1 hy0 hy1 hy2 (by rfl) (by decide) (.slice gr l.length capr) l.length (l.map Value.string) (by rfl) hrow1 ⟨wc.heap.size,0,none⟩ 1 1 [Value.string t.1] (by rfl) (by rfl) hnews hone (by decide) hlm hlb hbase _ (by rfl) ?_; intro g6 cap6 w3 hown6 hgrow6 hat6 hlt6; obtain ⟨k6,f6⟩:=HF.out w3 hgrow6))
    all_goals (
     go_wp2
     refine ⟨⟨j+1,by omega,by go_num,?_⟩,by simp [intOf]; omega⟩
     rw [Hnext.out]
     exact HG.out _ _ _ ‹_› ‹_› ‹_›)
  ·obtain rfl:j=ts.length:=by omega
   have hge:¬ ((ts.length:Nat):Int) < (ts.length:Int):=by omega
   obtain ⟨⟨rs,hls⟩,hur⟩:=HL.out
   have Hls:=hide hls
   have Hur:=hide hur
   clear HL hls hur
   go_wp2
   go_ret
   refine ⟨_,rfl,HU2.out.trans Hur.out,rs,?_⟩
   rw [HC.out]
   have hl:=Hls.out
   have hle:w.heap.size<=w2.heap.size:=HU2.out.size
   exact ⟨own_base hl.row hle,hl.len,fun p r l h1 h2=>own_base (hl.all p r l h1 h2) hle,hl.out,hl.sep⟩
def sayT (S:WS) (x:Nat × Nat × Nat):ByteArray:=plainT S x.2.1++(⟨#[32]⟩:ByteArray)++signB (x.1 == 0)++(⟨#[32]⟩:ByteArray)++plainT S x.2.2
def saidOf (S:WS):List ByteArray:=S.said.map (sayT S)
theorem plainT_size {S:WS} (h:∀ g j,(plainF S g j).length<=1000) (i:Nat):(plainT S i).size<=1000:=by
 have:=h (i+1) i
 show (plainF S (i+1) i).toArray.size<=1000
 simpa using this
structure Telling (w wr:World) (wb:Nat) (H:Hd) (Z:Nat->Prop) (S:WS) (v:Value) (j:Nat):Prop where
 web:WebAt wr wb H Z S
 row:wr.ownsRow w.heap.size 9 1 v j (((saidOf S).take j).map Value.string)
 upd:Upd [] w wr
theorem Telling.next {w wr w2 w3:World} {wb j g cap:Nat} {H:Hd} {Z:Nat->Prop} {S:WS} {v:Value} {t:ByteArray} {X:Obj} (h:Telling w wr wb H Z S v j) (hZ:∀ k,Z k->k < w.heap.size) (hu2:Upd [] wr w2) (ht:(saidOf S)[j]?=some t)
  (hown:w3.ownsRow w.heap.size 9 1 (.slice (some ⟨g,0,none⟩) (j+1) cap) (j+1) (((saidOf S).take j).map Value.string++[.string t])) (hgrow:(w2.alloc X).grownBy w3 v.ownBlock):Telling w w3 wb H Z S (.slice (some ⟨g,0,none⟩) (j+1) cap) (j+1):=by
 have U:Upd v.ownBlock.toList wr w3:=((hu2.alloc X).mono (fun x hx _=>by cases hx)).trans (Upd.of_grown hgrow)
 have hge:∀ k,v.ownBlock=some k->w.heap.size<=k:=fun k hk=>own_ge h.row hk
 refine ⟨h.web.later U (fun k hk hm=>?_),?_,h.upd.trans' U (fun x hx hl=>?_)⟩
 ·have:=hge k (by simpa using hm)
  have:=hZ k hk
  omega
 ·have hlt:=(List.getElem?_eq_some_iff.1 ht).1
  rw [List.getElem?_eq_getElem hlt] at ht
  rw [List.take_succ_eq_append_getElem hlt,Option.some.inj ht,List.map_append]
  exact hown
 ·have:=hge x (by simpa using hx)
  omega
theorem webSaid_any (w:World) (wb:Nat) (H:Hd) (Z:Nat->Prop) (S:WS) (h:WebAt w wb H Z S) (hB:Base S) (hZ:∀ k,Z k->k < w.heap.size) (hn:S.shapes.length<=1000) (hsd:S.said.length<=1000) (htag:∀ x ∈ S.said,x.1<=1) (hsm:∀ g j,(plainF S g j).length<=1000) :
  Calls Tryz.prog 47 #[.pointer (some ⟨wb,0,none⟩)] w fun e w'=>∃ v,e=.returned v/\Upd [] w w'/\StrRow w' w.heap.size v (saidOf S):=by
 obtain ⟨i1,hi1,hy0,hy1,hy2⟩:=info_parts info_str
 obtain ⟨w1,hmk,hown1,hgr1⟩:=run_make_own (P:=Tryz.prog) w w.heap.size 50 9 i1 _ 1 Tryz.underlying50 hi1 hy0 hy1 .i64 .i64 S.said.length (by rw [hy2]; omega) (by unfold maxLen; omega) (Nat.le_refl _)
 have U1:Upd [] w w1:=Upd.of_grown hgr1
 obtain ⟨g0,cap0,hv0⟩:=slice_len h.rd
 have c5:=h.c5
 rw [hv0] at c5
 have c5':=(U1.cell (p:=⟨wb,6,none⟩) h.lt (by simp)).trans c5
 have hstart:Telling w w1 wb H Z S (.slice (some ⟨w.heap.size,0,none⟩) 0 S.said.length) 0:=⟨h.later U1 (fun _ _=>by simp),hown1,U1⟩
 have HZ:=hide hZ
 have HP:=hide (fun (W:World) (hu:Upd [] w W) (i:Nat) (hi:i < S.shapes.length)=>plain_any W wb H Z S i (h.later hu (fun _ _=>by simp)) hB (fun k hk=>Nat.lt_of_lt_of_le (hZ k hk) hu.size) hi hn hsm)
 have Hsz:=hide (fun i=>plainT_size hsm i)
 have Hlt:=hide hB.saidLt
 have hcl:=hB.inv.len
 have Hcl:=hide hcl
 have Htag:=hide htag
 have Hrd:=hide h.rd
 have Hv0:=hide hv0
 have hlt:=h.lt
 have HlT:Hid ((saidOf S).length=S.said.length):=by show _=_; simp [saidOf]
 have Hg0:Hid (0 < S.said.length->∃ b,g0=some ⟨b,0,none⟩/\b < w.heap.size/\S.said.length<=cap0/\cap0<=maxLen):=fun hp=>by
  rcases ownsRow_slice h.rd with ⟨_,h2⟩ | ⟨g',cap',h1,h2,h3⟩
  ·omega
  ·have hl:=ownsRow_lt h.rd (k:=g') (by rw [h1]; rfl)
   rw [hv0] at h1
   cases h1
   exact ⟨g',rfl,hl,h2,h3⟩
 clear h hB hsm hown1 hgr1 hv0 hZ hcl htag
 go_enter Tryz.func47,Tryz.ntmps47
 go_wp2
 go_loopw [3,17] (fun v i wr=>∃ j:Nat,j<=S.said.length/\i=.int .i64 j/\Hid (Telling w wr wb H Z S v j)) (fun _ i _=>S.said.length - (intOf i).toNat)
 case atStart=>exact ⟨0,Nat.zero_le _,rfl,hstart⟩
 case round =>
  obtain ⟨j,hj,rfl,HT⟩:=hrel
  clear hstart hmk c5 c5' U1
  by_cases hjn:j < S.said.length
  ·have hjn':(j:Int) < (S.said.length:Int):=by omega
   obtain ⟨b,rfl,hbl,hc1,hc2⟩:=Hg0.out (by omega)
   obtain ⟨x,hx⟩:∃ x,S.said[j]?=some x:=⟨_,List.getElem?_eq_getElem hjn⟩
   have hxm:=List.mem_of_getElem? hx
   obtain ⟨l1,l2⟩:=Hlt.out x hxm
   rw [<- Hcl.out] at l1 l2
   have ht1:=Htag.out x hxm
   have hrd:=Hrd.out
   rw [Hv0.out] at hrd
   obtain ⟨f0,f1,f2⟩:=flatSaid_get hx
   have q0:=(hrd.cellAt (j * 3) (by omega)).trans f0
   have q1:=(hrd.cellAt (j * 3+1) (by omega)).trans f1
   have q2:=(hrd.cellAt (j * 3+2) (by omega)).trans f2
   have k0:=(HT.out.upd.cell (p:=⟨b,j * 3,none⟩) hbl (by simp)).trans q0
   have k1:=(HT.out.upd.cell (p:=⟨b,j * 3+1,none⟩) hbl (by simp)).trans q1
   have k2:=(HT.out.upd.cell (p:=⟨b,j * 3+2,none⟩) hbl (by simp)).trans q2
   obtain ⟨W,hW⟩:∃ W,W=wr.alloc (.cells #[.int .i64 x.1,.int .i64 x.2.1,.int .i64 x.2.2] 134):=⟨_,rfl⟩
   have UW:Upd [] wr W:=hW ▸ (Upd.refl [] wr).alloc _
   have hWsz:wr.heap.size < W.heap.size:=by rw [hW]; simp
   have b0:W.cell? ⟨wr.heap.size,0,none⟩=some (.int .i64 x.1):=by rw [hW]; go_simp
   have b1:W.cell? ⟨wr.heap.size,1,none⟩=some (.int .i64 x.2.1):=by rw [hW]; go_simp
   have b2:W.cell? ⟨wr.heap.size,2,none⟩=some (.int .i64 x.2.2):=by rw [hW]; go_simp
   have Hu0:=hide (HT.out.upd.trans UW)
   have HPl:=hide (fun (W':World) (hu:Upd [] W W')=>HP.out W' (Hu0.out.trans hu) x.2.1 l1)
   have HPr:=hide (fun (W':World) (hu:Upd [] W W')=>HP.out W' (Hu0.out.trans hu) x.2.2 l2)
   have HSg:=hide (fun (W':World)=>signString_any x.1 W' ht1)
   have z1:=Hsz.out x.2.1
   have z2:=Hsz.out x.2.2
   have z3:(signB (x.1 == 0)).size<=2:=by unfold signB; split <;> decide
   have Hst:Hid ((saidOf S)[j]?=some (plainT S x.2.1++(⟨#[32]⟩:ByteArray)++signB (x.1 == 0)++(⟨#[32]⟩:ByteArray)++plainT S x.2.2)):=by
    show _=_
    unfold saidOf
    rw [List.getElem?_map,hx]
    rfl
   have HK:=hide (fun (w3:World) (hu3:Upd [] W w3)=>(⟨(hu3.cell (p:=⟨wr.heap.size,0,none⟩) hWsz (by simp)).trans b0,(hu3.cell (p:=⟨wr.heap.size,1,none⟩) hWsz (by simp)).trans b1,(hu3.cell (p:=⟨wr.heap.size,2,none⟩) hWsz (by simp)).trans b2⟩:w3.cell? ⟨wr.heap.size,0,none⟩=some (.int .i64 x.1)/\w3.cell? ⟨wr.heap.size,1,none⟩=some (.int .i64 x.2.1)/\w3.cell? ⟨wr.heap.size,2,none⟩=some (.int .i64 x.2.2)))
   have HKg:Hid (∀ (w4 w6:World),Upd [] W w4->(w4.alloc (.cells #[.string (plainT S x.2.1++(⟨#[32]⟩:ByteArray)++signB (x.1 == 0)++(⟨#[32]⟩:ByteArray)++plainT S x.2.2)] 9)).grownBy w6 u3.ownBlock->w6.cell? ⟨wr.heap.size,0,none⟩=some (.int .i64 x.1)/\w6.cell? ⟨wr.heap.size,1,none⟩=some (.int .i64 x.2.1)/\w6.cell? ⟨wr.heap.size,2,none⟩=some (.int .i64 x.2.2)):=fun w4 w6 hu4 hg=>by
    have U:Upd u3.ownBlock.toList W w6:=((hu4.alloc _).mono (fun x hx _=>by cases hx)).trans (Upd.of_grown hg)
    have hn:wr.heap.size ∉ u3.ownBlock.toList:=fun hm=>by
     have:=ownsRow_lt HT.out.row (by simpa using hm)
     omega
    exact ⟨(U.cell (p:=⟨wr.heap.size,0,none⟩) hWsz hn).trans b0,(U.cell (p:=⟨wr.heap.size,1,none⟩) hWsz hn).trans b1,(U.cell (p:=⟨wr.heap.size,2,none⟩) hWsz hn).trans b2⟩
   have HW:=hide hW
   have HUW:=hide UW
   unfold maxLen at hc2
   have hcI:(j:Int) < (cap0:Int):=by omega
   have hlm:j+1<=maxLen:=by unfold maxLen; omega
   have hlb:(j+1) * 16<=140737488355328:=by omega
   generalize plainT S x.2.1=tl at *
   generalize plainT S x.2.2=tr at *
   generalize signB (x.1 == 0)=ts at *
   have e1:(⟨#[32]⟩:ByteArray).size=1:=rfl
   have hA1:∀ w,(Op.stringOp .add tl ⟨#[32]⟩).run Tryz.prog w=.ok (.string (tl++⟨#[32]⟩)) w:=fun w=>run_string_add_sum w _ _ (by omega)
   have hA2:∀ w,(Op.stringOp .add (tl++⟨#[32]⟩) ts).run Tryz.prog w=.ok (.string (tl++⟨#[32]⟩++ts)) w:=fun w=>run_string_add_sum w _ _ (by simp only [ByteArray.size_append]; omega)
   have hA3:∀ w,(Op.stringOp .add (tl++⟨#[32]⟩++ts) ⟨#[32]⟩).run Tryz.prog w=.ok (.string (tl++⟨#[32]⟩++ts++⟨#[32]⟩)) w:=fun w=>run_string_add_sum w _ _ (by simp only [ByteArray.size_append]; omega)
   have hA4:∀ w,(Op.stringOp .add (tl++⟨#[32]⟩++ts++⟨#[32]⟩) tr).run Tryz.prog w=.ok (.string (tl++⟨#[32]⟩++ts++⟨#[32]⟩++tr)) w:=fun w=>run_string_add_sum w _ _ (by simp only [ByteArray.size_append]; omega)
   clear e1
   have hone:∀ u ∈ [Value.string (tl++(⟨#[32]⟩:ByteArray)++ts++(⟨#[32]⟩:ByteArray)++tr)],u.oneCell'=true:=by intro u hu'; simp at hu'; subst hu'; rfl
   have HR:Hid (∀ (w4:World) (hu:Upd [] W w4),(w4.alloc (.cells #[.string (tl++(⟨#[32]⟩:ByteArray)++ts++(⟨#[32]⟩:ByteArray)++tr)] 9)).ownsRow w.heap.size 9 1 u3 j (((saidOf S).take j).map Value.string)/\w.heap.size<=(w4.alloc (.cells #[.string (tl++(⟨#[32]⟩:ByteArray)++ts++(⟨#[32]⟩:ByteArray)++tr)] 9)).heap.size):=fun w4 hu=>⟨((UW.trans hu).alloc _).ownsRow HT.out.row (fun _ _=>by simp),Nat.le_trans Hu0.out.size (hu.alloc _).size⟩
   clear hx hxm l1 l2 ht1 hrd f0 f1 f2 q0 q1 q2 hW UW Hrd Hv0 Hlt Hcl Htag HP Hsz Hg0
   go_upto_region 5 with (fail)
   rw [<- HW.out]
   clear k0 k1 k2
   go_region_held3 (fun w'=>w'.cell? ⟨wr.heap.size,0,none⟩=some (.int .i64 x.1)/\w'.cell? ⟨wr.heap.size,1,none⟩=some (.int .i64 x.2.1)/\w'.cell? ⟨wr.heap.size,2,none⟩=some (.int .i64 x.2.2)) ((first | go_keep | (refine ⟨?_,?_,?_⟩ <;> go_simp)))
    (first
     | (refine step_append_lies _ (by rfl) _ _ 50 (by rfl) w.heap.size 9 i1 (.string ⟨#[]⟩) 1 16 Tryz.underlying50 hi1 hy0 hy1 hy2 (by rfl) (by decide) u3 j (((saidOf S).take j).map Value.string) (by rfl) hrow4 ⟨w4.heap.size,0,none⟩ 1 1 [.string (tl++(⟨#[32]⟩:ByteArray)++ts++(⟨#[32]⟩:ByteArray)++tr)] (by rfl) (by rfl) hnews4 hone (by decide) hlm hlb hbase4 _ (by rfl) ?_; intro g6 cap6 w6 hown6 hgrow6 hat6 hlt6; obtain ⟨x0,x1,x2⟩:=HKg.out w4 w6 Hu4.out hgrow6)
     | (go_at_call_of 88 (Value.int .i64 x.2.1); refine (HPl.out _ (Upd.refl [] W).drew).mono ?_; rintro e w3 ⟨rfl,hu3⟩; have Hu3:=hide ((Upd.refl [] W).drew.trans hu3); obtain ⟨y0,y1,y2⟩:=HK.out w3 Hu3.out; clear hu3)
     | (go_at_call 89; refine (HSg.out _).mono ?_; rintro e w9 ⟨rfl,hw9⟩; rw [hw9]; clear hw9 w9)
     | (go_at_call_of 88 (Value.int .i64 x.2.2); refine (HPr.out _ Hu3.out).mono ?_; rintro e w4 ⟨rfl,hu4⟩; have Hu4:=hide (Hu3.out.trans hu4); obtain ⟨x0,x1,x2⟩:=HK.out w4 Hu4.out; obtain ⟨hrow4,hbase4⟩:=HR.out w4 Hu4.out; have hnews4:=World.news_of_block (heap_alloc_new w4 (.cells #[.string (tl++(⟨#[32]⟩:ByteArray)++ts++(⟨#[32]⟩:ByteArray)++tr)] 9)); clear hu4))
   go_wp2
   refine ⟨⟨j+1,by omega,by go_num,?_⟩,by simp [intOf]; omega⟩
   exact HT.out.next HZ.out (HUW.out.trans Hu4.out) Hst.out hown6 hgrow6
  ·obtain rfl:j=S.said.length:=by omega
   have hge:¬ ((S.said.length:Nat):Int) < (S.said.length:Int):=by omega
   have HF:Hid (StrRow wr w.heap.size u3 (saidOf S)):=by
    show World.ownsRow _ _ _ _ _ (saidOf S).length ((saidOf S).map Value.string)
    have:=HT.out.row
    rw [List.take_of_length_le (by rw [HlT.out]; exact Nat.le_refl _)] at this
    rw [HlT.out]
    exact this
   have Hu:=hide HT.out.upd
   clear HT HP Hg0 Hrd Hv0
   go_wp2
   go_ret
   exact ⟨_,rfl,Hu.out,HF.out⟩
end Go.Proofs.YtmfkpllnmmfpiaaGreatDoor
