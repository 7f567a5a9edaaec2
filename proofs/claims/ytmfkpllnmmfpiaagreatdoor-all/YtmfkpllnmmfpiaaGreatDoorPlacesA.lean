/- Tell, ByText, IMap, Firsts, Places -/
import Derived.Test.YtmfkpllnmmfpiaaGreatDoorPlainTextA
import Derived.Laws.MakeOwn
import Derived.Lib.Bytealg
import Derived.Lib.Strings
import Derived.Test.YtmfkpllnmmfpiaaGreatDoorWebHeapA
import Derived.PlainAid
import Derived.Test.YtmfkpllnmmfpiaaGreatDoorTwinsA
import Derived.Deep.OwnRows
set_option maxHeartbeats 16000000
set_option maxRecDepth 100000
namespace Go.Proofs.YtmfkpllnmmfpiaaGreatDoor
open Go.RowKit Go.Shelf Go.Sort Go.Maps
theorem cmpString_any (a b:ByteArray) (w:World) :
  Calls Tryz.prog 136 #[.string a,.string b] w fun e w'=>e=.returned (.int .i64 (Lib.compareBytes a.data.toList b.data.toList))/\w'=w:=by
 go_enter Tryz.func136,Tryz.ntmps136
 go_wp2
 rw [run_callFunc_extern Tryz.func169 (by kernel_rfl) (by kernel_rfl) (by kernel_rfl) (e:=Extern.BytealgCompare.compare) (by kernel_rfl),Lib.run_compareString]
 simp only [Result.andThen]
 rw [Oper.upon_value]
 go_wp2
 go_ret
 exact ⟨rfl,rfl⟩
theorem stringsCompare_any (a b:ByteArray) (w:World) :
  Calls Tryz.prog 117 #[.string a,.string b] w fun e w'=>e=.returned (.int .i64 (Lib.compareBytes a.data.toList b.data.toList))/\w'=w:=by
 have HC:=hide (cmpString_any a b w)
 go_enter Tryz.func117,Tryz.ntmps117
 go_wp2_with (go_at_call 136; refine HC.out.mono ?_; rintro e w' ⟨rfl,hw⟩; rw [hw]; clear hw w')
 go_ret
 exact ⟨rfl,rfl⟩
abbrev TN:=ByteArray × Nat
def encT (x:TN):List Value:=[.string x.1,.int .i64 x.2]
def cmpT (x y:TN):Int:=Lib.compareBytes x.1.data.toList y.1.data.toList
theorem cmpText_any (x y:TN) (W:World):Calls Tryz.prog 116 #[.agg #[.string x.1,.int .i64 x.2],.agg #[.string y.1,.int .i64 y.2]] W fun e w'=>e=.returned (.int .i64 (cmpT x y))/\∃ q os',w'=grow (W.drewN q) os':=by
 have HC:=hide (fun W'=>stringsCompare_any x.1 y.1 W')
 unfold cmpT
 generalize Lib.compareBytes x.1.data.toList y.1.data.toList=r at *
 go_enter Tryz.func116,Tryz.ntmps116
 go_wp2_with (go_at_call 117; refine (HC.out _).mono ?_; rintro e w' ⟨rfl,hw⟩; rw [hw]; clear hw w')
 go_ret
 exact ⟨rfl,0,_,by rw [alloc_eq_grow,alloc_eq_grow,grow_grow]; rfl⟩
theorem cmpLays_text (blk off size:Nat) (w:World):CmpLays Tryz.prog 116 #[] encT 2 cmpT blk off size w:=fun _ _ _ _ x y=>cmpText_any x y _
theorem cmpB_cons (a b:UInt8) (l m:List UInt8):Lib.compareBytes (a :: l) (b :: m)=if a < b then -1 else if b < a then 1 else Lib.compareBytes l m:=rfl
theorem cmpB_lt:∀ a b:List UInt8,(Lib.compareBytes a b < 0 ↔ a < b)/\(Lib.compareBytes a b=0 ↔ a=b)
 | [],[]=>by simp [Lib.compareBytes]
 | [],b :: m=>by simp [Lib.compareBytes]
 | a :: l,[]=>by simp [Lib.compareBytes]
 | a :: l,b :: m=>by
  obtain ⟨h1,h2⟩:=cmpB_lt l m
  rw [cmpB_cons,List.cons_lt_cons_iff]
  by_cases hab:a < b
  ·rw [if_pos hab]
   refine ⟨by simp [hab],by simp; rintro rfl; exact absurd hab (UInt8.lt_irrefl a)⟩
  ·rw [if_neg hab]
   by_cases hba:b < a
   ·rw [if_pos hba]
    have hne:a ≠ b:=fun e=>by subst e; exact UInt8.lt_irrefl a hba
    refine ⟨by simp [hab,hne],by simp [hne]⟩
   ·rw [if_neg hba]
    have he:a=b:=UInt8.toNat_inj.1 (by
     have g1:¬ a.toNat < b.toNat:=hab
     have g2:¬ b.toNat < a.toNat:=hba
     omega)
    subst he
    refine ⟨by simp [hab,h1],by simp [h2]⟩
def ltT:TN->TN->Bool:=ltOf cmpT
theorem ltT_iff (x y:TN):ltT x y=true ↔ x.1.data.toList < y.1.data.toList:=by
 unfold ltT ltOf cmpT
 rw [decide_eq_true_eq]
 exact (cmpB_lt _ _).1
theorem swoT:SWO (ltOf cmpT) where
 irrefl x:=by
  have h:¬ ltT x x=true:=fun h=>List.lt_irrefl _ ((ltT_iff x x).1 h)
  simpa [ltT] using h
 trans x y z h1 h2:=(ltT_iff x z).2 (List.lt_trans ((ltT_iff x y).1 h1) ((ltT_iff y z).1 h2))
 ntrans x y z h1 h2:=by
  have g1:¬ x.1.data.toList < y.1.data.toList:=fun h=>by have:=(ltT_iff x y).2 h; unfold ltT at this; rw [h1] at this; cases this
  have g2:¬ y.1.data.toList < z.1.data.toList:=fun h=>by have:=(ltT_iff y z).2 h; unfold ltT at this; rw [h2] at this; cases this
  have g3:¬ ltT x z=true:=fun h=>List.not_lt.2 (List.le_trans (List.not_lt.1 g2) (List.not_lt.1 g1)) ((ltT_iff x z).1 h)
  simpa [ltT] using g3
theorem info_textOf:(Tryz.prog.info? 147).map (fun i=>(i.zero,i.size,i.bytes))=some (some (.agg #[.string ⟨#[]⟩,.int .i64 0]),2,24):=by kernel_rfl
def flatT:List TN->List Value
 | []=>[]
 | x :: l=>.string x.1 :: .int .i64 x.2 :: flatT l
theorem flatT_append (a b:List TN):flatT (a++b)=flatT a++flatT b:=by
 induction a with
 | nil=>rfl
 | cons c cs ih=>simp [flatT,ih]
theorem flatT_get:∀ (l:List TN) (j:Nat) (x:TN),l[j]?=some x->(flatT l)[j * 2]?=some (.string x.1)/\(flatT l)[j * 2+1]?=some (.int .i64 x.2)
 | [],_,_,h=>by simp at h
 | y :: l,0,x,h=>by
  simp only [List.getElem?_cons_zero,Option.some.injEq] at h
  subst h
  exact ⟨rfl,rfl⟩
 | y :: l,j+1,x,h=>by
  have:=flatT_get l j x (by simpa using h)
  rw [show (j+1) * 2=j * 2+1+1 by omega]
  exact this
theorem flatT_length:∀ l:List TN,(flatT l).length=l.length * 2
 | []=>rfl
 | _ :: l=>by simp [flatT,flatT_length l]; omega
def textsTo (S:WS) (j:Nat):List TN:=(List.range j).map fun i=>(plainT S i,i)
theorem textsTo_succ (S:WS) (j:Nat):textsTo S (j+1)=textsTo S j++[(plainT S j,j)]:=by simp [textsTo,List.range_succ]
theorem textsTo_length (S:WS) (j:Nat):(textsTo S j).length=j:=by simp [textsTo]
structure Texting (w wr:World) (wb:Nat) (H:Hd) (Z:Nat->Prop) (S:WS) (v:Value) (j:Nat):Prop where
 web:WebAt wr wb H Z S
 row:wr.ownsRow w.heap.size 147 2 v j (flatT (textsTo S j))
 upd:Upd [] w wr
 made:v.ownBlock ≠ none
theorem own_ge {w:World} {base e size n k:Nat} {v:Value} {xs:List Value} (h:w.ownsRow base e size v n xs) (hk:v.ownBlock=some k):base<=k:=by
 rcases h.2 with ⟨hv,_⟩ | ⟨g,cap,cur,hv,hg,_⟩
 ·rw [hv] at hk; simp [Value.ownBlock] at hk
 ·rw [hv] at hk
  simp only [own_slice,Option.some.injEq] at hk
  subst hk
  exact hg
theorem Texting.next {w wr w2 w3:World} {wb j g cap:Nat} {H:Hd} {Z:Nat->Prop} {S:WS} {v:Value} {t:ByteArray} {X:Obj} (h:Texting w wr wb H Z S v j) (hZ:∀ k,Z k->k < w.heap.size) (hu2:Upd [] wr w2) (ht:t=plainT S j)
  (hown:w3.ownsRow w.heap.size 147 2 (.slice (some ⟨g,0,none⟩) (j+1) cap) (j+1) (flatT (textsTo S j)++[.string t,.int .i64 j])) (hgrow:(w2.alloc X).grownBy w3 v.ownBlock):Texting w w3 wb H Z S (.slice (some ⟨g,0,none⟩) (j+1) cap) (j+1):=by
 have U:Upd v.ownBlock.toList wr w3:=((hu2.alloc X).mono (fun x hx _=>by cases hx)).trans (Upd.of_grown hgrow)
 have hge:∀ k,v.ownBlock=some k->w.heap.size<=k:=fun k hk=>own_ge h.row hk
 refine ⟨h.web.later U (fun k hk hm=>?_),?_,h.upd.trans' U (fun x hx hl=>?_),by simp [own_slice]⟩
 ·have:=hge k (by simpa using hm)
  have:=hZ k hk
  omega
 ·rw [textsTo_succ,flatT_append]
  subst ht
  exact hown
 ·have:=hge x (by simpa using hx)
  omega
structure TextsAt (w:World) (base:Nat) (v:Value) (ts:List TN):Prop where
 ex:∃ g cap,v=.slice (some ⟨g,0,none⟩) ts.length cap/\ts.length<=cap/\cap<=maxLen/\base<=g/\g < w.heap.size/\∀ (j:Nat) (x:TN),ts[j]?=some x->w.cell? ⟨g,j * 2,none⟩=some (.string x.1)/\w.cell? ⟨g,j * 2+1,none⟩=some (.int .i64 x.2)
theorem TextsAt.later {w w':World} {L:List Nat} {base:Nat} {v:Value} {ts:List TN} (h:TextsAt w base v ts) (U:Upd L w w') (hL:∀ k ∈ L,k < base\/w.heap.size<=k):TextsAt w' base v ts:=by
 obtain ⟨g,cap,h1,h2,h3,h4,h5,h6⟩:=h.ex
 have hn:g ∉ L:=fun hm=>by have:=hL g hm; omega
 exact ⟨g,cap,h1,h2,h3,h4,Nat.lt_of_lt_of_le h5 U.size,fun j x hj=>⟨(U.cell (p:=⟨g,j * 2,none⟩) h5 hn).trans (h6 j x hj).1,(U.cell (p:=⟨g,j * 2+1,none⟩) h5 hn).trans (h6 j x hj).2⟩⟩
theorem flatK_T (d:Array TN):flatK encT 2 d=(flatT d.toList).toArray:=by
 refine ext_get! (by simp [flatT_length]) fun t ht=>?_
 rw [size_flatK] at ht
 rw [get_flatK encT 2 d t ht]
 have hq:t / 2 < d.size:=by omega
 have hd:d.toList[t / 2]?=some d[t / 2]:=by simp [hq]
 obtain ⟨g1,g2⟩:=flatT_get d.toList (t / 2) d[t / 2] hd
 have e1:d[t / 2]! = d[t / 2]:=getElem!_pos d (t / 2) hq
 rw [e1]
 have hsz:t < (flatT d.toList).toArray.size:=by simp [flatT_length]; exact ht
 rw [getElem!_pos _ t hsz]
 have hl:t < (flatT d.toList).length:=by simpa using hsz
 have e2:(flatT d.toList).toArray[t]=(flatT d.toList)[t]:=by simp
 rw [e2]
 rcases Nat.mod_two_eq_zero_or_one t with hm | hm
 ·rw [hm]
  have ht2:t / 2 * 2=t:=by omega
  rw [ht2,List.getElem?_eq_getElem hl] at g1
  rw [Option.some.inj g1]
  rfl
 ·rw [hm]
  have ht2:t / 2 * 2+1=t:=by omega
  rw [ht2,List.getElem?_eq_getElem hl] at g2
  rw [Option.some.inj g2]
  rfl
theorem upd_sort {w:World} (g m:Nat) (d:Array TN) (os:Array Obj):Upd [g] w (sortWorldK encT 2 w g 0 m d os):=by
 unfold sortWorldK putRowK putRow
 refine ⟨rfl,rfl,rfl,?_,fun k hk hn=>?_⟩
 ·simp [grow,mapBlock,Sort.ahead]
 ·simp only [List.mem_singleton] at hn
  simp only [grow,mapBlock,Sort.ahead]
  rw [Array.getElem?_append_left (by simpa using hk)]
  rw [Array.getElem?_modify,if_neg (fun e=>hn e.symm)]
def sortedT (S:WS):List TN:=(Sort.pdq (ltOf cmpT) (textsTo S S.shapes.length).toArray 0 (textsTo S S.shapes.length).toArray.size (Lib.bitLen (textsTo S S.shapes.length).toArray.size) true true).toList
theorem sortedT_perm (S:WS):PermIn 0 S.shapes.length (textsTo S S.shapes.length).toArray (sortedT S).toArray/\SortedIn (ltOf cmpT) 0 S.shapes.length (sortedT S).toArray:=by
 have h:=pdq_sorts (ltOf cmpT) swoT (textsTo S S.shapes.length).toArray 0 (textsTo S S.shapes.length).toArray.size (Lib.bitLen (textsTo S S.shapes.length).toArray.size) true true (Nat.zero_le _) (Nat.le_refl _) (Or.inl rfl)
 have e:(textsTo S S.shapes.length).toArray.size=S.shapes.length:=by simp [textsTo_length]
 unfold sortedT
 rw [Array.toArray_toList]
 rw [e] at h ⊢
 exact h
theorem holdsT {w:World} {base g cap n:Nat} {ts:List TN} (h:w.ownsRow base 147 2 (.slice (some ⟨g,0,none⟩) n cap) n (flatT ts)) (hl:ts.length=n):HoldsK encT 2 w g 0 ts.toArray:=by
 intro j hj
 rw [flatK_T] at hj ⊢
 have hj':j < (flatT ts).length:=by simpa using hj
 have h2:=flatT_length ts
 rw [Nat.zero_add,h.cellAt j (by omega),List.getElem?_eq_getElem hj',getElem!_pos _ j hj]
 exact ⟨by simp,h.frozenAt j⟩
theorem sorted_at {w:World} {base g cap m:Nat} {ts:List TN} {d:Array TN} {os:Array Obj} (h:w.ownsRow base 147 2 (.slice (some ⟨g,0,none⟩) ts.length cap) ts.length (flatT ts)) (hs:d.size=ts.length):TextsAt (sortWorldK encT 2 w g 0 m d os) base (.slice (some ⟨g,0,none⟩) ts.length cap) d.toList:=by
 have hg:g < w.heap.size:=ownsRow_lt h rfl
 have hH:=holdsT h rfl
 have hP:=holdsK_putRowK encT 2 (Sort.ahead w m) g 0 ts.toArray d (holdsK_ahead encT 2 w m g 0 _ hH) (by simp [hs])
 have hsz:(putRowK encT 2 (Sort.ahead w m) g 0 d).heap.size=w.heap.size:=by simp [putRowK,putRow,mapBlock,Sort.ahead]
 have hG:HoldsK encT 2 (sortWorldK encT 2 w g 0 m d os) g 0 d:=holdsK_grow encT 2 _ os g 0 d (by omega) hP
 rcases ownsRow_slice h with ⟨h1,_⟩ | ⟨g',cap',h1,h2,h3⟩
 ·cases h1
 ·cases h1
  refine ⟨g,cap,by simp [hs],by simpa [hs] using h2,h3,own_ge h rfl,Nat.lt_of_lt_of_le hg (upd_sort g m d os).size,fun j x hj=>?_⟩
  have hlt:j < d.size:=by
   have:=(List.getElem?_eq_some_iff.1 hj).1
   simpa using this
  have hx:d[j]! = x:=by
   rw [getElem!_pos d j hlt]
   have:d.toList[j]?=some d[j]:=by simp [hlt]
   rw [this] at hj
   exact Option.some.inj hj
  have c0:=(hG.cell (i:=j) (c:=0) hlt (by omega)).1
  have c1:=(hG.cell (i:=j) (c:=1) hlt (by omega)).1
  rw [hx] at c0 c1
  rw [Nat.zero_add] at c0 c1
  exact ⟨c0,c1⟩
theorem sortedT_length (S:WS):(sortedT S).length=S.shapes.length:=by
 have:=(sortedT_perm S).1.1
 simpa [textsTo_length] using this
theorem byText_any (w:World) (wb:Nat) (H:Hd) (Z:Nat->Prop) (S:WS) (h:WebAt w wb H Z S) (hB:Base S) (hZ:∀ k,Z k->k < w.heap.size) (hn:S.shapes.length<=1000) (hsm:∀ g j,(plainF S g j).length<=1000) :
  Calls Tryz.prog 83 #[.pointer (some ⟨wb,0,none⟩)] w fun e w'=>∃ v,e=.returned v/\Upd [] w w'/\TextsAt w' w.heap.size v (sortedT S):=by
 obtain ⟨i0,hi,hz0,hz1,hz2⟩:=info_parts info_textOf
 obtain ⟨w1,hmk,hown1,hgr1⟩:=run_make_own (P:=Tryz.prog) w w.heap.size 137 147 i0 _ 2 Tryz.underlying137 hi hz0 hz1 .i64 .i64 S.shapes.length (by rw [hz2]; omega) (by unfold maxLen; omega) (Nat.le_refl _)
 have U1:Upd [] w w1:=Upd.of_grown hgr1
 obtain ⟨g0,cap0,hv0⟩:=slice_len h.rs
 have c1:=h.c1
 rw [hv0] at c1
 have c1':=(U1.cell (p:=⟨wb,2,none⟩) h.lt (by simp)).trans c1
 have hstart:Texting w w1 wb H Z S (.slice (some ⟨w.heap.size,0,none⟩) 0 S.shapes.length) 0:=⟨h.later U1 (fun _ _=>by simp),hown1,U1,by simp [own_slice]⟩
 have HZ:=hide hZ
 have HP:=hide (fun (wr:World) (v:Value) (j:Nat) (ht:Texting w wr wb H Z S v j) (hj:j < S.shapes.length)=>plain_any wr wb H Z S j ht.web hB (fun k hk=>Nat.lt_of_lt_of_le (hZ k hk) ht.upd.size) hj hn hsm)
 have eg:∀ args w,(callFunc 116 args).run Tryz.prog w=.ok (.enter 116 args) w:=enters_of Tryz.func116 (by kernel_rfl) rfl
 have HCon:Hid (∀ (wr:World) (g cap:Nat) (ht:Texting w wr wb H Z S (.slice (some ⟨g,0,none⟩) S.shapes.length cap) S.shapes.length),Calls Tryz.prog 115 #[.slice (some ⟨g,0,none⟩) S.shapes.length cap,.func (.func 116) #[] #[]] wr fun e w'=>e=.returned (.tuple #[])/\TextsAt w' w.heap.size (.slice (some ⟨g,0,none⟩) S.shapes.length cap) (sortedT S)/\Upd [] w w'):=fun wr g cap ht=>by
  have hl:=textsTo_length S S.shapes.length
  have hrow:=ht.row
  have hsz:(textsTo S S.shapes.length).toArray.size=S.shapes.length:=by simp [hl]
  have hc:=AnyQ.slices_SortFunc_eq sortT 2 Tryz.isAgg147 Tryz.sizeOf147 encT (fun _=>rfl) (fun x v hv=>by simp [encT] at hv; rcases hv with rfl | rfl <;> rfl) cmpT swoT 116 #[] g 0 cap (textsTo S S.shapes.length).toArray wr eg (cmpLays_text g 0 _ wr) (holdsT hrow hl) (ownsRow_lt hrow rfl) (by rw [hsz]; omega)
  rw [hsz] at hc
  change Calls Tryz.prog 115 _ _ _ at hc
  refine hc.mono fun e w' hw=>?_
  obtain ⟨he,m,os,rfl⟩:=hw
  have hd:(Sort.pdq (ltOf cmpT) (textsTo S S.shapes.length).toArray 0 S.shapes.length (Lib.bitLen S.shapes.length) true true).toList=sortedT S:=by unfold sortedT; rw [hsz]
  have hds:(Sort.pdq (ltOf cmpT) (textsTo S S.shapes.length).toArray 0 S.shapes.length (Lib.bitLen S.shapes.length) true true).size=(textsTo S S.shapes.length).length:=by
   rw [hl]
   have:=sortedT_length S
   rw [<- hd] at this
   simpa using this
  refine ⟨he,?_,ht.upd.trans' (upd_sort g m _ os) (fun x hx hlt=>by simp only [List.mem_singleton] at hx; subst hx; have:=own_ge hrow (k:=x) rfl; omega)⟩
  have:=sorted_at (m:=m) (os:=os) (by rw [hl]; exact hrow) hds
  rw [hd,hl] at this
  exact this
 clear h hB hsm hown1 hgr1 hv0
 go_enter Tryz.func83,Tryz.ntmps83
 go_wp2
 go_loopw [3,16] (fun v i wr=>∃ j:Nat,j<=S.shapes.length/\i=.int .i64 j/\Hid (Texting w wr wb H Z S v j)) (fun _ i _=>S.shapes.length - (intOf i).toNat)
 case atStart=>exact ⟨0,Nat.zero_le _,rfl,hstart⟩
 case round =>
  obtain ⟨j,hj,rfl,HT⟩:=hrel
  clear hstart hmk c1 c1' U1 hZ
  by_cases hjn:j < S.shapes.length
  ·have hjn':(j:Int) < (S.shapes.length:Int):=by omega
   have HC:=HP.out wr u3 j HT.out hjn
   obtain ⟨t,ht⟩:∃ t,t=plainT S j:=⟨_,rfl⟩
   rw [<- ht] at HC
   have Ht:=hide ht
   have HC:=hide HC
   have hone:∀ u ∈ [Value.string t,.int .i64 j],u.oneCell'=true:=by intro u hu'; simp at hu'; rcases hu' with rfl | rfl <;> rfl
   have hlm:j+1<=maxLen:=by unfold maxLen; omega
   clear ht HP HCon eg
   go_wp2_with (first
    | (go_at_call 88; refine HC.out.mono ?_; rintro e w2 ⟨rfl,hu2⟩; have Hrow2:=hide ((hu2.alloc (.cells #[.string t,.int .i64 j] 147)).ownsRow HT.out.row (fun _ _=>by simp)); have Hnews:=hide (World.news_of_block (heap_alloc_new w2 (.cells #[.string t,.int .i64 j] 147))); have Hbase:Hid (w.heap.size<=(w2.alloc (.cells #[.string t,.int .i64 j] 147)).heap.size):=(by have h1:=HT.out.upd.size; have h2:=hu2.size; show _<=_; simp; omega); have Hu2:=hide hu2; clear hu2)
    | (at_builtin; refine wpList_append_lies _ rfl _ _ 137 rfl w.heap.size 147 i0 (.agg #[.string ⟨#[]⟩,.int .i64 0]) 2 24 Tryz.underlying137 hi hz0 hz1 hz2 rfl (by decide) _ _ _ rfl Hrow2.out ⟨w2.heap.size,0,none⟩ 1 1 [.string t,.int .i64 j] rfl rfl Hnews.out hone (by decide) hlm (by omega) Hbase.out _ rfl ?_; intro g cap w3 hown' hgrow hat hlt3))
   refine ⟨⟨j+1,by omega,by go_num,?_⟩,by simp [intOf]; omega⟩
   exact HT.out.next HZ.out Hu2.out Ht.out hown' hgrow
  ·obtain rfl:j=S.shapes.length:=by omega
   have hge:¬ ((S.shapes.length:Nat):Int) < (S.shapes.length:Int):=by omega
   obtain ⟨g,cap,rfl⟩:∃ g cap,u3=.slice (some ⟨g,0,none⟩) S.shapes.length cap:=by
    rcases ownsRow_slice HT.out.row with ⟨h1,_⟩ | ⟨g,cap,h1,_⟩
    ·exact absurd (by rw [h1]; rfl) HT.out.made
    ·exact ⟨g,cap,h1⟩
   have HC:=hide (HCon.out wr g cap HT.out)
   clear HP HCon HT hjn
   go_wp2_with (go_at_call 115; refine HC.out.mono ?_; rintro e w2 ⟨rfl,ht2,hu2⟩; have Ht2:=hide ht2; have Hu2:=hide hu2; clear ht2 hu2)
   go_ret
   exact ⟨_,rfl,Hu2.out,Ht2.out⟩
theorem law_int:Keyed Tryz.prog 3:=Maps.int_keyed Tryz.underlying3
def IMapIs (w:World) (b n:Nat) (f:Nat->Option Nat):Prop :=
 ∃ D:DataW Unit,w.ownsMap Tryz.prog 3 (plainElem Tryz.prog 3) b n D/\Maps.size D=n /\
  ∀ (s:Nat) kl,keyOf Tryz.prog 3 (.int .i64 s)=some kl->Maps.has D kl=(f s).isSome/\∀ c,f s=some c->D.atKey kl (.lit (.int .i64 0))=.lit (.int .i64 c)
theorem key_int (s:Nat) (h:s<=1000000):∃ kl,keyOf Tryz.prog 3 (.int .i64 s)=some kl:=⟨_,Maps.keyOf_int_mk Tryz.underlying3 (wf_i64 h)⟩
theorem IMapIs.lt {w:World} {b n:Nat} {f:Nat->Option Nat} (h:IMapIs w b n f):b < w.heap.size:=let ⟨_,ho,_⟩:=h; ho.lt
theorem IMapIs.later {w w':World} {L:List Nat} {b n:Nat} {f:Nat->Option Nat} (h:IMapIs w b n f) (hu:Upd L w w') (hb:b ∉ L):IMapIs w' b n f:=by
 obtain ⟨D,ho,hn,hf⟩:=h
 obtain ⟨es,clock,hh,r⟩:=ho
 exact ⟨D,⟨es,clock,(hu.block b (World.ownsMap.lt ⟨es,clock,hh,r⟩) hb).trans hh,r⟩,hn,hf⟩
theorem IMapIs.new (w:World):IMapIs (w.alloc (.map #[] 0)) w.heap.size 0 (fun _=>none) :=
 ⟨.map [],World.ownsMap_made _ _ _ _,rfl,fun _ _ _=>⟨rfl,fun _ h=>by cases h⟩⟩
theorem IMapIs.look {w:World} {b n:Nat} {f:Nat->Option Nat} (h:IMapIs w b n f) (s:Nat) (hs:s<=1000000) :
  (Instr.lookup 188 (.map (some b)) (.int .i64 s) true).run Tryz.prog w=.ok (.tuple #[.int .i64 ((f s).getD 0),.bool (f s).isSome]) w:=by
 obtain ⟨D,ho,_,hf⟩:=h
 obtain ⟨kl,hk⟩:=key_int s hs
 obtain ⟨v,ps,hrun,hv⟩:=ho.look_ok law_int Tryz.underlying188 (zero_int w) (plainElem_int Tryz.underlying3 (by decide)) hk
 obtain ⟨c,rfl,hc,hwc⟩:=plainElem_int_inv Tryz.underlying3 hv
 have hat:D.atKey kl (.lit (.int .i64 0))=.lit (.int .i64 c):=congrArg Prod.fst hc
 obtain ⟨h1,h2⟩:=hf s kl hk
 rw [hrun,h1]
 cases hfs:f s with
 | none =>
  rw [hfs] at h1
  have:=atKey_of_not_has h1 (.lit (.int .i64 0):DataW Unit)
  rw [this] at hat
  cases hat
  rfl
 | some x =>
  have:=h2 x hfs
  rw [this] at hat
  cases hat
  rfl
def setI (f:Nat->Option Nat) (s:Nat) (v:Nat):Nat->Option Nat:=fun t=>if t=s then some v else f t
theorem IMapIs.put {w:World} {b n:Nat} {f:Nat->Option Nat} (h:IMapIs w b n f) (s:Nat) (hs:s<=1000000) (v:Nat) (hv:v<=1000000) (hn:n < maxLen) (hnew:f s=none) :
  ∃ w',(Instr.mapUpdate 188 (.map (some b)) (.int .i64 s) (.int .i64 v)).run Tryz.prog w=.ok () w'/\IMapIs w' b (n+1) (setI f s v)/\w.mapTurned w' b:=by
 obtain ⟨D,ho,hsz,hf⟩:=h
 obtain ⟨kl,hk⟩:=key_int s hs
 obtain ⟨w',hrun,h1,h2⟩:=ho.store law_int Tryz.underlying188 hn hk (plainElem_int Tryz.underlying3 (wf_i64 hv))
 have hz:Maps.size (D.put kl (.lit (.int .i64 (v:Int))))=n+1:=by
  rw [size_put (ho.tidy law_int),(hf s kl hk).1,hnew,hsz]
  rfl
 refine ⟨w',hrun,⟨_,h1,hz,fun t kt hkt=>?_⟩,h2⟩
 unfold setI
 by_cases e:t=s
 ·subst e
  obtain rfl:=Option.some.inj (hk.symm.trans hkt)
  rw [if_pos rfl]
  refine ⟨has_put_same ho.isMap (law_int.key hk) _,fun c hc=>?_⟩
  obtain rfl:=Option.some.inj hc
  exact atKey_put_same ho.isMap (law_int.key hk) _ _
 ·have hne:kt ≠ kl:=fun e'=>e (by
   have:=law_int.inj (hkt.trans (congrArg some e')) hk
   simp at this
   omega)
  rw [if_neg e,has_put_other hne]
  refine ⟨(hf t kt hkt).1,fun c hc=>?_⟩
  rw [atKey_put_other hne]
  exact (hf t kt hkt).2 c hc
theorem IMapIs.len {w:World} {b n:Nat} {f:Nat->Option Nat} (h:IMapIs w b n f) (ty:TypeId):(Builtin.len_ #[188] ty #[.map (some b)]).run Tryz.prog w=.ok (.int .i64 (n:Int)) w:=by
 obtain ⟨D,ho,hsz,_⟩:=h
 rw [ho.len Tryz.underlying188 ty,hsz]
def firstStep (a:List Nat) (c:Nat):List Nat:=if c ∈ a then a else a++[c]
def firstsOf (l:List Nat):List Nat:=l.foldl firstStep []
theorem firstsOf_snoc (l:List Nat) (c:Nat):firstsOf (l++[c])=firstStep (firstsOf l) c:=by simp [firstsOf]
theorem list_snoc_induction {α:Type} {P:List α->Prop} (h0:P []) (h1:∀ l a,P l->P (l++[a])) (l:List α):P l:=by
 have:∀ m:List α,P m.reverse:=fun m=>by
  induction m with
  | nil=>exact h0
  | cons a m ih=>rw [List.reverse_cons]; exact h1 _ _ ih
 have h:=this l.reverse
 rwa [List.reverse_reverse] at h
theorem mem_firsts (l:List Nat):∀ c,c ∈ firstsOf l ↔ c ∈ l:=by
 refine list_snoc_induction (P:=fun l=>∀ c,c ∈ firstsOf l ↔ c ∈ l) (fun c=>by simp [firstsOf]) (fun l a ih c=>?_) l
 rw [firstsOf_snoc]
 unfold firstStep
 split
 ·rename_i h
  rw [ih c,List.mem_append]
  constructor
  ·exact fun h=>.inl h
  ·rintro (h1 | h1)
   ·exact h1
   ·obtain rfl:c=a:=by simpa using h1
    exact (ih c).1 h
 ·rw [List.mem_append,List.mem_append,ih c]
theorem firsts_nodup (l:List Nat):(firstsOf l).Nodup:=by
 refine list_snoc_induction (P:=fun l=>(firstsOf l).Nodup) (by simp [firstsOf]) (fun l a ih=>?_) l
 rw [firstsOf_snoc]
 unfold firstStep
 split
 ·exact ih
 ·rename_i h
  rw [List.nodup_append]
  exact ⟨ih,by simp,fun x hx y hy e=>by simp at hy; subst hy; subst e; exact h hx⟩
theorem firsts_length (l:List Nat):(firstsOf l).length<=l.length:=by
 refine list_snoc_induction (P:=fun l=>(firstsOf l).length<=l.length) (by simp [firstsOf]) (fun l a ih=>?_) l
 rw [firstsOf_snoc]
 unfold firstStep
 split <;> simp <;> omega
theorem firsts_prefix (l m:List Nat):∃ r,firstsOf (l++m)=firstsOf l++r:=by
 refine list_snoc_induction (P:=fun m=>∃ r,firstsOf (l++m)=firstsOf l++r) ⟨[],by simp⟩ (fun m a ih=>?_) m
 obtain ⟨r,hr⟩:=ih
 rw [<- List.append_assoc,firstsOf_snoc,hr]
 unfold firstStep
 split
 ·exact ⟨r,rfl⟩
 ·exact ⟨r++[a],by simp⟩
theorem idx_prefix (l m:List Nat) {c:Nat} (h:c ∈ l):(firstsOf (l++m)).idxOf c=(firstsOf l).idxOf c:=by
 obtain ⟨r,hr⟩:=firsts_prefix l m
 rw [hr,List.idxOf_append,if_pos ((mem_firsts l c).2 h)]
theorem idx_lt (l:List Nat) {c:Nat} (h:c ∈ l):(firstsOf l).idxOf c < (firstsOf l).length:=List.idxOf_lt_length_iff.2 ((mem_firsts l c).2 h)
theorem idx_new {l:List Nat} {c:Nat} (h:c ∉ l):firstsOf (l++[c])=firstsOf l++[c]/\(firstsOf (l++[c])).idxOf c=(firstsOf l).length:=by
 have hn:c ∉ firstsOf l:=fun hm=>h ((mem_firsts l c).1 hm)
 have e:firstsOf (l++[c])=firstsOf l++[c]:=by rw [firstsOf_snoc]; unfold firstStep; rw [if_neg hn]
 refine ⟨e,?_⟩
 rw [e,List.idxOf_append,if_neg hn]
 simp
theorem idx_old {l:List Nat} {c:Nat} (h:c ∈ l):firstsOf (l++[c])=firstsOf l:=by
 rw [firstsOf_snoc]; unfold firstStep; rw [if_pos ((mem_firsts l c).2 h)]
def clsTo (S:WS) (ts:List TN) (i:Nat):List Nat:=(ts.take i).map fun t=>classAt S t.2
theorem clsTo_succ {S:WS} {ts:List TN} {i:Nat} {t:TN} (h:ts[i]?=some t):clsTo S ts (i+1)=clsTo S ts i++[classAt S t.2]:=by
 unfold clsTo
 have hlt:=(List.getElem?_eq_some_iff.1 h).1
 rw [List.take_succ_eq_append_getElem hlt,List.map_append]
 rw [List.getElem?_eq_getElem hlt] at h
 rw [Option.some.inj h]
 rfl
def placeIn (l:List Nat) (c:Nat):Nat:=(firstsOf l).idxOf c
def seenF (l:List Nat) (c:Nat):Option Nat:=if c ∈ l then some (placeIn l c) else none
def placesTo (S:WS) (ts:List TN):Nat->List Nat
 | 0=>List.replicate ts.length 0
 | i+1=>match ts[i]? with
  | some t=>(placesTo S ts i).set t.2 (placeIn (clsTo S ts (i+1)) (classAt S t.2))
  | none=>placesTo S ts i
theorem placesTo_length (S:WS) (ts:List TN):∀ i,(placesTo S ts i).length=ts.length
 | 0=>by simp [placesTo]
 | i+1=>by
  unfold placesTo
  split
  ·rw [List.length_set]; exact placesTo_length S ts i
  ·exact placesTo_length S ts i
theorem placesTo_succ {S:WS} {ts:List TN} {i:Nat} {t:TN} (h:ts[i]?=some t):placesTo S ts (i+1)=(placesTo S ts i).set t.2 (placeIn (clsTo S ts (i+1)) (classAt S t.2)):=by
 conv=>lhs; unfold placesTo
 rw [h]
theorem seen_old {l:List Nat} {c:Nat} (h:c ∈ l):placeIn (l++[c]) c=placeIn l c/\seenF (l++[c])=seenF l:=by
 have e:=idx_old h
 unfold placeIn
 refine ⟨by rw [e],?_⟩
 funext d
 unfold seenF placeIn
 rw [e]
 by_cases hd:d ∈ l
 ·rw [if_pos hd,if_pos (by simp [hd])]
 ·rw [if_neg hd,if_neg (by simp [hd]; rintro rfl; exact hd h)]
theorem seen_new {l:List Nat} {c:Nat} (h:c ∉ l):placeIn (l++[c]) c=(firstsOf l).length/\seenF (l++[c])=setI (seenF l) c (firstsOf l).length/\(firstsOf (l++[c])).length=(firstsOf l).length+1:=by
 obtain ⟨e1,e2⟩:=idx_new h
 refine ⟨e2,?_,by rw [e1]; simp⟩
 funext d
 unfold seenF setI
 by_cases hd:d=c
 ·subst hd
  rw [if_pos (by simp),if_pos rfl]
  exact congrArg some e2
 ·rw [if_neg hd]
  by_cases hl:d ∈ l
  ·show _=(if d ∈ l then some (placeIn l d) else none)
   rw [if_pos (by simp [hl]),if_pos hl]
   exact congrArg some (idx_prefix l [c] hl)
  ·show _=(if d ∈ l then some (placeIn l d) else none)
   rw [if_neg (by simp [hl,hd]),if_neg hl]
structure Placing (w wr:World) (wb base P M:Nat) (H:Hd) (Z:Nat->Prop) (S:WS) (v:Value) (ts:List TN) (i:Nat):Prop where
 web:WebAt wr wb H Z S
 texts:TextsAt wr base v ts
 row:wr.ownsRow w.heap.size 3 1 (.slice (some ⟨P,0,none⟩) ts.length ts.length) ts.length (intsOf (placesTo S ts i))
 map:IMapIs wr M (firstsOf (clsTo S ts i)).length (seenF (clsTo S ts i))
 upd:Upd [] w wr
 mge:w.heap.size<=M
 pm:P ≠ M
theorem zeros_own (w:World) (base n:Nat) (hb:base<=w.heap.size) (hm:n<=maxLen):(w.alloc (.cells (madeCells #[.int .i64 0] n) 3)).ownsRow base 3 1 (.slice (some ⟨w.heap.size,0,none⟩) n n) n (intsOf (List.replicate n 0)):=by
 refine ⟨by simp [intsOf],.inr ⟨w.heap.size,n,madeCells #[.int .i64 0] n,rfl,hb,heap_alloc_new w _,Nat.le_refl _,hm,by simp [size_madeCells],?_⟩⟩
 have e:(madeCells #[.int .i64 0] n).toList=List.replicate n (.int .i64 0):=by
  refine List.ext_getElem (by simp [madeCells]) fun k h1 h2=>?_
  simp [madeCells,Nat.mod_one]
 rw [e,Nat.mul_one]
 simp [intsOf]
theorem Placing.next {w wr W W':World} {wb base P M i place:Nat} {H:Hd} {Z:Nat->Prop} {S:WS} {v:Value} {ts:List TN} {t:TN} {X:Obj} {nq:Nat} (h:Placing w wr wb base P M H Z S v ts i) (hZ:∀ k,Z k->k < w.heap.size) (hvw:∀ g,v.ownBlock=some g->g < w.heap.size) (ht:ts[i]?=some t)
  (hW:W=(wr.alloc X).drewN nq) (hU:Upd [M] W W') (hp:place=placeIn (clsTo S ts (i+1)) (classAt S t.2)) (hm:IMapIs W' M (firstsOf (clsTo S ts (i+1))).length (seenF (clsTo S ts (i+1)))) :
  Placing w (W'.setCell ⟨P,t.2,none⟩ (.int .i64 place)) wb base P M H Z S v ts (i+1):=by
 have U0:Upd [M,P] wr W':=by
  rw [hW] at hU
  exact ((((Upd.refl [M,P] wr).alloc X).drewN nq)).trans (hU.mono fun x hx _=>by simp at hx ⊢; exact .inl hx)
 have UM:Upd [M] wr W':=by
  rw [hW] at hU
  exact ((((Upd.refl [M] wr).alloc X).drewN nq)).trans hU
 have U:Upd [M,P] wr (W'.setCell ⟨P,t.2,none⟩ (.int .i64 place)):=U0.setCell (by simp) _
 have hP:w.heap.size<=P:=own_ge h.row (k:=P) rfl
 have hMge:=h.mge
 have hsz:=h.upd.size
 obtain ⟨g,cap,hv,h2,h3,h4,h5,h6⟩:=h.texts.ex
 have hgw:=hvw g (by rw [hv]; rfl)
 have hn:g ∉ [M,P]:=by simp; omega
 refine ⟨h.web.later U (fun k hk hm=>?_),⟨g,cap,hv,h2,h3,h4,Nat.lt_of_lt_of_le h5 U.size,fun j x hj=>⟨(U.cell (p:=⟨g,j * 2,none⟩) h5 hn).trans (h6 j x hj).1,(U.cell (p:=⟨g,j * 2+1,none⟩) h5 hn).trans (h6 j x hj).2⟩⟩,?_,?_,h.upd.trans' U (fun x hx hl=>by simp at hx; omega),h.mge,h.pm⟩
 ·have:=hZ k hk
  simp at hm
  omega
 ·have hr:=UM.ownsRow h.row (fun k hk hm=>by
   simp only [own_slice,Option.some.injEq] at hk
   simp only [List.mem_singleton] at hm
   exact h.pm (hk.trans hm))
  have:=ownsRow_set1 (i:=t.2) (v:=place) hr
  rw [placesTo_succ ht,<- hp]
  exact this
 ·exact hm.later ((Upd.refl [P] W').setCell (p:=⟨P,t.2,none⟩) (by simp) _) (by simp; exact fun e=>h.pm e.symm)
theorem places_any (w:World) (wb base:Nat) (H:Hd) (Z:Nat->Prop) (S:WS) (v:Value) (ts:List TN) (h:WebAt w wb H Z S) (hI:Inv S) (hZ:∀ k,Z k->k < w.heap.size) (ht:TextsAt w base v ts) (hnum:∀ t ∈ ts,t.2 < ts.length) (hlen:ts.length=S.shapes.length) (hn:S.shapes.length<=1000) :
  Calls Tryz.prog 82 #[.pointer (some ⟨wb,0,none⟩),v] w fun e w'=>∃ P,e=.returned (.slice (some ⟨P,0,none⟩) ts.length ts.length)/\Upd [] w w'/\w'.ownsRow w.heap.size 3 1 (.slice (some ⟨P,0,none⟩) ts.length ts.length) ts.length (intsOf (placesTo S ts ts.length)):=by
 have hmk:=run_make_row' (P:=Tryz.prog) 44 3 (.int .i64 0) 8 Tryz.underlying44 info_int rfl .i64 .i64 ts.length (by omega) (by omega) w
 have hmm:=run_makeMap (P:=Tryz.prog) 188
 have U1:=((Upd.refl [] w).alloc (.cells (madeCells #[.int .i64 0] ts.length) 3)).alloc (.map #[] 0)
 have hstart:Placing w ((w.alloc (.cells (madeCells #[.int .i64 0] ts.length) 3)).alloc (.map #[] 0)) wb base w.heap.size (w.heap.size+1) H Z S v ts 0:=by
  have hrow:=((Upd.refl [] (w.alloc (.cells (madeCells #[.int .i64 0] ts.length) 3))).alloc (.map #[] 0)).ownsRow (zeros_own w w.heap.size ts.length (Nat.le_refl _) (by unfold maxLen; omega)) (fun _ _=>by simp)
  have hmap:=IMapIs.new (w.alloc (.cells (madeCells #[.int .i64 0] ts.length) 3))
  have e1:(w.alloc (.cells (madeCells #[.int .i64 0] ts.length) 3)).heap.size=w.heap.size+1:=by simp
  rw [e1] at hmap
  have e2:seenF (clsTo S ts 0)=fun _=>none:=by funext d; simp [seenF,clsTo]
  exact ⟨h.later U1 (fun _ _=>by simp),ht.later U1 (fun k hk=>by cases hk),hrow,by rw [e2]; exact hmap,U1,by omega,by omega⟩
 obtain ⟨g,cap,hv,hcap,hcm,hgb,hgl,hcells⟩:=ht.ex
 have HvW:Hid (∀ g,v.ownBlock=some g->g < w.heap.size):=fun k hk=>by
  rw [hv] at hk
  simp only [own_slice,Option.some.injEq] at hk
  subst hk
  exact hgl
 have HZ:=hide hZ
 have hlI:(ts.length:Int)<=1000:=by omega
 have hnN:ts.length<=1000:=by omega
 subst hv
 unfold maxLen at hcm
 have hcl:=hI.len
 have hle1:ts.length<=S.classes.length:=by omega
 have hle2:S.classes.length<=ts.length:=by omega
 clear h ht hcells U1 hcl hlen hn
 go_enter Tryz.func82,Tryz.ntmps82
 go_wp2
 generalize (w.alloc (.cells (madeCells #[.int .i64 0] ts.length) 3)).alloc (.map #[] 0)=W1 at hstart ⊢
 clear hmk hmm
 go_loopw [18] (fun i wr=>∃ j:Nat,j<=ts.length/\i=.int .i64 j/\Hid (Placing w wr wb base w.heap.size (w.heap.size+1) H Z S (.slice (some ⟨g,0,none⟩) ts.length cap) ts j)) (fun i _=>ts.length - (intOf i).toNat)
 case atStart=>exact ⟨0,Nat.zero_le _,rfl,hstart⟩
 case round =>
  obtain ⟨j,hj,rfl,HP⟩:=hrel
  clear hstart
  by_cases hjn:j < ts.length
  ·have hjn':(j:Int) < (ts.length:Int):=by omega
   obtain ⟨t,htj⟩:∃ t,ts[j]?=some t:=⟨_,List.getElem?_eq_getElem hjn⟩
   have htm:t ∈ ts:=List.mem_of_getElem? htj
   have ht2:=hnum t htm
   obtain ⟨g',cap',hv',_,_,_,hgl',hc'⟩:=HP.out.texts.ex
   cases hv'
   obtain ⟨k0,k1⟩:=hc' j t htj
   obtain ⟨W,hW⟩:∃ W,W=wr.alloc (.cells #[.string t.1,.int .i64 t.2] 147):=⟨_,rfl⟩
   have UW:Upd [] wr W:=hW ▸ (Upd.refl [] wr).alloc _
   have b1:W.cell? ⟨wr.heap.size,1,none⟩=some (.int .i64 t.2):=by rw [hW]; go_simp
   have web:=HP.out.web.later UW (fun _ _=>by simp)
   obtain ⟨gc,capc,hcc,hcc1,hcc2⟩:∃ g cap,H.classes=.slice (some ⟨g,0,none⟩) S.classes.length cap/\S.classes.length<=cap/\cap<=maxLen:=by
    rcases ownsRow_slice web.rc with ⟨_,h0⟩ | hh
    ·omega
    ·exact hh
   have hrc:=web.rc
   rw [hcc] at hrc
   have hcell:=row1_cell hrc (i:=t.2) (by omega)
   have c3:=web.c3
   rw [hcc] at c3
   have hclt:S.classes.getD t.2 0=classAt S t.2:=rfl
   rw [hclt] at hcell
   have hcls:classAt S t.2 < S.classes.length:=hI.class_lt _ (by omega)
   have ht2c:(t.2:Int) < (S.classes.length:Int):=by omega
   have ht2p:(t.2:Int) < (ts.length:Int):=by omega
   have hmap:=HP.out.map.later UW (by simp)
   have hrowP:=UW.ownsRow HP.out.row (fun _ _=>by simp)
   have hpc:=row1_cell hrowP (i:=t.2) (by rw [placesTo_length]; exact ht2)
   have hpf:=hrowP.frozenAt t.2
   have hlook:∀ nq,(Instr.lookup 188 (.map (some (w.heap.size+1))) (.int .i64 (classAt S t.2)) true).run Tryz.prog (W.drewN nq)=.ok (.tuple #[.int .i64 ((seenF (clsTo S ts j) (classAt S t.2)).getD 0:Nat),.bool (seenF (clsTo S ts j) (classAt S t.2)).isSome]) (W.drewN nq) :=
    fun nq=>(hmap.later ((Upd.refl [] W).drewN nq) (by simp)).look _ (by omega)
   have hsucc:=clsTo_succ (S:=S) htj
   by_cases hin:classAt S t.2 ∈ clsTo S ts j
   ·obtain ⟨p1,p2⟩:=seen_old hin
    have hs1:seenF (clsTo S ts j) (classAt S t.2)=some (placeIn (clsTo S ts j) (classAt S t.2)):=by unfold seenF; rw [if_pos hin]
    rw [hs1] at hlook
    simp only [Option.getD_some,Option.isSome_some] at hlook
    have Hmap2:Hid (IMapIs W (w.heap.size+1) (firstsOf (clsTo S ts (j+1))).length (seenF (clsTo S ts (j+1)))):=by
     show IMapIs _ _ _ _
     rw [hsucc,p2,idx_old hin]
     exact hmap
    have Hpl:Hid (placeIn (clsTo S ts j) (classAt S t.2)=placeIn (clsTo S ts (j+1)) (classAt S t.2)):=by show _=_; rw [hsucc,p1]
    have Hnext:Hid (∀ nq,Placing w ((W.drewN nq).setCell ⟨w.heap.size,t.2,none⟩ (.int .i64 (placeIn (clsTo S ts j) (classAt S t.2)))) wb base w.heap.size (w.heap.size+1) H Z S (.slice (some ⟨g,0,none⟩) ts.length cap) ts (j+1)):=fun nq =>
     HP.out.next HZ.out HvW.out htj (W:=W.drewN nq) (by rw [hW]) (Upd.refl _ _) Hpl.out (Hmap2.out.later ((Upd.refl [] W).drewN nq) (by simp))
    generalize placeIn (clsTo S ts j) (classAt S t.2)=place at *
    generalize classAt S t.2=c at *
    have HW:=hide hW
    clear hin p1 p2 hs1 hmap hrowP hsucc Hmap2 Hpl hrc web hnum htj htm hc' HP hW hclt hcc
    go_wp2
    rw [<- HW.out]
    go_quiet (fail)
    go_wp2
    exact ⟨⟨j+1,by omega,by go_num,Hnext.out _⟩,by simp [intOf]; omega⟩
   ·obtain ⟨p1,p2,p3⟩:=seen_new hin
    have hs1:seenF (clsTo S ts j) (classAt S t.2)=none:=by unfold seenF; rw [if_neg hin]
    rw [hs1] at hlook
    simp only [Option.getD_none,Option.isSome_none] at hlook
    have hfl:(firstsOf (clsTo S ts j)).length<=1000:=by
     have h1:=firsts_length (clsTo S ts j)
     have h2:(clsTo S ts j).length<=ts.length:=by unfold clsTo; simp; omega
     omega
    have hlenm:∀ nq ty,(Builtin.len_ #[188] ty #[.map (some (w.heap.size+1))]).run Tryz.prog (W.drewN nq)=.ok (.int .i64 ((firstsOf (clsTo S ts j)).length:Int)) (W.drewN nq):=fun nq ty=>(hmap.later ((Upd.refl [] W).drewN nq) (by simp)).len ty
    obtain ⟨f,hput⟩:=Classical.axiomOfChoice (fun nq=>(hmap.later ((Upd.refl [] W).drewN nq) (by simp)).put (classAt S t.2) (by omega) (firstsOf (clsTo S ts j)).length (by omega) (by unfold maxLen; omega) hs1)
    have hrun:∀ nq,(Instr.mapUpdate 188 (.map (some (w.heap.size+1))) (.int .i64 (classAt S t.2)) (.int .i64 ((firstsOf (clsTo S ts j)).length:Int))).run Tryz.prog (W.drewN nq)=.ok () (f nq):=fun nq=>(hput nq).1
    have hUf:∀ nq,Upd [w.heap.size+1] (W.drewN nq) (f nq):=fun nq=>mapTurned_upd (hput nq).2.2
    have Hnext:Hid (∀ nq,Placing w ((f nq).setCell ⟨w.heap.size,t.2,none⟩ (.int .i64 ((firstsOf (clsTo S ts j)).length:Nat))) wb base w.heap.size (w.heap.size+1) H Z S (.slice (some ⟨g,0,none⟩) ts.length cap) ts (j+1)):=fun nq =>
     HP.out.next HZ.out HvW.out htj (W:=W.drewN nq) (by rw [hW]) (hUf nq) (by rw [hsucc,p1]) (by
      rw [hsucc,p2,p3]
      exact (hput nq).2.1)
    have hWl:wr.heap.size < W.heap.size:=by rw [hW]; simp
    have hsz:=HP.out.upd.size
    have hfl2:w.heap.size < W.heap.size:=by omega
    have b1f:∀ nq,(f nq).cell? ⟨wr.heap.size,1,none⟩=some (.int .i64 t.2):=fun nq=>((hUf nq).cell (p:=⟨wr.heap.size,1,none⟩) hWl (by
     have:=HP.out.map.lt
     simp; omega)).trans b1
    have hpcf:∀ nq,(f nq).cell? ⟨w.heap.size,t.2,none⟩=some (.int .i64 ((placesTo S ts j).getD t.2 0)):=fun nq=>((hUf nq).cell (p:=⟨w.heap.size,t.2,none⟩) hfl2 (by simp)).trans hpc
    have hpff:∀ nq,(f nq).frozen? ⟨w.heap.size,t.2,none⟩=false:=fun nq=>((hUf nq).frozen (p:=⟨w.heap.size,t.2,none⟩) hfl2 (by simp)).trans hpf
    generalize (firstsOf (clsTo S ts j)).length=q at *
    generalize classAt S t.2=c at *
    have HW:=hide hW
    clear hin p1 p2 p3 hs1 hmap hrowP hsucc hrc web hnum htj htm hc' HP hW hclt hcc hput hUf hpc hpf
    go_wp2
    rw [<- HW.out]
    go_quiet (fail)
    go_wp2
    exact ⟨⟨j+1,by omega,by go_num,Hnext.out _⟩,by simp [intOf]; omega⟩
  ·obtain rfl:j=ts.length:=by omega
   have hge:¬ ((ts.length:Nat):Int) < (ts.length:Int):=by omega
   clear hnum
   go_wp2
   go_ret
   exact ⟨_,rfl,HP.out.upd,HP.out.row⟩
end Go.Proofs.YtmfkpllnmmfpiaaGreatDoor
