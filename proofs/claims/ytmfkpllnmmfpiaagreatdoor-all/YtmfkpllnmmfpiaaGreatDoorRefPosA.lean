/- RefSort, RefClassLaw, ScanWalk, ScanName, RefPos -/
import Derived.Test.YtmfkpllnmmfpiaaGreatDoorPlacesA
import Derived.Test.YtmfkpllnmmfpiaaGreatDoorRefHoldA
import Derived.Test.YtmfkpllnmmfpiaaGreatDoorRefScanA
import Derived.Test.YtmfkpllnmmfpiaaGreatDoorNextA
set_option maxHeartbeats 16000000
set_option maxRecDepth 100000
namespace Go.Proofs.YtmfkpllnmmfpiaaGreatDoor
open Go.RowKit Go.Sort
theorem strict_unique {α:Type} {R:α->α->Prop} (irr:∀ a,¬ R a a) (tr:∀ a b c,R a b->R b c->R a c):∀ {l m:List α},l.Pairwise R->m.Pairwise R->(∀ x,x ∈ l ↔ x ∈ m)->l=m
 | [],[],_,_,_=>rfl
 | [],b :: m,_,_,h=>by have:=(h b).2 (by simp); cases this
 | a :: l,[],_,_,h=>by have:=(h a).1 (by simp); cases this
 | a :: l,b :: m,hl,hm,h=>by
  rw [List.pairwise_cons] at hl hm
  have hab:a=b:=by
   rcases List.mem_cons.1 ((h a).1 (by simp)) with e | e
   ·exact e
   ·rcases List.mem_cons.1 ((h b).2 (by simp)) with e2 | e2
    ·exact e2.symm
    ·exact absurd (tr _ _ _ (hl.1 b e2) (hm.1 a e)) (irr a)
  subst hab
  rw [strict_unique irr tr hl.2 hm.2 fun x=>?_]
  constructor
  ·intro hx
   rcases List.mem_cons.1 ((h x).1 (by simp [hx])) with e | e
   ·subst e; exact absurd (hl.1 x hx) (irr x)
   ·exact e
  ·intro hx
   rcases List.mem_cons.1 ((h x).2 (by simp [hx])) with e | e
   ·subst e; exact absurd (hm.1 x hx) (irr x)
   ·exact e
def bLt (a b:ByteArray):Prop:=a.data.toList < b.data.toList
instance (a b:ByteArray):Decidable (bLt a b):=inferInstanceAs (Decidable (a.data.toList < b.data.toList))
theorem bLt_irr (a:ByteArray):¬ bLt a a:=List.lt_irrefl _
theorem bLt_trans (a b c:ByteArray) (h:bLt a b) (k:bLt b c):bLt a c:=List.lt_trans h k
theorem bLt_total {a b:ByteArray} (h:¬ bLt a b) (k:a ≠ b):bLt b a:=by
 rcases List.le_total a.data.toList b.data.toList with h1 | h1
 ·exfalso
  apply h
  rcases List.le_iff_lt_or_eq.1 h1 with h2 | h2
  ·exact h2
  ·exact absurd (ByteArray.ext (Array.ext' h2)) k
 ·rcases List.le_iff_lt_or_eq.1 h1 with h2 | h2
  ·exact h2
  ·exact absurd (ByteArray.ext (Array.ext' h2.symm)) k
def laidR (l:List ByteArray) (s:ByteArray):List ByteArray:=l.takeWhile (fun x=>decide (bLt x s))++s :: l.dropWhile (fun x=>decide (bLt x s))
theorem laidR_mem {l:List ByteArray} {s x:ByteArray}:x ∈ laidR l s ↔ x=s\/x ∈ l:=by
 unfold laidR
 conv=>rhs; rw [<- List.takeWhile_append_dropWhile (p:=fun x=>decide (bLt x s)) (l:=l)]
 simp only [List.mem_append,List.mem_cons]
 constructor
 ·rintro (h | h | h)
  ·exact .inr (.inl h)
  ·exact .inl h
  ·exact .inr (.inr h)
 ·rintro (h | h | h)
  ·exact .inr (.inl h)
  ·exact .inl h
  ·exact .inr (.inr h)
theorem takeWhile_all {α:Type} {p:α->Bool}:∀ {l:List α} {x:α},x ∈ l.takeWhile p->p x=true/\x ∈ l
 | a :: l,x,h=>by
  unfold List.takeWhile at h
  split at h
  ·rcases List.mem_cons.1 h with rfl | h
   ·exact ⟨‹_›,by simp⟩
   ·exact ⟨(takeWhile_all h).1,by simp [(takeWhile_all h).2]⟩
  ·cases h
theorem laidR_sorted:∀ {l:List ByteArray} {s:ByteArray},l.Pairwise bLt->s ∉ l->(laidR l s).Pairwise bLt
 | [],s,_,_=>by simp [laidR]
 | a :: l,s,h,hs=>by
  rw [List.pairwise_cons] at h
  have ih:=laidR_sorted (s:=s) h.2 (fun hm=>hs (by simp [hm]))
  unfold laidR at ih ⊢
  by_cases ha:bLt a s
  ·rw [List.takeWhile_cons_of_pos (by simpa using ha),List.dropWhile_cons_of_pos (by simpa using ha),List.cons_append,List.pairwise_cons]
   refine ⟨fun x hx=>?_,ih⟩
   have:x ∈ laidR l s:=hx
   rcases laidR_mem.1 this with rfl | hx
   ·exact ha
   ·exact h.1 x hx
  ·rw [List.takeWhile_cons_of_neg (by simpa using ha),List.dropWhile_cons_of_neg (by simpa using ha),List.nil_append,List.pairwise_cons,List.pairwise_cons]
   have hb:=bLt_total ha (fun e=>hs (by simp [e]))
   refine ⟨fun x hx=>?_,h⟩
   rcases List.mem_cons.1 hx with rfl | hx
   ·exact hb
   ·exact bLt_trans _ _ _ hb (h.1 x hx)
structure ClassedBy (K:ByteArray->Prop) (E:ByteArray->ByteArray->Prop) (out:List (List ByteArray)):Prop where
 each:∀ l ∈ out,l.Pairwise bLt/\l ≠ []
 heads:out.Pairwise fun l m=>∃ a b,l.head?=some a/\m.head?=some b/\bLt a b
 same:∀ l ∈ out,∀ x ∈ l,∀ y,y ∈ l ↔ K y/\E x y
 all:∀ x,K x->∃ l ∈ out,x ∈ l
theorem ClassedBy.unique {K:ByteArray->Prop} {E:ByteArray->ByteArray->Prop} {o1 o2:List (List ByteArray)} (h1:ClassedBy K E o1) (h2:ClassedBy K E o2):o1=o2:=by
 have key:∀ {o1 o2:List (List ByteArray)},ClassedBy K E o1->ClassedBy K E o2->∀ l ∈ o1,l ∈ o2:=fun {o1 o2} h1 h2 l hl=>by
  obtain ⟨x,hx⟩:=List.exists_mem_of_ne_nil l (h1.each l hl).2
  have hk:=((h1.same l hl x hx x).1 hx).1
  obtain ⟨m,hm,hxm⟩:=h2.all x hk
  have e:l=m:=strict_unique bLt_irr bLt_trans (h1.each l hl).1 (h2.each m hm).1 fun y=>by rw [h1.same l hl x hx y,h2.same m hm x hxm y]
  rw [e]
  exact hm
 refine strict_unique (R:=fun l m=>∃ a b,l.head?=some a/\m.head?=some b/\bLt a b) (fun a ⟨x,y,e1,e2,h⟩=>?_) (fun a b c ⟨x,y,e1,e2,h⟩ ⟨y',z,e3,e4,k⟩=>?_) h1.heads h2.heads fun l=>⟨key h1 h2 l,key h2 h1 l⟩
 ·rw [e1] at e2
  cases e2
  exact bLt_irr _ h
 ·rw [e2] at e3
  cases e3
  exact ⟨x,z,e1,e4,bLt_trans _ _ _ h k⟩
section
variable (T:Nat->ByteArray) (C:Nat->Nat) (n:Nat)
def minTo (i:Nat):Nat->ByteArray
 | 0=>T i
 | k+1=>if C k=C i/\bLt (T k) (minTo i k) then T k else minTo i k
def firstsTo:Nat->List ByteArray
 | 0=>[]
 | i+1=>if minTo T C i n=T i then laidR (firstsTo i) (minTo T C i n) else firstsTo i
def classTo (c:Nat):Nat->List ByteArray
 | 0=>[]
 | k+1=>if C k=c then laidR (classTo c k) (T k) else classTo c k
variable {T C n}
theorem minTo_is (i:Nat) (hi:i < n):∀ k,k<=n->(∃ j,j < n/\minTo T C i k=T j/\C j=C i)/\∀ q,(q < k\/q=i)->C q=C i->¬ bLt (T q) (minTo T C i k)
 | 0,_=>⟨⟨i,hi,rfl,rfl⟩,fun q hq _=>by
  rcases hq with hq | rfl
  ·omega
  ·exact bLt_irr _⟩
 | k+1,hk=>by
  obtain ⟨⟨j,h1,h2,h3⟩,h4⟩:=minTo_is i hi k (by omega)
  unfold minTo
  by_cases hc:C k=C i/\bLt (T k) (minTo T C i k)
  ·rw [if_pos hc]
   refine ⟨⟨k,by omega,rfl,hc.1⟩,fun q hq he hlt=>?_⟩
   by_cases e:q=k
   ·subst e; exact bLt_irr _ hlt
   ·exact h4 q (by omega) he (bLt_trans _ _ _ hlt hc.2)
  ·rw [if_neg hc]
   refine ⟨⟨j,h1,h2,h3⟩,fun q hq he hlt=>?_⟩
   by_cases e:q=k
   ·subst e; exact hc ⟨he,hlt⟩
   ·exact h4 q (by omega) he hlt
theorem firstsTo_is (hT:∀ i j,i < n->j < n->T i=T j->i=j):∀ i,i<=n->(firstsTo T C n i).Pairwise bLt/\∀ f,f ∈ firstsTo T C n i ↔ ∃ j,j < i/\f=T j/\minTo T C j n=T j
 | 0,_=>⟨List.Pairwise.nil,fun f=>⟨fun h=>(by cases h),fun ⟨j,h,_⟩=>(by omega)⟩⟩
 | i+1,hi=>by
  obtain ⟨h1,h2⟩:=firstsTo_is hT i (by omega)
  unfold firstsTo
  by_cases hc:minTo T C i n=T i
  ·rw [if_pos hc,hc]
   refine ⟨laidR_sorted h1 fun hm=>?_,fun f=>?_⟩
   ·obtain ⟨j,a,b,_⟩:=(h2 _).1 hm
    have:=hT i j (by omega) (by omega) b
    omega
   ·rw [laidR_mem,h2]
    constructor
    ·rintro (rfl | ⟨j,a,b,c⟩)
     ·exact ⟨i,by omega,rfl,hc⟩
     ·exact ⟨j,by omega,b,c⟩
    ·rintro ⟨j,a,b,c⟩
     by_cases e:j=i
     ·subst e; exact .inl b
     ·exact .inr ⟨j,by omega,b,c⟩
  ·rw [if_neg hc]
   refine ⟨h1,fun f=>?_⟩
   rw [h2]
   constructor
   ·rintro ⟨j,a,b,c⟩
    exact ⟨j,by omega,b,c⟩
   ·rintro ⟨j,a,b,c⟩
    by_cases e:j=i
    ·subst e; exact absurd c hc
    ·exact ⟨j,by omega,b,c⟩
theorem classTo_is (hT:∀ i j,i < n->j < n->T i=T j->i=j) (c:Nat):∀ k,k<=n->(classTo T C c k).Pairwise bLt/\∀ f,f ∈ classTo T C c k ↔ ∃ j,j < k/\f=T j/\C j=c
 | 0,_=>⟨List.Pairwise.nil,fun f=>⟨fun h=>(by cases h),fun ⟨j,h,_⟩=>(by omega)⟩⟩
 | i+1,hi=>by
  obtain ⟨h1,h2⟩:=classTo_is hT c i (by omega)
  unfold classTo
  by_cases hc:C i=c
  ·rw [if_pos hc]
   refine ⟨laidR_sorted h1 fun hm=>?_,fun f=>?_⟩
   ·obtain ⟨j,a,b,_⟩:=(h2 _).1 hm
    have:=hT i j (by omega) (by omega) b
    omega
   ·rw [laidR_mem,h2]
    constructor
    ·rintro (rfl | ⟨j,a,b,c⟩)
     ·exact ⟨i,by omega,rfl,hc⟩
     ·exact ⟨j,by omega,b,c⟩
    ·rintro ⟨j,a,b,c⟩
     by_cases e:j=i
     ·subst e; exact .inl b
     ·exact .inr ⟨j,by omega,b,c⟩
  ·rw [if_neg hc]
   refine ⟨h1,fun f=>?_⟩
   rw [h2]
   constructor
   ·rintro ⟨j,a,b,c⟩
    exact ⟨j,by omega,b,c⟩
   ·rintro ⟨j,a,b,c⟩
    by_cases e:j=i
    ·subst e; exact absurd c hc
    ·exact ⟨j,by omega,b,c⟩
theorem classTo_head (hT:∀ i j,i < n->j < n->T i=T j->i=j) {j:Nat} (hj:j < n) (hm:minTo T C j n=T j):(classTo T C (C j) n).head?=some (T j):=by
 obtain ⟨h1,h2⟩:=classTo_is hT (C j) n (Nat.le_refl _)
 have hin:=(h2 (T j)).2 ⟨j,hj,rfl,rfl⟩
 cases hl:classTo T C (C j) n with
 | nil=>rw [hl] at hin; cases hin
 | cons a l =>
  rw [hl] at hin h1
  rw [List.head?_cons]
  rcases List.mem_cons.1 hin with e | e
  ·rw [e]
  ·exfalso
   have hlt:=(List.pairwise_cons.1 h1).1 _ e
   obtain ⟨q,q1,q2,q3⟩:=(h2 a).1 (by rw [hl]; simp)
   rw [q2,<- hm] at hlt
   exact (minTo_is (T:=T) (C:=C) j hj n (Nat.le_refl _)).2 q (.inl q1) q3 hlt
theorem classes_by (hT:∀ i j,i < n->j < n->T i=T j->i=j) (ix:ByteArray->Nat) (hix:∀ j,j < n->ix (T j)=j) :
  ClassedBy (fun y=>∃ i,i < n/\T i=y) (fun x y=>∃ i j,i < n/\j < n/\T i=x/\T j=y/\C i=C j) ((firstsTo T C n n).map fun f=>classTo T C (C (ix f)) n):=by
 obtain ⟨f1,f2⟩:=firstsTo_is (C:=C) hT n (Nat.le_refl _)
 have key:∀ f ∈ firstsTo T C n n,∃ j,j < n/\f=T j/\ix f=j/\minTo T C j n=T j:=fun f hf=>by
  obtain ⟨j,a,b,c⟩:=(f2 f).1 hf
  exact ⟨j,a,b,by rw [b]; exact hix j a,c⟩
 refine ⟨fun l hl=>?_,?_,fun l hl x hx y=>?_,fun x ⟨i,hi,hx⟩=>?_⟩
 ·obtain ⟨f,hf,rfl⟩:=List.mem_map.1 hl
  obtain ⟨j,a,b,c,d⟩:=key f hf
  refine ⟨(classTo_is hT _ n (Nat.le_refl _)).1,fun e=>?_⟩
  have:=classTo_head hT a d
  rw [c] at e
  rw [e] at this
  cases this
 ·rw [List.pairwise_map]
  refine f1.imp_of_mem fun {a b} ha hb hab=>?_
  obtain ⟨j,j1,j2,j3,j4⟩:=key a ha
  obtain ⟨k,k1,k2,k3,k4⟩:=key b hb
  rw [j3,k3]
  exact ⟨T j,T k,classTo_head hT j1 j4,classTo_head hT k1 k4,by rw [<- j2,<- k2]; exact hab⟩
 ·obtain ⟨f,hf,rfl⟩:=List.mem_map.1 hl
  have hc:=(classTo_is (C:=C) hT (C (ix f)) n (Nat.le_refl _)).2
  obtain ⟨i,i1,i2,i3⟩:=(hc x).1 hx
  rw [hc y]
  constructor
  ·rintro ⟨j,j1,j2,j3⟩
   exact ⟨⟨j,j1,j2.symm⟩,i,j,i1,j1,i2.symm,j2.symm,by rw [i3,j3]⟩
  ·rintro ⟨_,a,b,a1,b1,a2,b2,e⟩
   have:=hT a i a1 i1 (by rw [a2,i2])
   subst this
   exact ⟨b,b1,b2.symm,by rw [<- e,i3]⟩
 ·obtain ⟨⟨j,j1,j2,j3⟩,h4⟩:=minTo_is (T:=T) (C:=C) i hi n (Nat.le_refl _)
  have hmin:minTo T C j n=T j:=by
   obtain ⟨⟨q,q1,q2,q3⟩,h5⟩:=minTo_is (T:=T) (C:=C) j j1 n (Nat.le_refl _)
   have a1:=h4 q (.inl q1) (by rw [q3,j3])
   have a2:=h5 j (.inr rfl) rfl
   rw [j2] at a1
   rw [q2] at a2 ⊢
   by_cases e:T q=T j
   ·exact e
   ·exact absurd (bLt_total a1 e) a2
  refine ⟨classTo T C (C (ix (T j))) n,List.mem_map.2 ⟨T j,(f2 _).2 ⟨j,j1,rfl,hmin⟩,rfl⟩,?_⟩
  rw [hix j j1,(classTo_is hT (C j) n (Nat.le_refl _)).2]
  exact ⟨i,hi,hx.symm,j3.symm⟩
end
theorem TextsStrict {S:WS} (hd:∀ i j,i < S.shapes.length->j < S.shapes.length->plainT S i=plainT S j->i=j):(sortedT S).Pairwise fun a b=>bLt a.1 b.1:=by
 obtain ⟨_,hs⟩:=sortedT_perm S
 have hl:=sortedT_length S
 have hp:=sortedT_permL S
 have hn:=(sortedT_nums S).1
 rw [List.pairwise_iff_getElem]
 intro i j hi hj hij
 have h:=hs i j (Nat.zero_le _) hij (by omega)
 have e1:(sortedT S).toArray[i]! = (sortedT S)[i]:=by simp [getElem!_pos,hi]
 have e2:(sortedT S).toArray[j]! = (sortedT S)[j]:=by simp [getElem!_pos,hj]
 rw [e1,e2] at h
 have h2:¬ bLt (sortedT S)[j].1 (sortedT S)[i].1:=fun hb=>by
  have:=(ltT_iff (sortedT S)[j] (sortedT S)[i]).2 hb
  unfold ltT at this
  rw [h] at this
  cases this
 refine bLt_total h2 fun e=>?_
 have key:∀ t ∈ sortedT S,t.2 < S.shapes.length/\t.1=plainT S t.2:=fun t ht=>by
  have:=hp.mem_iff.1 ht
  unfold textsTo at this
  obtain ⟨q,hq,rfl⟩:=List.mem_map.1 this
  exact ⟨List.mem_range.1 hq,rfl⟩
 have k1:=key _ (List.getElem_mem hi)
 have k2:=key _ (List.getElem_mem hj)
 rw [k1.2,k2.2] at e
 have e3:=hd _ _ k2.1 k1.1 e
 have a1:((sortedT S).map (·.2))[i]?=some (sortedT S)[i].2:=by rw [List.getElem?_map,List.getElem?_eq_getElem hi]; rfl
 have a2:((sortedT S).map (·.2))[j]?=some (sortedT S)[i].2:=by rw [List.getElem?_map,List.getElem?_eq_getElem hj,<- e3]; rfl
 have:=nodup_at hn a1 a2
 omega
def ofCls (S:WS) (ts:List TN) (c:Nat):List ByteArray:=(ts.filter (fun t=>classAt S t.2 == c)).map (·.1)
theorem ofCls_mem {S:WS} {ts:List TN} {c:Nat} {y:ByteArray}:y ∈ ofCls S ts c ↔ ∃ t ∈ ts,classAt S t.2=c/\t.1=y:=by
 unfold ofCls
 simp only [List.mem_map,List.mem_filter,beq_iff_eq]
 constructor
 ·rintro ⟨t,⟨h1,h2⟩,h3⟩
  exact ⟨t,h1,h2,h3⟩
 ·rintro ⟨t,h1,h2,h3⟩
  exact ⟨t,⟨h1,h2⟩,h3⟩
theorem heads_firsts (S:WS):∀ ts:List TN,ts.Pairwise (fun a b=>bLt a.1 b.1)->(firstsOf (ts.map fun t=>classAt S t.2)).Pairwise fun c d=>∃ a b,(ofCls S ts c).head?=some a/\(ofCls S ts d).head?=some b/\bLt a b:=by
 refine list_snoc_induction (fun _=>by simp [firstsOf]) fun ts t ih h=>?_
 rw [List.pairwise_append] at h
 have ih:=ih h.1
 have hsp:∀ c,ofCls S (ts++[t]) c=ofCls S ts c++(if classAt S t.2=c then [t.1] else []):=fun c=>by
  unfold ofCls
  rw [List.filter_append,List.map_append]
  congr 1
  by_cases e:classAt S t.2=c
  ·simp [e]
  ·simp [e]
 have hhd:∀ c a,(ofCls S ts c).head?=some a->(ofCls S (ts++[t]) c).head?=some a:=fun c a ha=>by
  rw [hsp,List.head?_append,ha]
  rfl
 have h2:(firstsOf (ts.map fun t=>classAt S t.2)).Pairwise fun c d=>∃ a b,(ofCls S (ts++[t]) c).head?=some a/\(ofCls S (ts++[t]) d).head?=some b/\bLt a b:=ih.imp fun {c d} ⟨a,b,h1,h2,h3⟩=>⟨a,b,hhd c a h1,hhd d b h2,h3⟩
 rw [List.map_append,List.map_cons,List.map_nil,firstsOf_snoc]
 unfold firstStep
 split
 ·exact h2
 ·rename_i hnew
  rw [List.pairwise_append]
  refine ⟨h2,by simp,fun c hc d hd=>?_⟩
  simp only [List.mem_singleton] at hd
  subst hd
  have hnone:ofCls S ts (classAt S t.2)=[]:=by
   rw [List.eq_nil_iff_forall_not_mem]
   intro y hy
   obtain ⟨u,hu,he,_⟩:=ofCls_mem.1 hy
   exact hnew ((mem_firsts _ _).2 (List.mem_map.2 ⟨u,hu,he⟩))
  obtain ⟨u,hu,he⟩:=List.mem_map.1 ((mem_firsts _ _).1 hc)
  cases hl:ofCls S ts c with
  | nil =>
   have:u.1 ∈ ofCls S ts c:=ofCls_mem.2 ⟨u,hu,he,rfl⟩
   rw [hl] at this
   cases this
  | cons a l =>
   obtain ⟨q,hq,_,hq2⟩:=ofCls_mem.1 (show a ∈ ofCls S ts c by rw [hl]; simp)
   refine ⟨a,t.1,hhd c a (by rw [hl]; rfl),by rw [hsp,hnone,if_pos rfl]; rfl,?_⟩
   rw [<- hq2]
   exact h.2.2 q hq t (by simp)
theorem classesOf_by {S:WS} (hd:∀ i j,i < S.shapes.length->j < S.shapes.length->plainT S i=plainT S j->i=j) :
  ClassedBy (fun y=>∃ i,i < S.shapes.length/\plainT S i=y) (fun x y=>∃ i j,i < S.shapes.length/\j < S.shapes.length/\plainT S i=x/\plainT S j=y/\classAt S i=classAt S j) (classesOf S):=by
 have hp:=sortedT_permL S
 have hst:=TextsStrict hd
 have key:∀ t,t ∈ sortedT S ↔ t.2 < S.shapes.length/\t.1=plainT S t.2:=fun t=>by
  rw [hp.mem_iff]
  unfold textsTo
  simp only [List.mem_map,List.mem_range]
  constructor
  ·rintro ⟨q,hq,rfl⟩
   exact ⟨hq,rfl⟩
  ·rintro ⟨h1,h2⟩
   exact ⟨t.2,h1,by rw [<- h2]⟩
 have e:classesOf S=(firstsOf ((sortedT S).map fun t=>classAt S t.2)).map (ofCls S (sortedT S)):=by
  unfold classesOf listsTo clsTo
  rw [List.take_of_length_le (Nat.le_refl _)]
  refine List.map_congr_left fun c _=>?_
  unfold ofClass ofCls
  rw [List.take_of_length_le (Nat.le_refl _)]
 rw [e]
 have hmem:∀ c y,y ∈ ofCls S (sortedT S) c ↔ ∃ i,i < S.shapes.length/\plainT S i=y/\classAt S i=c:=fun c y=>by
  rw [ofCls_mem]
  constructor
  ·rintro ⟨t,h1,h2,h3⟩
   obtain ⟨a,b⟩:=(key t).1 h1
   exact ⟨t.2,a,by rw [<- b,h3],h2⟩
  ·rintro ⟨i,h1,h2,h3⟩
   exact ⟨(plainT S i,i),(key _).2 ⟨h1,rfl⟩,h3,h2⟩
 refine ⟨fun l hl=>?_,?_,fun l hl x hx y=>?_,fun x ⟨i,hi,hx⟩=>?_⟩
 ·obtain ⟨c,hc,rfl⟩:=List.mem_map.1 hl
  refine ⟨?_,fun e0=>?_⟩
  ·unfold ofCls
   rw [List.pairwise_map]
   exact hst.filter _
  ·obtain ⟨t,ht,he⟩:=List.mem_map.1 ((mem_firsts _ _).1 hc)
   have:t.1 ∈ ofCls S (sortedT S) c:=ofCls_mem.2 ⟨t,ht,he,rfl⟩
   rw [e0] at this
   cases this
 ·rw [List.pairwise_map]
  exact heads_firsts S _ hst
 ·obtain ⟨c,hc,rfl⟩:=List.mem_map.1 hl
  obtain ⟨i,i1,i2,i3⟩:=(hmem c x).1 hx
  rw [hmem c y]
  constructor
  ·rintro ⟨j,j1,j2,j3⟩
   exact ⟨⟨j,j1,j2⟩,i,j,i1,j1,i2,j2,by rw [i3,j3]⟩
  ·rintro ⟨_,a,b,a1,b1,a2,b2,e⟩
   have:=hd a i a1 i1 (by rw [a2,i2])
   subst this
   exact ⟨b,b1,b2,by rw [<- e,i3]⟩
 ·refine ⟨ofCls S (sortedT S) (classAt S i),List.mem_map.2 ⟨classAt S i,(mem_firsts _ _).2 (List.mem_map.2 ⟨(plainT S i,i),(key _).2 ⟨hi,rfl⟩,rfl⟩),rfl⟩,?_⟩
  exact (hmem _ x).2 ⟨i,hi,hx,rfl⟩
def textAt (ts:List Trm) (i:Nat):ByteArray:=match ts[i]? with | some t=>t.text | none=>noName
def classesR (L:List ST):List (List ByteArray):=(firstsTo (textAt (termsR L)) (clsAt (drawnR L)) (termsR L).length (termsR L).length).map fun f=>classTo (textAt (termsR L)) (clsAt (drawnR L)) (clsAt (drawnR L) ((idxT f (termsR L)).getD 0)) (termsR L).length
theorem ClassedBy.congr {K K':ByteArray->Prop} {E E':ByteArray->ByteArray->Prop} {out:List (List ByteArray)} (h:ClassedBy K E out) (hK:∀ y,K y ↔ K' y) (hE:∀ x y,E x y ↔ E' x y):ClassedBy K' E' out :=
 ⟨h.each,h.heads,fun l hl x hx y=>by rw [h.same l hl x hx y,hK,hE],fun x hx=>h.all x ((hK x).2 hx)⟩
theorem Both.classes {S:WS} {L:List ST} (h:Both S L):classesOf S=classesR L:=by
 obtain ⟨hT,hk⟩:=termsR_ok h.ok
 have hB:=h.holds.fine.web.base
 have h1:=classesOf_by (S:=S) (fun i j hi hj e=>by
  obtain ⟨t,kt,dt⟩:=h.holds.term i hi
  obtain ⟨u,ku,du⟩:=h.holds.term j hj
  rw [den_text hB dt,den_text hB du] at e
  have:=text_inj (hT.ok t ((hk t).2 kt)) (hT.ok u ((hk u).2 ku)) e
  subst this
  exact dt.inj hB du)
 have htx:∀ (i:Nat) (t:Trm),(termsR L)[i]?=some t->textAt (termsR L) i=t.text:=fun i t e=>by unfold textAt; rw [e]
 have hget:∀ i,i < (termsR L).length->∃ t,(termsR L)[i]?=some t:=fun i hi=>⟨_,List.getElem?_eq_getElem hi⟩
 have h2:=classes_by (T:=textAt (termsR L)) (C:=clsAt (drawnR L)) (n:=(termsR L).length) (fun i j hi hj e=>by
  obtain ⟨t,ht⟩:=hget i hi
  obtain ⟨u,hu⟩:=hget j hj
  rw [htx i t ht,htx j u hu] at e
  have:=text_inj (hT.ok t (List.mem_of_getElem? ht)) (hT.ok u (List.mem_of_getElem? hu)) e
  subst this
  exact nodup_at hT.nodup ht hu) (fun f=>(idxT f (termsR L)).getD 0) (fun j hj=>by
  obtain ⟨t,ht⟩:=hget j hj
  show (idxT (textAt (termsR L) j) (termsR L)).getD 0=j
  rw [htx j t ht,(hT.idx (hT.ok t (List.mem_of_getElem? ht))).2 ht]
  rfl)
 refine h1.unique (h2.congr (fun y=>?_) (fun x y=>?_))
 ·constructor
  ·rintro ⟨i,hi,rfl⟩
   obtain ⟨t,ht⟩:=hget i hi
   obtain ⟨j,dj⟩:=h.holds.num t ((hk t).1 (List.mem_of_getElem? ht))
   exact ⟨j,dj.lt,by rw [den_text hB dj,htx i t ht]⟩
  ·rintro ⟨i,hi,rfl⟩
   obtain ⟨t,kt,dt⟩:=h.holds.term i hi
   obtain ⟨j,hj⟩:=List.getElem?_of_mem ((hk t).2 kt)
   exact ⟨j,(List.getElem?_eq_some_iff.1 hj).1,by rw [den_text hB dt,htx j t hj]⟩
 ·constructor
  ·rintro ⟨i,j,hi,hj,rfl,rfl,e⟩
   obtain ⟨t,ht⟩:=hget i hi
   obtain ⟨u,hu⟩:=hget j hj
   obtain ⟨a,da⟩:=h.holds.num t ((hk t).1 (List.mem_of_getElem? ht))
   obtain ⟨b,db⟩:=h.holds.num u ((hk u).1 (List.mem_of_getElem? hu))
   exact ⟨a,b,da.lt,db.lt,by rw [den_text hB da,htx i t ht],by rw [den_text hB db,htx j u hu],(h.holds.eq_iff da db).2 ((drawnR_iff h.ok ht hu).1 e)⟩
  ·rintro ⟨i,j,hi,hj,rfl,rfl,e⟩
   obtain ⟨t,kt,dt⟩:=h.holds.term i hi
   obtain ⟨u,ku,du⟩:=h.holds.term j hj
   obtain ⟨a,ha⟩:=List.getElem?_of_mem ((hk t).2 kt)
   obtain ⟨b,hb⟩:=List.getElem?_of_mem ((hk u).2 ku)
   exact ⟨a,b,(List.getElem?_eq_some_iff.1 ha).1,(List.getElem?_eq_some_iff.1 hb).1,by rw [den_text hB dt,htx a t ha],by rw [den_text hB du,htx b u hb],(drawnR_iff h.ok ha hb).2 ((h.holds.eq_iff dt du).1 e)⟩
structure ScanAt (w:World) (xb:Nat) (s:ByteArray) (x:Sc):Prop where
 lt:xb < w.heap.size
 c0:w.cell? ⟨xb,0,none⟩=some (.string s)
 c1:w.cell? ⟨xb,1,none⟩=some (.int .i64 x.pos)
 c2:w.cell? ⟨xb,2,none⟩=some (.int .i64 x.bad)
 c3:w.cell? ⟨xb,3,none⟩=some (.int .i64 x.out)
 free:∀ o,w.frozen? ⟨xb,o,none⟩=false
theorem ScanAt.later {w w':World} {L:List Nat} {xb:Nat} {s:ByteArray} {x:Sc} (h:ScanAt w xb s x) (hu:Upd L w w') (hr:xb ∉ L):ScanAt w' xb s x :=
 ⟨Nat.lt_of_lt_of_le h.lt hu.size,(hu.cell h.lt hr).trans h.c0,(hu.cell h.lt hr).trans h.c1,(hu.cell h.lt hr).trans h.c2,(hu.cell h.lt hr).trans h.c3,fun o=>(hu.frozen (p:=⟨xb,o,none⟩) h.lt hr).trans (h.free o)⟩
theorem ScanAt.drewN {w:World} {xb:Nat} {s:ByteArray} {x:Sc} (h:ScanAt w xb s x) (n:Nat):ScanAt (w.drewN n) xb s x:=⟨h.lt,h.c0,h.c1,h.c2,h.c3,h.free⟩
theorem ScanAt.set1 {w:World} {xb:Nat} {s:ByteArray} {x:Sc} (h:ScanAt w xb s x) {p:Nat} {v:Int} (hv:v=p):ScanAt (w.setCell ⟨xb,1,none⟩ (.int .i64 v)) xb s { x with pos:=p }:=by
 obtain ⟨hlt,h0,h1,h2,h3,hf⟩:=h
 subst hv
 exact ⟨by simpa using hlt,by go_simp,by go_simp,by go_simp,by go_simp,fun o=>by simpa using hf o⟩
theorem ScanAt.set2 {w:World} {xb:Nat} {s:ByteArray} {x:Sc} (h:ScanAt w xb s x) (b:Int):ScanAt (w.setCell ⟨xb,2,none⟩ (.int .i64 b)) xb s { x with bad:=b }:=by
 obtain ⟨hlt,h0,h1,h2,h3,hf⟩:=h
 exact ⟨by simpa using hlt,by go_simp,by go_simp,by go_simp,by go_simp,fun o=>by simpa using hf o⟩
theorem ScanAt.set3 {w:World} {xb:Nat} {s:ByteArray} {x:Sc} (h:ScanAt w xb s x) (b:Int):ScanAt (w.setCell ⟨xb,3,none⟩ (.int .i64 b)) xb s { x with out:=b }:=by
 obtain ⟨hlt,h0,h1,h2,h3,hf⟩:=h
 exact ⟨by simpa using hlt,by go_simp,by go_simp,by go_simp,by go_simp,fun o=>by simpa using hf o⟩
theorem blanks_any (xb:Nat) (s:ByteArray) (x:Sc) (w:World) (h:ScanAt w xb s x) (hs:s.size<=1000) (hp:x.pos<=100000) :
  Calls Tryz.prog 109 #[.pointer (some ⟨xb,0,none⟩)] w fun e w'=>e=.returned (.tuple #[])/\ScanAt w' xb s (blanksR s x)/\Upd [xb] w w':=by
 have Hh:=hide h
 have hlt0:=h.lt
 go_enter Tryz.func109,Tryz.ntmps109
 go_wp2
 go_loopw [] (fun wr=>∃ i:Nat,x.pos<=i/\i<=100000/\(i<=s.size\/i=x.pos)/\Hid (endOf blankB s i=endOf blankB s x.pos)/\Hid (ScanAt wr xb s { x with pos:=i }/\Upd [xb] w wr)) (fun wr=>s.size - natAt wr ⟨xb,1,none⟩)
 case atStart=>exact ⟨x.pos,Nat.le_refl _,hp,.inr rfl,rfl,Hh.out,Upd.refl _ _⟩
 case round =>
  obtain ⟨i,hi1,hi2,hi4,hi3,HR⟩:=hrel
  clear h
  have g0:=HR.out.1.c0
  have g1:wr.cell? ⟨xb,1,none⟩=some (.int .i64 i):=HR.out.1.c1
  have gf:=HR.out.1.free
  by_cases hlt:i < s.size
  ·have hbt:=byteAt_get s i hlt
   have hltI:(i:Int) < (s.size:Int):=by omega
   by_cases hb:byteAt s i=32
   ·go_wp2
    go_quiet (fail)
    go_wp2
    refine ⟨⟨i+1,by omega,by omega,.inl (by omega),(endOf_step hlt (by simp [blankB,hb])).symm.trans hi3,((HR.out.1.drewN nq).set1 (p:=i+1) (by omega)),(HR.out.2.drewN nq).setCell (by simp) _⟩,?_⟩
    rw [natAt_eq g1,natAt_eq (n:=i+1) ((HR.out.1.drewN nq).set1 (p:=i+1) (by omega)).c1]
    omega
   ·have hb':(byteAt s i == 32)=false:=by simpa using hb
    have Hfrom:Hid (endOf blankB s x.pos=i):=hi3.symm.trans (endOf_stop (by simp [blankB,hb]))
    clear hi3 hb
    go_wp2
    go_quiet (fail)
    go_wp2
    go_end0
    refine ⟨rfl,?_,HR.out.2.drewN _⟩
    unfold blanksR
    rw [Hfrom.out]
    exact HR.out.1.drewN _
  ·have hd:decide ((i:Int) < (s.size:Int))=false:=by simp; omega
   have hltI:¬ (i:Int) < (s.size:Int):=by omega
   have Hfrom:Hid (endOf blankB s x.pos=i):=hi3.symm.trans (endOf_stop (fun hh=>hlt hh.1))
   clear hi3
   go_wp2
   go_quiet (fail)
   go_wp2
   go_end0
   refine ⟨rfl,?_,HR.out.2.drewN _⟩
   unfold blanksR
   rw [Hfrom.out]
   exact HR.out.1.drewN _
theorem scanNo_any (xb:Nat) (s:ByteArray) (x:Sc) (w:World) (h:ScanAt w xb s x) :
  Calls Tryz.prog 110 #[.pointer (some ⟨xb,0,none⟩)] w fun e w'=>e=.returned (.tuple #[])/\ScanAt w' xb s (noR x)/\Upd [xb] w w':=by
 have Hh:=hide h
 have g1:=h.c1
 have g2:=h.c2
 have gf:=h.free
 by_cases hb:x.bad < 0
 ·have HN:Hid (noR x={ x with bad:=x.pos }):=by show _=_; unfold noR; rw [if_pos hb]
  clear h
  go_enter Tryz.func110,Tryz.ntmps110
  go_wp2
  go_end0
  exact ⟨rfl,by rw [HN.out]; exact Hh.out.set2 _,(Upd.refl _ _).setCell (by simp) _⟩
 ·have HN:Hid (noR x=x):=by show _=_; unfold noR; rw [if_neg hb]
  clear h
  go_enter Tryz.func110,Tryz.ntmps110
  go_wp2
  go_end0
  exact ⟨rfl,by rw [HN.out]; exact Hh.out,Upd.refl _ _⟩
theorem scanFar_any (xb:Nat) (s:ByteArray) (x:Sc) (a:Nat) (w:World) (h:ScanAt w xb s x) :
  Calls Tryz.prog 133 #[.pointer (some ⟨xb,0,none⟩),.int .i64 a] w fun e w'=>e=.returned (.tuple #[])/\ScanAt w' xb s (farR a x)/\Upd [xb] w w':=by
 have Hh:=hide h
 have g3:=h.c3
 have gf:=h.free
 by_cases hb:x.out < 0
 ·have HN:Hid (farR a x={ x with out:=a }):=by show _=_; unfold farR; rw [if_pos (.inl hb)]
  clear h
  go_enter Tryz.func133,Tryz.ntmps133
  go_wp2
  go_end0
  exact ⟨rfl,by rw [HN.out]; exact Hh.out.set3 _,(Upd.refl _ _).setCell (by simp) _⟩
 ·by_cases hc:(a:Int) < x.out
  ·have HN:Hid (farR a x={ x with out:=a }):=by show _=_; unfold farR; rw [if_pos (.inr hc)]
   clear h
   go_enter Tryz.func133,Tryz.ntmps133
   go_wp2
   go_end0
   exact ⟨rfl,by rw [HN.out]; exact Hh.out.set3 _,(Upd.refl _ _).setCell (by simp) _⟩
  ·have HN:Hid (farR a x=x):=by show _=_; unfold farR; rw [if_neg (by omega)]
   clear h
   go_enter Tryz.func133,Tryz.ntmps133
   go_wp2
   go_end0
   exact ⟨rfl,by rw [HN.out]; exact Hh.out,Upd.refl _ _⟩
theorem small_any (c:Int) (w:World):Calls Tryz.prog 159 #[.int .u8 c] w fun e w'=>e=.returned (.bool (letterB c))/\w'=w:=by
 by_cases h1:97<=c
 ·by_cases h2:c<=122
  ·have HV:Hid (letterB c=true):=by show _=_; unfold letterB; simp [h1,h2]
   go_enter Tryz.func159,Tryz.ntmps159
   go_wp2
   go_ret
   exact ⟨by rw [HV.out]; rfl,rfl⟩
  ·have HV:Hid (letterB c=false):=by show _=_; unfold letterB; simp; omega
   go_enter Tryz.func159,Tryz.ntmps159
   go_wp2
   go_ret
   exact ⟨by rw [HV.out]; rfl,rfl⟩
 ·have HV:Hid (letterB c=false):=by show _=_; unfold letterB; simp; omega
  go_enter Tryz.func159,Tryz.ntmps159
  go_wp2
  go_ret
  exact ⟨by rw [HV.out]; rfl,rfl⟩
theorem digit_any (c:Int) (w:World):Calls Tryz.prog 160 #[.int .u8 c] w fun e w'=>e=.returned (.bool (digitB c))/\w'=w:=by
 by_cases h1:48<=c
 ·by_cases h2:c<=57
  ·have HV:Hid (digitB c=true):=by show _=_; unfold digitB; simp [h1,h2]
   go_enter Tryz.func160,Tryz.ntmps160
   go_wp2
   go_ret
   exact ⟨by rw [HV.out]; rfl,rfl⟩
  ·have HV:Hid (digitB c=false):=by show _=_; unfold digitB; simp; omega
   go_enter Tryz.func160,Tryz.ntmps160
   go_wp2
   go_ret
   exact ⟨by rw [HV.out]; rfl,rfl⟩
 ·have HV:Hid (digitB c=false):=by show _=_; unfold digitB; simp; omega
  go_enter Tryz.func160,Tryz.ntmps160
  go_wp2
  go_ret
  exact ⟨by rw [HV.out]; rfl,rfl⟩
theorem scanIs_any (xb:Nat) (s:ByteArray) (x:Sc) (c:Nat) (w:World) (h:ScanAt w xb s x) (hs:s.size<=1000) (hp:x.pos<=100000) :
  Calls Tryz.prog 134 #[.pointer (some ⟨xb,0,none⟩),.int .u8 c] w fun e w'=>e=.returned (.bool (isR s c x))/\ScanAt w' xb s (blanksR s x)/\Upd [xb] w w':=by
 have HB:=hide (blanks_any xb s x w h hs hp)
 clear h
 obtain ⟨i,hi⟩:∃ i,endOf blankB s x.pos=i:=⟨_,rfl⟩
 have Hi:=hide hi
 have hpb:Hid ((blanksR s x).pos=i):=by show _=_; exact hi
 have hbb:Hid ((blanksR s x).bad=x.bad):=rfl
 by_cases hb:x.bad < 0
 ·by_cases hlt:i < s.size
  ·have hbt:=byteAt_get s i hlt
   have hltI:(i:Int) < (s.size:Int):=by omega
   by_cases he:byteAt s i=c
   ·have HV:Hid (isR s c x=true):=by show _=_; unfold isR; rw [hi]; simp [hb,hlt,he]
    have he':(byteAt s i == (c:Int))=true:=by simpa using he
    clear hi
    go_enter Tryz.func134,Tryz.ntmps134
    go_wp2_with (go_at_call 109; refine HB.out.mono ?_; rintro e w2 ⟨rfl,hs2,hu2⟩; have HS2:=hide hs2; have HU2:=hide hu2; have g0:=hs2.c0; have g1:=hs2.c1; have g2:=hs2.c2; rw [hpb.out] at g1; rw [hbb.out] at g2; clear hs2 hu2)
    go_quiet (fail)
    go_wp2
    go_ret
    exact ⟨by rw [HV.out]; rfl,HS2.out.drewN _,HU2.out.drewN _⟩
   ·have HV:Hid (isR s c x=false):=by show _=_; unfold isR; rw [hi]; simp [he]
    have he':(byteAt s i == (c:Int))=false:=by simpa using he
    clear hi he
    go_enter Tryz.func134,Tryz.ntmps134
    go_wp2_with (go_at_call 109; refine HB.out.mono ?_; rintro e w2 ⟨rfl,hs2,hu2⟩; have HS2:=hide hs2; have HU2:=hide hu2; have g0:=hs2.c0; have g1:=hs2.c1; have g2:=hs2.c2; rw [hpb.out] at g1; rw [hbb.out] at g2; clear hs2 hu2)
    go_quiet (fail)
    go_wp2
    go_ret
    exact ⟨by rw [HV.out]; rfl,HS2.out.drewN _,HU2.out.drewN _⟩
  ·have HV:Hid (isR s c x=false):=by show _=_; unfold isR; rw [hi]; simp [hlt]
   have hltI:¬ (i:Int) < (s.size:Int):=by omega
   clear hi
   go_enter Tryz.func134,Tryz.ntmps134
   go_wp2_with (go_at_call 109; refine HB.out.mono ?_; rintro e w2 ⟨rfl,hs2,hu2⟩; have HS2:=hide hs2; have HU2:=hide hu2; have g0:=hs2.c0; have g1:=hs2.c1; have g2:=hs2.c2; rw [hpb.out] at g1; rw [hbb.out] at g2; clear hs2 hu2)
   have hd:¬ (i:Int) < (s.size:Int):=by omega
   go_quiet (fail)
   go_wp2
   go_ret
   exact ⟨by rw [HV.out]; rfl,HS2.out.drewN _,HU2.out.drewN _⟩
 ·have HV:Hid (isR s c x=false):=by show _=_; unfold isR; simp [hb]
  clear hi
  go_enter Tryz.func134,Tryz.ntmps134
  go_wp2_with (go_at_call 109; refine HB.out.mono ?_; rintro e w2 ⟨rfl,hs2,hu2⟩; have HS2:=hide hs2; have HU2:=hide hu2; have g0:=hs2.c0; have g1:=hs2.c1; have g2:=hs2.c2; rw [hpb.out] at g1; rw [hbb.out] at g2; clear hs2 hu2)
  have hd:¬ x.bad < 0:=by omega
  go_quiet (fail)
  go_wp2
  go_ret
  exact ⟨by rw [HV.out]; rfl,HS2.out.drewN _,HU2.out.drewN _⟩
theorem letter_word {c:Int} (h:letterB c=true):wordB c=true:=by rw [wordB_of,h]; rfl
theorem quiet_of_same2 {P:Program} {f:FuncId} {args:Array Value} {w:World} {q n:Nat} {v:Value} (h:Calls P f args (w.drewN (q+n)) fun e w'=>e=.returned v/\w'=w.drewN (q+n)):Calls P f args (w.drewN (q+n)) fun e w''=>e=.returned v/\∃ m,w''=w.drewN (q+m) :=
 h.mono fun _ _ ⟨he,hm⟩=>⟨he,n,hm⟩
theorem small_is (c:Int) (b:Bool) (w:World) (h:letterB c=b):Calls Tryz.prog 159 #[.int .u8 c] w fun e w'=>e=.returned (.bool b)/\w'=w:=h ▸ small_any c w
theorem digit_is (c:Int) (b:Bool) (w:World) (h:digitB c=b):Calls Tryz.prog 160 #[.int .u8 c] w fun e w'=>e=.returned (.bool b)/\w'=w:=h ▸ digit_any c w
theorem name_any (xb:Nat) (s:ByteArray) (x:Sc) (w:World) (h:ScanAt w xb s x) (hs:s.size<=1000) (hp:x.pos<=100000) :
  Calls Tryz.prog 132 #[.pointer (some ⟨xb,0,none⟩)] w fun e w'=>e=.returned (.string (nameR s x).1)/\ScanAt w' xb s (nameR s x).2/\Upd [xb] w w':=by
 have HB:=hide (blanks_any xb s x w h hs hp)
 clear h
 obtain ⟨i,hi⟩:∃ i,endOf blankB s x.pos=i:=⟨_,rfl⟩
 have hpb:Hid ((blanksR s x).pos=i):=by show _=_; exact hi
 have hbb:Hid ((blanksR s x).bad=x.bad):=rfl
 by_cases hb:x.bad < 0
 ·by_cases hlt:i < s.size
  ·have hbt:=byteAt_get s i hlt
   have hltI:(i:Int) < (s.size:Int):=by omega
   cases hl:letterB (byteAt s i)
   ·have HN:Hid (nameR s x=(noName,noR (blanksR s x))):=by show _=_; unfold nameR; rw [hi,if_neg (by omega),hl]; rfl
    clear hi
    go_enter Tryz.func132,Tryz.ntmps132
    go_wp2_with (first
     | (go_at_call 109; refine HB.out.mono ?_; rintro e w2 ⟨rfl,hs2,hu2⟩; have HS2:=hide hs2; have HU2:=hide hu2; have g0:=hs2.c0; have g1:=hs2.c1; have g2:=hs2.c2; rw [hpb.out] at g1; rw [hbb.out] at g2; clear hs2 hu2)
     | (go_at_call 159; refine (small_any _ _).mono ?_; rintro e w3 ⟨rfl,rfl⟩; rw [hl])
     | (go_at_call 110; refine (scanNo_any xb s (blanksR s x) _ HS2.out).mono ?_; rintro e w4 ⟨rfl,hs4,hu4⟩; have HS4:=hide hs4; have HU4:=hide hu4; clear hs4 hu4))
    go_ret
    exact ⟨by rw [HN.out]; rfl,by rw [HN.out]; exact HS4.out,HU2.out.trans HU4.out⟩
   ·have HN:Hid (nameR s x=(s.extract i (endOf wordB s i),{ x with pos:=endOf wordB s i })):=by show _=_; unfold nameR; rw [hi,if_neg (by omega),hl]; rfl
    clear hi
    go_enter Tryz.func132,Tryz.ntmps132
    go_wp2_with (first
     | (go_at_call 109; refine HB.out.mono ?_; rintro e w2 ⟨rfl,hs2,hu2⟩; have HS2:=hide hs2; have HU2:=hide hu2; have g0:=hs2.c0; have g1:=hs2.c1; have g2:=hs2.c2; rw [hpb.out] at g1; rw [hbb.out] at g2; clear hs2 hu2)
     | (go_at_call 159; refine (small_any _ _).mono ?_; rintro e w3 ⟨rfl,rfl⟩; rw [hl]))
    go_loopw [] (fun wx=>∃ j:Nat,i<=j/\j<=s.size/\Hid (endOf wordB s j=endOf wordB s i)/\Hid (ScanAt wx xb s { x with pos:=j }/\Upd [xb] w wx)) (fun wx=>s.size - natAt wx ⟨xb,1,none⟩)
    case atStart =>
     refine ⟨i,Nat.le_refl _,by omega,rfl,?_,HU2.out⟩
     have h1:=HS2.out
     unfold blanksR at h1
     have h2:=hpb.out
     unfold blanksR at h2
     simp only at h2
     rw [h2] at h1
     exact h1
    case round =>
     obtain ⟨j,hj1,hj2,hj3,HR⟩:=hrel
     clear g0 g1 g2
     have x0:=HR.out.1.c0
     have x1:wr.cell? ⟨xb,1,none⟩=some (.int .i64 j):=HR.out.1.c1
     have xf:=HR.out.1.free
     by_cases hjt:j < s.size
     ·have hbj:=byteAt_get s j hjt
      have hjI:(j:Int) < (s.size:Int):=by omega
      cases hlj:letterB (byteAt s j)
      ·cases hd:digitB (byteAt s j)
       ·have Hend:Hid (endOf wordB s i=j):=hj3.out.symm.trans (endOf_stop (by rw [wordB_of,hlj,hd]; simp))
        go_wp2
        go_quiet (fail)
        go_wp2
        go_quiet ((go_at_call 159; first | exact Calls.quiet_of_same (small_is _ false _ hlj) | exact quiet_of_same2 (small_is _ false _ hlj)))
        go_wp2
        go_quiet ((go_at_call 160; first | exact Calls.quiet_of_same (digit_is _ false _ hd) | exact quiet_of_same2 (digit_is _ false _ hd)))
        go_wp2
        go_quiet (fail)
        go_wp2
        go_ret
        exact ⟨by rw [HN.out,Hend.out]; rfl,by rw [HN.out,Hend.out]; exact (HR.out.1.drewN _).drewN _,(HR.out.2.drewN _).drewN _⟩
       ·have Hj4:Hid (endOf wordB s (j+1)=endOf wordB s i):=(endOf_step hjt (by rw [wordB_of,hlj,hd]; rfl)).symm.trans hj3
        go_wp2
        go_quiet (fail)
        go_wp2
        go_quiet ((go_at_call 159; first | exact Calls.quiet_of_same (small_is _ false _ hlj) | exact quiet_of_same2 (small_is _ false _ hlj)))
        go_wp2
        go_quiet ((go_at_call 160; first | exact Calls.quiet_of_same (digit_is _ true _ hd) | exact quiet_of_same2 (digit_is _ true _ hd)))
        go_wp2
        refine ⟨⟨j+1,by omega,by omega,Hj4,(HR.out.1.drewN _).set1 (p:=j+1) (by omega),(HR.out.2.drewN _).setCell (by simp) _⟩,?_⟩
        rw [natAt_eq x1,natAt_eq (n:=j+1) ((HR.out.1.drewN _).set1 (p:=j+1) (by omega)).c1]
        omega
      ·have Hj4:Hid (endOf wordB s (j+1)=endOf wordB s i):=(endOf_step hjt (letter_word hlj)).symm.trans hj3
       go_wp2
       go_quiet (fail)
       go_wp2
       go_quiet ((go_at_call 159; first | exact Calls.quiet_of_same (small_is _ true _ hlj) | exact quiet_of_same2 (small_is _ true _ hlj)))
       go_wp2
       go_quiet ((go_at_call 160; first | exact Calls.quiet_of_same (digit_any _ _) | exact quiet_of_same2 (digit_any _ _)))
       go_wp2
       refine ⟨⟨j+1,by omega,by omega,Hj4,(HR.out.1.drewN _).set1 (p:=j+1) (by omega),(HR.out.2.drewN _).setCell (by simp) _⟩,?_⟩
       rw [natAt_eq x1,natAt_eq (n:=j+1) ((HR.out.1.drewN _).set1 (p:=j+1) (by omega)).c1]
       omega
     ·have Hend:Hid (endOf wordB s i=j):=hj3.out.symm.trans (endOf_stop (fun hh=>hjt hh.1))
      go_wp2
      have hjI:¬ (j:Int) < (s.size:Int):=by omega
      go_quiet (fail)
      go_wp2
      go_quiet (fail)
      go_wp2
      go_ret
      exact ⟨by rw [HN.out,Hend.out]; rfl,by rw [HN.out,Hend.out]; exact (HR.out.1.drewN _).drewN _,(HR.out.2.drewN _).drewN _⟩
  ·have HN:Hid (nameR s x=(noName,noR (blanksR s x))):=by show _=_; unfold nameR; rw [hi,if_pos (by omega)]
   clear hi
   go_enter Tryz.func132,Tryz.ntmps132
   go_wp2_with (first
     | (go_at_call 109; refine HB.out.mono ?_; rintro e w2 ⟨rfl,hs2,hu2⟩; have HS2:=hide hs2; have HU2:=hide hu2; have g0:=hs2.c0; have g1:=hs2.c1; have g2:=hs2.c2; rw [hpb.out] at g1; rw [hbb.out] at g2; clear hs2 hu2)
     | (go_at_call 110; refine (scanNo_any xb s (blanksR s x) _ HS2.out).mono ?_; rintro e w4 ⟨rfl,hs4,hu4⟩; have HS4:=hide hs4; have HU4:=hide hu4; clear hs4 hu4))
   go_ret
   exact ⟨by rw [HN.out]; rfl,by rw [HN.out]; exact HS4.out,HU2.out.trans HU4.out⟩
 ·have HN:Hid (nameR s x=(noName,noR (blanksR s x))):=by show _=_; unfold nameR; rw [if_pos (by omega)]
  clear hi
  go_enter Tryz.func132,Tryz.ntmps132
  go_wp2_with (first
     | (go_at_call 109; refine HB.out.mono ?_; rintro e w2 ⟨rfl,hs2,hu2⟩; have HS2:=hide hs2; have HU2:=hide hu2; have g0:=hs2.c0; have g1:=hs2.c1; have g2:=hs2.c2; rw [hpb.out] at g1; rw [hbb.out] at g2; clear hs2 hu2)
     | (go_at_call 110; refine (scanNo_any xb s (blanksR s x) _ HS2.out).mono ?_; rintro e w4 ⟨rfl,hs4,hu4⟩; have HS4:=hide hs4; have HU4:=hide hu4; clear hs4 hu4))
  go_ret
  exact ⟨by rw [HN.out]; rfl,by rw [HN.out]; exact HS4.out,HU2.out.trans HU4.out⟩
theorem endOf_pos (p:Int->Bool) (s:ByteArray) (i:Nat):i<=endOf p s i/\endOf p s i<=max i s.size:=by
 by_cases h:i<=s.size
 ·have:=endOf_le p s i h
  omega
 ·rw [endOf_stop (p:=p) (s:=s) (i:=i) (fun hh=>by omega)]
  omega
structure PosOK (s:ByteArray) (n:Nat) (x y:Sc) (len:Nat):Prop where
 le:x.pos<=y.pos
 far:y.pos<=max x.pos s.size+n
 len:len+2 * x.pos<=2 * y.pos
theorem blanksR_pos (s:ByteArray) (x:Sc):x.pos<=(blanksR s x).pos/\(blanksR s x).pos<=max x.pos s.size:=endOf_pos _ _ _
theorem noR_pos (x:Sc):(noR x).pos=x.pos:=by unfold noR; split <;> rfl
theorem farR_pos (a:Nat) (x:Sc):(farR a x).pos=x.pos:=by unfold farR; split <;> rfl
theorem isR_pos {s:ByteArray} {c:Int} {x:Sc} (h:isR s c x=true):(blanksR s x).pos < s.size/\x.bad < 0:=by
 unfold isR at h
 simp only [Bool.and_eq_true,decide_eq_true_eq] at h
 exact ⟨h.1.2,h.1.1⟩
theorem nameR_pos (s:ByteArray) (x:Sc):x.pos<=(nameR s x).2.pos/\(nameR s x).2.pos<=max x.pos s.size/\(nameR s x).1.size+x.pos<=(nameR s x).2.pos:=by
 have h0:=endOf_pos blankB s x.pos
 unfold nameR
 split
 ·rw [noR_pos]
  exact ⟨h0.1,h0.2,by show 0+_<=_; have:=h0.1; unfold blanksR; simpa using this⟩
 ·split
  ·have h1:=endOf_pos wordB s (endOf blankB s x.pos)
   simp only [ByteArray.size_extract]
   omega
  ·rw [noR_pos]
   exact ⟨h0.1,h0.2,by show 0+_<=_; have:=h0.1; unfold blanksR; simpa using this⟩
theorem headR_pos (s:ByteArray) (d:Nat) (x:Sc):x.pos<=(headR s d x).2.pos/\(headR s d x).2.pos<=max x.pos s.size/\(headR s d x).1.size+x.pos<=(headR s d x).2.pos:=by
 have h0:=blanksR_pos s x
 have h1:=nameR_pos s (blanksR s x)
 have h2:(headR s d x).2.pos=(nameR s (blanksR s x)).2.pos:=by
  unfold headR
  simp only
  split
  ·exact farR_pos _ _
  ·rfl
 have h3:(headR s d x).1=(nameR s (blanksR s x)).1:=rfl
 rw [h2,h3]
 omega
def joinR:List Trm->List UInt8
 | []=>[]
 | p :: qs=>44 :: 32 :: (p.txt++joinR qs)
def joinT:List Trm->List UInt8
 | []=>[]
 | p :: qs=>p.txt++joinR qs
theorem txtR_join:∀ qs:List Trm,Trm.txtR qs=joinR qs++[41]
 | []=>rfl
 | p :: qs=>by simp [Trm.txtR,joinR,txtR_join qs]
theorem txt_node (nm:ByteArray) (ps:List Trm) (h:ps ≠ []):(Trm.node nm ps).txt=nm.data.toList++40 :: (joinT ps++[41]):=by
 match ps,h with
 | p :: qs,_=>simp [Trm.txt,joinT,txtR_join]
theorem joinR_snoc (qs:List Trm) (p:Trm):joinR (qs++[p])=joinR qs++44 :: 32 :: p.txt:=by
 induction qs with
 | nil=>simp [joinR]
 | cons q qs ih=>simp [joinR,ih]
theorem joinT_snoc (qs:List Trm) (p:Trm) (h:qs ≠ []):joinT (qs++[p])=joinT qs++44 :: 32 :: p.txt:=by
 match qs,h with
 | q :: qs,_=>simp [joinT,joinR_snoc]
theorem joinT_one (p:Trm):joinT [p]=p.txt:=by simp [joinT,joinR]
theorem joinR_len (qs:List Trm):(joinR qs).length<=(joinT qs).length+2:=by
 cases qs with
 | nil=>simp [joinR,joinT]
 | cons q qs=>simp [joinR,joinT]
theorem txt_len (nm:ByteArray) (ps:List Trm):(Trm.node nm ps).txt.length<=nm.size+2+(joinT ps).length:=by
 by_cases h:ps=[]
 ·subst h
  simp [Trm.txt,joinT]
 ·rw [txt_node nm ps h]
  have:nm.data.toList.length=nm.size:=by simp
  simp only [List.length_append,List.length_cons,List.length_nil]
  omega
theorem parts_pos (s:ByteArray) (f:Sc->Trm × Sc) (n:Nat) (hf:∀ y,PosOK s n y (f y).2 (f y).1.txt.length):∀ (m:Nat) (x:Sc),PosOK s n x (partsR s f m x).2 (joinT (partsR s f m x).1).length:=by
 intro m
 induction m with
 | zero=>intro x; exact ⟨Nat.le_refl _,by show x.pos<=_; omega,by show 0+2 * x.pos<=2 * x.pos; omega⟩
 | succ m ih =>
  intro x
  obtain ⟨a1,a2,a3⟩:=hf x
  have hb:=blanksR_pos s (f x).2
  unfold partsR
  split
  ·rename_i hc
   have hp:=(isR_pos hc).1
   obtain ⟨b1,b2,b3⟩:=ih (blanksR s (f x).2).next
   have hn:(blanksR s (f x).2).next.pos=(blanksR s (f x).2).pos+1:=rfl
   rw [hn] at b1 b2 b3
   refine ⟨by show x.pos<=(partsR s f m (blanksR s (f x).2).next).2.pos; omega,by show (partsR s f m (blanksR s (f x).2).next).2.pos<=_; omega,?_⟩
   have hj:=joinR_len (partsR s f m (blanksR s (f x).2).next).1
   simp only [joinT,List.length_append]
   omega
  ·refine ⟨by show x.pos<=(blanksR s (f x).2).pos; omega,by show (blanksR s (f x).2).pos<=_; omega,?_⟩
   rw [joinT_one]
   show _<=2 * (blanksR s (f x).2).pos
   omega
theorem closeR_pos (s:ByteArray) (a:Nat) (r:List Trm × Sc):(closeR s a r).pos=(blanksR s r.2).pos+1:=by
 unfold closeR
 simp only
 split <;> (try rw [farR_pos]) <;> split <;> simp [Sc.next,noR_pos]
theorem term_pos (s:ByteArray):∀ (n d:Nat) (x:Sc),PosOK s n x (termR s n d x).2 (termR s n d x).1.txt.length:=by
  intro n
  induction n with
  | zero=>intro d x; exact ⟨Nat.le_refl _,by show x.pos<=_; omega,by show (Trm.node noName []).txt.length+_<=_; simp [Trm.txt,noName,termR]⟩
  | succ n ih =>
   intro d x
   have h0:=headR_pos s d x
   unfold termR
   split
   ·rename_i hc
    have hp:=(isR_pos hc).1
    have hq:=blanksR_pos s (headR s d x).2
    obtain ⟨b1,b2,b3⟩:=parts_pos s (termR s n (d+1)) n (fun y=>ih (d+1) y) (s.size+1) (blanksR s (headR s d x).2).next
    have hn:(blanksR s (headR s d x).2).next.pos=(blanksR s (headR s d x).2).pos+1:=rfl
    rw [hn] at b1 b2 b3
    have h2:=blanksR_pos s (partsR s (termR s n (d+1)) (s.size+1) (blanksR s (headR s d x).2).next).2
    have h3:=txt_len (headR s d x).1 (partsR s (termR s n (d+1)) (s.size+1) (blanksR s (headR s d x).2).next).1
    refine ⟨?_,?_,?_⟩ <;> simp only [closeR_pos] <;> omega
   ·have hq:=blanksR_pos s (headR s d x).2
    have:(headR s d x).1.data.toList.length=(headR s d x).1.size:=by simp
    refine ⟨?_,?_,?_⟩
    ·show _<=(blanksR s (headR s d x).2).pos; omega
    ·show (blanksR s (headR s d x).2).pos<=_; omega
    ·simp only [Trm.txt,List.append_nil]; omega
end Go.Proofs.YtmfkpllnmmfpiaaGreatDoor
