/- LawTell, LawStep, ScriptRow, AllLabel, AllHeap, AllMark, RowCmp -/
import Derived.Test.YtmfkpllnmmfpiaaGreatDoorLawSinceA
import Derived.Test.YtmfkpllnmmfpiaaGreatDoorRefScanA
import Derived.ChangeOld
import Derived.Below
import Derived.ChangeArms
import Derived.Deep.Slices
import Derived.Test.YtmfkpllnmmfpiaaGreatDoorWebHeapA
import Derived.Test.YtmfkpllnmmfpiaaGreatDoorJoinLaw2A
import Derived.Laws.BytesArg
import Derived.Test.YtmfkpllnmmfpiaaGreatDoorPlacesA
import Derived.Laws.IdiomCopy
import Derived.Test.YtmfkpllnmmfpiaaGreatDoorSaidA
import Derived.Test.YtmfkpllnmmfpiaaGreatDoorGrowA
import Derived.Deep.DeepMust
import Derived.Deep.AppendLies
import Derived.Deep.RegionHeld3
set_option maxHeartbeats 16000000
set_option maxRecDepth 100000
namespace Go.Proofs.YtmfkpllnmmfpiaaGreatDoor
open Go.RowKit Go.ChangeShapes Go.WideShapes Go.ChangeAt Go.Shelf Go.Sort
theorem Both.clash {S:WS} {L:List ST} (h:Both S L):clashM S=clashR L:=by
 rw [Bool.eq_iff_iff,h.holds.clash_iff,clashR_iff h.ok]
theorem clashL_any (w:World) (xb:Nat) (Z:Nat->Prop) (S:WS) (L:List ST) (M:List Nat) (h:BothAt w xb Z S L M) :
  Calls Tryz.prog 51 #[.pointer (some ⟨xb,0,none⟩)] w fun e w'=>e=.returned (.bool true)/\Upd [] w w':=by
 obtain ⟨bb,rb,Zb,Zr,c0,c1,hb,hr,z1,z2⟩:=h.ex
 obtain ⟨sv,cs,d0,hrow⟩:=hr.said
 have HS:=hide (clash_any w bb Zb S hb)
 have HR:=hide (fun (w1:World) (U:Upd [] w w1)=>refClash_any w1 L sv cs ((hrow.later U (fun _ _=>by simp)).mono fun k _ hl=>hl) h.both.ok (fun s hs=>by have:=h.both.small s hs; omega) (by have:=h.both.length; have:=h.both.saids; omega))
 have hxlt:=h.lt
 have hrlt:=hr.lt
 rw [h.both.clash] at HS
 clear h hb hr z1 z2 hrow
 generalize clashR L=b at *
 go_enter Tryz.func51,Tryz.ntmps51
 go_wp2_with (first
  | (go_at_call 16; refine HS.out.mono ?_; rintro e w1 ⟨rfl,hu1⟩; have k1:=(hu1.cell (p:=⟨xb,1,none⟩) hxlt (by simp)).trans c1; have k2:=(hu1.cell (p:=⟨rb,0,none⟩) hrlt (by simp)).trans d0; have HR1:=hide (HR.out w1 hu1); have HU1:=hide hu1; clear hu1)
  | (go_at_call 92; refine HR1.out.mono ?_; rintro e w2 ⟨rfl,hu2⟩; have HU2:=hide hu2; clear hu2))
 go_ret
 exact ⟨by simp,HU1.out.trans HU2.out⟩
theorem rows_form {w:World} {B n:Nat} {v:Value} {rs:List Value} (h:w.ownsRow B 50 1 v n rs) (hl:rs.length=n):∃ a cap,v=.slice a n cap/\n<=cap/\cap<=maxLen/\(0 < n->∃ g,a=some ⟨g,0,none⟩/\g < w.heap.size/\∀ (i:Nat) (r:Value),rs[i]?=some r->w.cell? ⟨g,i,none⟩=some r):=by
 rcases ownsRow_slice h with ⟨h1,h2⟩ | ⟨g,cap,h1,h2,h3⟩
 ·rw [h2]
  exact ⟨none,0,h1,Nat.le_refl _,by simp [maxLen],fun h=>absurd h (Nat.lt_irrefl _)⟩
 ·subst h1
  refine ⟨_,cap,rfl,h2,h3,fun _=>⟨g,rfl,ownsRow_lt h rfl,fun i r hr=>?_⟩⟩
  have hi:=(List.getElem?_eq_some_iff.1 hr).1
  have:=h.cellAt i (by omega)
  rw [this,hr]
theorem classesL_any (w:World) (xb:Nat) (Z:Nat->Prop) (S:WS) (L:List ST) (M:List Nat) (h:BothAt w xb Z S L M) :
  Calls Tryz.prog 32 #[.pointer (some ⟨xb,0,none⟩)] w fun e w'=>∃ v rs,e=.returned (.tuple #[v,.bool true])/\Upd [] w w'/\ListsAt w' w.heap.size v rs (classesOf S):=by
 obtain ⟨bb,rb,Zb,Zr,c0,c1,hb,hr,z1,z2⟩:=h.ex
 have HS:=hide (bookClasses_any w bb Zb S hb h.both.text)
 have HR:=hide (fun (w1:World) (U:Upd [] w w1)=>refClasses_any w1 rb Zr L M (hr.later U (fun _ _=>by simp)) h.both.ok h.both.small (by have:=h.both.length; have:=h.both.saids; omega))
 have hxlt:=h.lt
 rw [<- h.both.classes] at HR
 have hlen:(classesOf S).length<=1000:=by
  rw [h.both.classes]
  unfold classesR
  rw [List.length_map]
  have h1:=firstsTo_len (textAt (termsR L)) (clsAt (drawnR L)) (termsR L).length (termsR L).length
  have h2:=h.both.holds.count h.both.ok
  have h3:=h.both.terms
  omega
 clear h hb hr z1 z2
 obtain ⟨ls,hls⟩:∃ ls,classesOf S=ls:=⟨_,rfl⟩
 rw [hls] at HS HR hlen ⊢
 clear hls
 obtain ⟨n,hn⟩:∃ n,ls.length=n:=⟨_,rfl⟩
 rw [hn] at hlen
 have Hn:=hide hn
 clear hn
 go_enter Tryz.func32,Tryz.ntmps32
 go_upto_region 3 with (first
  | (go_at_call 20; refine HS.out.mono ?_; rintro e w1 ⟨v1,rs1,rfl,hu1,hl1⟩; have k1:=(hu1.cell (p:=⟨xb,1,none⟩) hxlt (by simp)).trans c1; have HR1:=hide (HR.out w1 hu1); have HU1:=hide hu1; have HL1:=hide hl1; clear hu1 hl1)
  | (go_at_call 65; refine HR1.out.mono ?_; rintro e w2 ⟨v2,rs2,rfl,hu2,hl2⟩; have HU2:=hide hu2; have HL2:=hide hl2; clear hu2 hl2))
 have hr1:=HU2.out.ownsRow HL1.out.row (fun _ _=>by simp)
 have hr2:=HL2.out.row
 rw [Hn.out] at hr1 hr2
 obtain ⟨a1,cap1,hv1,p11,p12,f1⟩:=rows_form hr1 (by rw [HL1.out.len,Hn.out])
 obtain ⟨a2,cap2,hv2,p21,p22,f2⟩:=rows_form hr2 (by rw [HL2.out.len,Hn.out])
 subst hv1 hv2
 have F1:=hide f1
 have F2:=hide f2
 unfold maxLen at p12 p22
 clear hr1 hr2 f1 f2 k1 c0 c1 HR1 HR HS
 go_wp2
 go_loopw [6] (fun i wr=>∃ j m:Nat,j<=n/\i=.int .i64 j/\wr=w2.drewN m) (fun i _=>n - (intOf i).toNat)
 case atStart=>exact ⟨0,0,Nat.zero_le _,rfl,rfl⟩
 case round =>
  obtain ⟨j,m,hj,rfl,rfl⟩:=hrel
  by_cases hjn:j < n
  ·have hjI:(j:Int) < (n:Int):=by omega
   obtain ⟨r1,hr1⟩:∃ r,rs1[j]?=some r:=⟨_,List.getElem?_eq_getElem (by rw [HL1.out.len,Hn.out]; exact hjn)⟩
   obtain ⟨r2,hr2⟩:∃ r,rs2[j]?=some r:=⟨_,List.getElem?_eq_getElem (by rw [HL2.out.len,Hn.out]; exact hjn)⟩
   obtain ⟨l,hl⟩:∃ l,ls[j]?=some l:=⟨_,List.getElem?_eq_getElem (by rw [Hn.out]; exact hjn)⟩
   obtain ⟨g1,rfl,_,q1⟩:=F1.out (by omega)
   obtain ⟨g2,rfl,_,q2⟩:=F2.out (by omega)
   have z1:=q1 j r1 hr1
   have z2:=q2 j r2 hr2
   have HT:Hid (∀ p q:Nat,Calls Tryz.prog 66 #[r1,r2] (w2.drewN (p+q)) fun e w'=>e=.returned (.bool true)/\∃ n,w'=w2.drewN (p+n)):=fun p q=>by
    have s1:StrRow (w2.drewN (p+q)) w.heap.size r1 l:=((HL1.out.all j r1 l hr1 hl).later HU2.out).later ((Upd.refl [] w2).drewN (p+q))
    have s2:StrRow (w2.drewN (p+q)) w1.heap.size r2 l:=(HL2.out.all j r2 l hr2 hl).later ((Upd.refl [] w2).drewN (p+q))
    have:=sameTexts_any _ _ _ r1 r2 l l s1 s2
    rw [decide_eq_true rfl] at this
    exact this.mono fun e w' ⟨he,n,hw⟩=>⟨he,q+n,by rw [hw]; simp [Nat.add_assoc]⟩
   clear q1 q2 hr1 hr2 hl
   go_wp2_with fail
   go_quiet ((go_at_call 66; exact HT.out _ _))
   go_wp2
   refine ⟨⟨j+1,_,by omega,by simp,rfl⟩,?_⟩
   simp [intOf]
   omega
  ·have hjI:¬ (j:Int) < (n:Int):=by omega
   go_wp2
   go_ret2
   exact ⟨_,rfl,(HU1.out.trans HU2.out).drewN m,rs1,(HL1.out.later HU2.out (fun _ h=>by cases h)).later ((Upd.refl [] w2).drewN m) (fun _ h=>by cases h)⟩
structure ScriptIs (w:World) (ao:Option Addr) (sc:List (Int × Int × ByteArray)):Prop where
 cells:0 < sc.length->∃ b off,ao=some ⟨b,off,none⟩/\b < w.heap.size/\∀ (i:Nat) (o:Int × Int × ByteArray),sc[i]?=some o->w.cell? ⟨b,off+i * 3,none⟩=some (.int .i64 o.1)/\w.cell? ⟨b,off+i * 3+1,none⟩=some (.int .i64 o.2.1)/\w.cell? ⟨b,off+i * 3+2,none⟩=some (.string o.2.2)
 texts:∀ o ∈ sc,o.2.2.size<=maxLen

def digB (x:Nat):ByteArray:=⟨#[UInt8.ofNat (48+x)]⟩
def labF:Nat->Nat->ByteArray->ByteArray
 | 0,_,s=>s
 | f+1,n,s=>if n=0 then s else labF f (n / 10) (s++digB (n % 10))
def labelT (n:Nat):ByteArray:=labF 20 n ⟨#[35]⟩
theorem labF_zero:∀ (f:Nat) (s:ByteArray),labF f 0 s=s
 | 0,_=>rfl
 | _+1,_=>rfl
theorem digit_text (x:Nat) (w:World) (hx:(x:Int) < 10):(convert 186 9 (.slice (some ⟨w.heap.size,0,none⟩) 1 1)).run Tryz.prog (w.alloc (.cells #[.int .u8 (48+(x:Int))] 5))=.ok (.string (digB x)) (w.alloc (.cells #[.int .u8 (48+(x:Int))] 5)):=by
 rw [run_convert_bytes_arg _ 186 5 Tryz.underlying186 Tryz.underlying5 w.heap.size 0 1 1 [48+(x:Int)] rfl (fun i hi=>by rw [show i=0 by omega]; go_simp) 9 Tryz.underlying9]
 have e:(48+(x:Int)).toNat=48+x:=by omega
 unfold strOfNums digB
 simp [e]
theorem label_any (n:Nat) (w:World) (hn:n<=1000000000000) :
  Calls Tryz.prog 77 #[.int .i64 n] w fun e w'=>e=.returned (.string (labelT n))/\Upd [] w w':=by
 go_enter Tryz.func77,Tryz.ntmps77
 go_wp2
 go_loopw [0,3] (fun nv sv wr=>∃ (m f:Nat) (s:ByteArray),m<=1000000000000/\nv=.int .i64 m/\sv=.string s/\s.size+f<=21/\Hid (m < 10 ^ f/\labF f m s=labelT n)/\Hid (Upd [] w wr)) (fun nv _ _=>(intOf nv).toNat)
 case atStart=>exact ⟨n,20,⟨#[35]⟩,hn,rfl,rfl,by decide,⟨by omega,rfl⟩,Upd.refl _ _⟩
 case round =>
  obtain ⟨m,f,s,hm,rfl,rfl,hsf,HF,HU⟩:=hrel
  by_cases h0:0 < m
  ·have h0I:(0:Int) < (m:Int):=by omega
   obtain ⟨x,hx⟩:∃ x,m % 10=x:=⟨_,rfl⟩
   have hx10:(x:Int) < 10:=by omega
   have hd:=digit_text x wr hx10
   obtain ⟨f',rfl⟩:∃ f',f=f'+1:=by
    cases f with
    | zero=>have:=HF.out.1; simp at this; omega
    | succ f'=>exact ⟨f',rfl⟩
   have HN:Hid (m / 10 < 10 ^ f'/\labF f' (m / 10) (s++digB x)=labelT n):=by
    obtain ⟨h1,h2⟩:=HF.out
    refine ⟨?_,?_⟩
    ·rw [Nat.pow_succ] at h1
     omega
    ·rw [<- h2,labF,if_neg (by omega),hx]
   have hr:((m:Int) % 10)=(x:Int):=by omega
   have hsz:(digB x).size=1:=rfl
   have hA1:∀ w,(Op.stringOp .add s (digB x)).run Tryz.prog w=.ok (.string (s++digB x)) w:=fun w=>run_string_add_sum w _ _ (by omega)
   clear hx HF hsz
   go_wp2
   refine ⟨⟨m / 10,f',s++digB x,by omega,by rw [Int.natCast_ediv]; rfl,rfl,?_,HN.out,HU.out.alloc _⟩,?_⟩
   ·rw [ByteArray.size_append]
    show s.size+1+f'<=21
    omega
   ·simp only [intOf]
    omega
  ·obtain rfl:m=0:=by omega
   have h0I:¬ (0:Int) < ((0:Nat):Int):=by omega
   have HE:Hid (labelT n=s):=by show _=_; rw [<- HF.out.2,labF_zero]
   clear HF
   go_wp2
   go_ret
   exact ⟨by rw [HE.out]; rfl,HU.out⟩
def tyW:Nat->TypeId
 | 0=>42
 | 1=>50
 | 2=>33
 | 3=>44
 | _=>46
structure Wrl (w:World) (wb:Nat) (V:Nat->Value) (E:Nat->List Value):Prop where
 lt:wb < w.heap.size
 free:∀ o,w.frozen? ⟨wb,o,none⟩=false
 cell:∀ f,f < 5->w.cell? ⟨wb,f,none⟩=some (V f)
 row:∀ f,f < 5->w.ownsRow 0 (tyW f) 1 (V f) (E f).length (E f)
 apart:∀ f f' k,f < 5->f' < 5->f ≠ f'->(V f).ownBlock=some k->(V f').ownBlock ≠ some k
 out:∀ f,f < 5->(V f).ownBlock ≠ some wb
def WrlB (wb:Nat) (V:Nat->Value) (k:Nat):Prop:=k=wb\/∃ f,f < 5/\(V f).ownBlock=some k
theorem Wrl.low {w:World} {wb:Nat} {V:Nat->Value} {E:Nat->List Value} (h:Wrl w wb V E) {k:Nat} (hk:WrlB wb V k):k < w.heap.size:=by
 rcases hk with rfl | ⟨f,hf,hk⟩
 ·exact h.lt
 ·exact ownsRow_lt (h.row f hf) hk
theorem Wrl.later {w w':World} {L:List Nat} {wb:Nat} {V:Nat->Value} {E:Nat->List Value} (h:Wrl w wb V E) (hu:Upd L w w') (hL:∀ k,WrlB wb V k->k ∉ L):Wrl w' wb V E :=
 ⟨Nat.lt_of_lt_of_le h.lt hu.size,fun o=>(hu.frozen (p:=⟨wb,o,none⟩) h.lt (hL _ (.inl rfl))).trans (h.free o),fun f hf=>(hu.cell (p:=⟨wb,f,none⟩) h.lt (hL _ (.inl rfl))).trans (h.cell f hf),fun f hf=>hu.ownsRow (h.row f hf) (fun k hk=>hL k (.inr ⟨f,hf,hk⟩)),h.apart,h.out⟩
def setW {α:Type} (F:Nat->α) (f:Nat) (x:α):Nat->α:=fun i=>if i=f then x else F i
theorem setW_same {α:Type} (F:Nat->α) (f:Nat) (x:α):setW F f x f=x:=by simp [setW]
theorem setW_other {α:Type} {F:Nat->α} {f i:Nat} {x:α} (h:i ≠ f):setW F f x i=F i:=by simp [setW,h]
def Moved (w:World) (v v':Value):Prop:=v'.ownBlock=v.ownBlock\/∃ k,v'.ownBlock=some k/\w.heap.size<=k
theorem Wrl.push {w w3:World} {wb f:Nat} {V:Nat->Value} {E:Nat->List Value} {v' x:Value} (h:Wrl w wb V E) (hf:f < 5) (hg:w.grownBy w3 (V f).ownBlock) (hown:w3.ownsRow 0 (tyW f) 1 v' ((E f).length+1) (E f++[x])) (hat:Moved w (V f) v') :
  Wrl (w3.setCell ⟨wb,f,none⟩ v') wb (setW V f v') (setW E f (E f++[x]))/\Upd (wb :: (V f).ownBlock.toList) w (w3.setCell ⟨wb,f,none⟩ v'):=by
 have U3:Upd (V f).ownBlock.toList w w3:=Upd.of_grown hg
 have hs:=hg.size
 have hlt:=h.lt
 have hwb:wb ∉ (V f).ownBlock.toList:=fun hm=>h.out f hf (by simpa using hm)
 have hv'b:∀ k,v'.ownBlock=some k->k ≠ wb:=fun k hk e=>by
  subst e
  rcases hat with e | ⟨k',e,hk'⟩
  ·rw [e] at hk; exact h.out f hf hk
  ·rw [e] at hk; cases hk; omega
 have Us:Upd [wb] w3 (w3.setCell ⟨wb,f,none⟩ v'):=(Upd.refl [wb] w3).setCell (by simp) v'
 have hfr:∀ o,w3.frozen? ⟨wb,o,none⟩=false:=fun o=>(U3.frozen (p:=⟨wb,o,none⟩) hlt hwb).trans (h.free o)
 have hc3:∀ i,i < 5->w3.cell? ⟨wb,i,none⟩=some (V i):=fun i hi=>(U3.cell (p:=⟨wb,i,none⟩) hlt hwb).trans (h.cell i hi)
 have hbl:∀ i,i < 5->∀ k,(setW V f v' i).ownBlock=some k->(i ≠ f/\(V i).ownBlock=some k)\/(i=f/\v'.ownBlock=some k):=fun i hi k hk=>by
  by_cases e:i=f
  ·subst e
   rw [setW_same] at hk
   exact .inr ⟨rfl,hk⟩
  ·rw [setW_other e] at hk
   exact .inl ⟨e,hk⟩
 refine ⟨⟨Nat.lt_of_lt_of_le hlt (Nat.le_trans hs Us.size),fun o=>by rw [World.frozen?_setCell]; exact hfr o,fun i hi=>?_,fun i hi=>?_,fun i i' k hi hi' hne hk hk'=>?_,fun i hi hk=>?_⟩,(U3.mono (fun x hx _=>List.mem_cons_of_mem _ hx)).trans' Us (fun x hx _=>by simp at hx; subst hx; exact List.mem_cons_self ..)⟩
 ·by_cases e:i=f
  ·subst e
   rw [setW_same]
   exact World.cell?_setCell_same _ _ _ (by rw [hc3 i hi])
  ·rw [setW_other e,World.cell?_setCell_other _ _ _ _ (fun h=>e (by cases h; rfl))]
   exact hc3 i hi
 ·by_cases e:i=f
  ·subst e
   rw [setW_same,setW_same,List.length_append]
   exact Us.ownsRow hown (fun k hk hm=>hv'b k hk (by simpa using hm))
  ·rw [setW_other e,setW_other e]
   refine Us.ownsRow (U3.ownsRow (h.row i hi) (fun k hk hm=>h.apart i f k hi hf e hk (by simpa using hm))) (fun k hk hm=>?_)
   simp at hm
   subst hm
   exact h.out i hi hk
 ·rcases hbl i hi k hk with ⟨e1,h1⟩ | ⟨e1,h1⟩ <;> rcases hbl i' hi' k hk' with ⟨e2,h2⟩ | ⟨e2,h2⟩
  ·exact h.apart i i' k hi hi' hne h1 h2
  ·rcases hat with e | ⟨k',e,hk2⟩
   ·rw [e] at h2; exact h.apart i f k hi hf e1 h1 h2
   ·rw [e] at h2; cases h2; have:=ownsRow_lt (h.row i hi) h1; omega
  ·rcases hat with e | ⟨k',e,hk2⟩
   ·rw [e] at h1; exact h.apart i' f k hi' hf e2 h2 h1
   ·rw [e] at h1; cases h1; have:=ownsRow_lt (h.row i' hi') h2; omega
  ·exact hne (e1.trans e2.symm)
 ·rcases hbl i hi wb hk with ⟨_,h1⟩ | ⟨_,h1⟩
  ·exact h.out i hi h1
  ·exact hv'b wb h1 rfl
theorem setCells_snoc (g:Nat) (x:Value):∀ (vs:List Value) (o:Nat) (w:World),w.setCells g o (vs++[x])=(w.setCells g o vs).setCell ⟨g,o+vs.length,none⟩ x
 | [],o,w=>rfl
 | v :: vs,o,w=>by
  show (w.setCell ⟨g,o,none⟩ v).setCells g (o+1) (vs++[x])=_
  rw [setCells_snoc g x vs (o+1)]
  show _=((w.setCell ⟨g,o,none⟩ v).setCells g (o+1) vs).setCell ⟨g,o+(vs.length+1),none⟩ x
  rw [show o+1+vs.length=o+(vs.length+1) by omega]
theorem setCells_block (g:Nat):∀ (vs:List Value) (o:Nat) (w:World),Upd [g] w (w.setCells g o vs)/\(w.setCells g o vs).heap.size=w.heap.size
 | [],_,w=>⟨Upd.refl _ w,rfl⟩
 | v :: vs,o,w=>by
  obtain ⟨h1,h2⟩:=setCells_block g vs (o+1) (w.setCell ⟨g,o,none⟩ v)
  exact ⟨((Upd.refl [g] w).setCell (p:=⟨g,o,none⟩) (by simp) v).trans h1,h2.trans (by simp)⟩
def paint (w:World) (g o n:Nat) (x:Value):World:=w.setCells g o (List.replicate n x)
theorem paint_succ (w:World) (g o n:Nat) (x:Value):paint w g o (n+1) x=(paint w g o n x).setCell ⟨g,o+n,none⟩ x:=by
 unfold paint
 rw [List.replicate_succ',setCells_snoc,List.length_replicate]
theorem paint_upd (w:World) (g o n:Nat) (x:Value):Upd [g] w (paint w g o n x):=(setCells_block g _ o w).1
theorem paint_size (w:World) (g o n:Nat) (x:Value):(paint w g o n x).heap.size=w.heap.size:=(setCells_block g _ o w).2
theorem paint_frozen (w:World) (g o n:Nat) (x:Value) (p:Addr):(paint w g o n x).frozen? p=w.frozen? p:=World.frozen?_setCells g _ o w p
theorem paint_out {w:World} {g o n o':Nat} {x:Value} (h:o' < o\/o+n<=o'):(paint w g o n x).cell? ⟨g,o',none⟩=w.cell? ⟨g,o',none⟩ :=
 World.cell?_setCells_out g _ o w _ (fun _ _=>by rw [List.length_replicate]; exact h)
theorem paint_in {w:World} {g o n i:Nat} {x:Value} (hc:∀ j,j < n->(w.cell? ⟨g,o+j,none⟩).isSome=true) (hi:i < n):(paint w g o n x).cell? ⟨g,o+i,none⟩=some x:=by
 have:=World.cell?_setCells_in g (List.replicate n x) o w (fun j hj=>hc j (by simpa using hj)) i (by simpa using hi)
 rw [List.getElem_replicate] at this
 exact this
structure MayW (w:World) (wb:Nat) (V:Nat->Value) (s:Nat) (a:Option Addr) (n cap g o:Nat):Prop where
 le:n<=cap
 max:cap<=maxLen
 at_:0 < n->a=some ⟨g,o,none⟩
 lt:0 < n->g < w.heap.size
 out:0 < n->¬ WrlB wb V g
 cell:∀ i,i < n * s->(w.cell? ⟨g,o+i,none⟩).isSome=true/\w.frozen? ⟨g,o+i,none⟩=false
theorem info_intsW:(Tryz.prog.info? 44).map (fun i=>(i.zero,i.size,i.bytes))=some (some (.slice none 0 0),1,24):=by kernel_rfl
theorem Wrl.paint {w w1:World} {wb:Nat} {V:Nat->Value} {E:Nat->List Value} {a:Option Addr} {n cap g o s:Nat} {x:Value} (h:Wrl w wb V E) (hm:MayW w wb V s a n cap g o) (hu:Upd [] w w1) (m:Nat) (hn:0 < m->0 < n):Wrl (paint w1 g o m x) wb V E:=by
 have h1:=h.later hu (fun _ _=>by simp)
 by_cases h0:0 < m
 ·exact h1.later (paint_upd w1 g o m x) (fun k hk hm'=>by simp at hm'; subst hm'; exact hm.out (hn h0) hk)
 ·obtain rfl:m=0:=by omega
  exact h1
def Marked1 (w w':World) (wb f:Nat) (V:Nat->Value) (E:Nat->List Value) (v:Value) (g o n:Nat) (x:Value):Prop :=
 ∃ w1 v',Upd [] w w1/\Wrl w' wb (setW V f v') (setW E f (E f++[v]))/\Moved w (V f) v'/\Upd (wb :: (V f).ownBlock.toList) (paint w1 g o n x) w'
theorem mark_any (w:World) (wb:Nat) (V:Nat->Value) (E:Nat->List Value) (a:Option Addr) (n cap g o:Nat) (h:Wrl w wb V E) (hm:MayW w wb V 1 a n cap g o) (hE:(E 1).length<=100000000000) :
  Calls Tryz.prog 69 #[.pointer (some ⟨wb,0,none⟩),.slice a n cap] w fun e w'=>e=.returned (.tuple #[])/\Marked1 w w' wb 1 V E (.slice a n cap) g o n (.string (labelT (E 1).length)):=by
 obtain ⟨i0,hi,hz0,hz1,hz2⟩:=info_parts info_strs
 have hrow1:=h.row 1 (by omega)
 obtain ⟨k,hk⟩:∃ k,(E 1).length=k:=⟨_,rfl⟩
 rw [hk] at hrow1 hE
 obtain ⟨a1,cap1,hv1⟩:=slice_len hrow1
 have HLb:=hide (label_any k w (by omega))
 have c0:=h.cell 1 (by omega)
 rw [hv1] at c0
 rw [hk]
 have Hh:=hide h
 have Hm:=hide hm
 have hle:=hm.le
 have hmax:=hm.max
 unfold maxLen at hmax
 have Hk:=hide hk
 have Hv1:=hide hv1
 obtain ⟨x,hx⟩:∃ x,labelT k=x:=⟨_,rfl⟩
 rw [hx] at HLb ⊢
 have Hat:=hide hm.at_
 clear h hm hk hv1 hrow1 hx
 go_enter Tryz.func69,Tryz.ntmps69
 go_upto_region 1 with (go_at_call 77; refine HLb.out.mono ?_; rintro e w1 ⟨rfl,hu1⟩; have HU1:=hide hu1; clear hu1)
 clear HLb c0
 go_wp2_with fail
 go_loopw [5] (fun iv wr=>∃ j:Nat,j<=n/\iv=.int .i64 j/\Hid (wr=paint w1 g o j (.string x))) (fun iv _=>n - (intOf iv).toNat)
 case atStart=>exact ⟨0,Nat.zero_le _,rfl,rfl⟩
 case round =>
  obtain ⟨j,hj,rfl,HW⟩:=hrel
  by_cases hjn:j < n
  ·have hjI:(j:Int) < (n:Int):=by omega
   have hat:=Hat.out (by omega)
   subst hat
   obtain ⟨g1,g2⟩:=Hm.out.cell j (by omega)
   obtain ⟨u,hu⟩:=Option.isSome_iff_exists.1 g1
   have hglt:=Hm.out.lt (by omega)
   have z1:wr.cell? ⟨g,o+j,none⟩=some u:=by rw [HW.out,paint_out (.inr (Nat.le_refl _))]; exact (HU1.out.cell (p:=⟨g,o+j,none⟩) hglt (by simp)).trans hu
   have z2:wr.frozen? ⟨g,o+j,none⟩=false:=by rw [HW.out,paint_frozen]; exact (HU1.out.frozen (p:=⟨g,o+j,none⟩) hglt (by simp)).trans g2
   clear g1 g2 hu
   go_wp2
   exact ⟨⟨j+1,by omega,by go_num,by show _=_; rw [paint_succ,HW.out]⟩,by simp [intOf]; omega⟩
  ·have hjI:¬ (j:Int) < (n:Int):=by omega
   have hje:j=n:=by omega
   have hw:=Hh.out.paint Hm.out (x:=.string x) HU1.out n (fun h=>h)
   have hww:wr=paint w1 g o n (.string x):=by rw [HW.out,hje]
   rw [<- hww] at hw
   have c1:=hw.cell 1 (by omega)
   have fr:=hw.free
   rw [Hv1.out] at c1
   have hrw:=(hw.later ((Upd.refl [] wr).alloc (.cells #[.slice a n cap] 50)) (fun _ _=>by simp)).row 1 (by omega)
   rw [Hk.out,Hv1.out] at hrw
   have Hrw:Hid ((wr.alloc (.cells #[.slice a n cap] 50)).ownsRow 0 50 1 (.slice a1 k cap1) k (E 1)):=hrw
   have Hnews:Hid (∀ q u,[Value.slice a n cap][q]?=some u->(wr.alloc (.cells #[.slice a n cap] 50)).cell? ((⟨wr.heap.size,0,none⟩:Addr).add q)=some u):=World.news_of_block (heap_alloc_new _ _)
   have hone:Hid (∀ u ∈ [Value.slice a n cap],u.oneCell'=true):=(fun u hu'=>by simp at hu'; subst hu'; rfl)
   have hlm:k+1<=maxLen:=by unfold maxLen; omega
   have hlb:(k+1) * 24<=140737488355328:=by omega
   have HK:Hid (∀ w3,(wr.alloc (.cells #[.slice a n cap] 50)).grownBy w3 (Value.slice a1 k cap1).ownBlock->w3.cell? ⟨wb,1,none⟩=some (.slice a1 k cap1)/\∀ o,w3.frozen? ⟨wb,o,none⟩=false):=fun w3 hg=>by
    have U:=((Upd.refl (Value.slice a1 k cap1).ownBlock.toList wr).alloc (.cells #[.slice a n cap] 50)).trans (Upd.of_grown hg)
    have hn:wb ∉ (Value.slice a1 k cap1).ownBlock.toList:=fun hm=>hw.out 1 (by omega) (by rw [Hv1.out]; simpa using hm)
    exact ⟨(U.cell (p:=⟨wb,1,none⟩) hw.lt hn).trans c1,fun o=>(U.frozen (p:=⟨wb,o,none⟩) hw.lt hn).trans (fr o)⟩
   have HFin:Hid (∀ g3 cap3 w3,(wr.alloc (.cells #[.slice a n cap] 50)).grownBy w3 (Value.slice a1 k cap1).ownBlock->w3.ownsRow 0 50 1 (.slice (some ⟨g3,0,none⟩) (k+1) cap3) (k+1) (E 1++[.slice a n cap])->((Value.slice a1 k cap1).ownBlock=some g3\/g3=(wr.alloc (.cells #[.slice a n cap] 50)).heap.size)->Marked1 w (w3.setCell ⟨wb,1,none⟩ (.slice (some ⟨g3,0,none⟩) (k+1) cap3)) wb 1 V E (.slice a n cap) g o n (.string x)):=fun g3 cap3 w3 hg ho hat=>by
    have hwA:=hw.later ((Upd.refl [] wr).alloc (.cells #[.slice a n cap] 50)) (fun _ _=>by simp)
    rw [<- Hv1.out] at hg hat
    have hmv:Moved (wr.alloc (.cells #[.slice a n cap] 50)) (V 1) (.slice (some ⟨g3,0,none⟩) (k+1) cap3):=by
     rcases hat with e | e
     ·exact .inl e.symm
     ·exact .inr ⟨g3,rfl,by omega⟩
    obtain ⟨p1,p2⟩:=hwA.push (by omega) hg (by rw [Hk.out]; exact ho) hmv
    have hs1:=HU1.out.size
    have hsw:wr.heap.size=w1.heap.size:=by rw [hww,paint_size]
    refine ⟨w1,_,HU1.out,p1,?_,?_⟩
    ·rcases hat with e | e
     ·exact .inl e.symm
     ·exact .inr ⟨g3,rfl,by simp at e; omega⟩
    ·rw [<- hww]
     exact ((Upd.refl _ wr).alloc _).trans p2
   clear hrw hw hww hje HW
   go_wp2_with (at_builtin; go_must (refine wpList_append_lies _ rfl _ _ 33 rfl 0 50 i0 (.slice none 0 0) 1 24 Tryz.underlying33 hi hz0 hz1 hz2 rfl (by decide) _ _ _ rfl Hrw.out ⟨wr.heap.size,0,none⟩ 1 1 [.slice a n cap] rfl rfl Hnews.out hone.out (by decide) hlm hlb (by simp) _ rfl ?_); intro g3 cap3 w3 hown3 hgrow3 hat3 hlt3; obtain ⟨x1,x2⟩:=HK.out w3 hgrow3)
   go_end0
   exact ⟨rfl,HFin.out g3 cap3 w3 hgrow3 hown3 hat3⟩
theorem markInts_any (w:World) (wb:Nat) (V:Nat->Value) (E:Nat->List Value) (a:Option Addr) (n cap g o:Nat) (h:Wrl w wb V E) (hm:MayW w wb V 1 a n cap g o) (hE:(E 3).length<=100000000000) :
  Calls Tryz.prog 72 #[.pointer (some ⟨wb,0,none⟩),.slice a n cap] w fun e w'=>e=.returned (.tuple #[])/\Marked1 w w' wb 3 V E (.slice a n cap) g o n (.int .i64 (-1 - ((E 3).length:Int))):=by
 obtain ⟨i0,hi,hz0,hz1,hz2⟩:=info_parts info_intsW
 have hrow1:=h.row 3 (by omega)
 obtain ⟨k,hk⟩:∃ k,(E 3).length=k:=⟨_,rfl⟩
 rw [hk] at hrow1 hE
 obtain ⟨a1,cap1,hv1⟩:=slice_len hrow1
 have c0:=h.cell 3 (by omega)
 rw [hv1] at c0
 rw [hk]
 have Hh:=hide h
 have Hm:=hide hm
 have hle:=hm.le
 have hmax:=hm.max
 unfold maxLen at hmax
 have Hk:=hide hk
 have Hv1:=hide hv1
 have Hat:=hide hm.at_
 clear h hm hk hv1 hrow1
 go_enter Tryz.func72,Tryz.ntmps72
 have HU1:Hid (Upd [] w w):=Upd.refl _ _
 clear c0
 go_wp2_with fail
 go_loopw [4] (fun iv wr=>∃ j:Nat,j<=n/\iv=.int .i64 j/\Hid (wr=paint w g o j (.int .i64 (-1 - (k:Int))))) (fun iv _=>n - (intOf iv).toNat)
 case atStart=>exact ⟨0,Nat.zero_le _,rfl,rfl⟩
 case round =>
  obtain ⟨j,hj,rfl,HW⟩:=hrel
  by_cases hjn:j < n
  ·have hjI:(j:Int) < (n:Int):=by omega
   have hat:=Hat.out (by omega)
   subst hat
   obtain ⟨g1,g2⟩:=Hm.out.cell j (by omega)
   obtain ⟨u,hu⟩:=Option.isSome_iff_exists.1 g1
   have hglt:=Hm.out.lt (by omega)
   have z1:wr.cell? ⟨g,o+j,none⟩=some u:=by rw [HW.out,paint_out (.inr (Nat.le_refl _))]; exact (HU1.out.cell (p:=⟨g,o+j,none⟩) hglt (by simp)).trans hu
   have z2:wr.frozen? ⟨g,o+j,none⟩=false:=by rw [HW.out,paint_frozen]; exact (HU1.out.frozen (p:=⟨g,o+j,none⟩) hglt (by simp)).trans g2
   have hwj:=Hh.out.paint Hm.out (x:=.int .i64 (-1 - (k:Int))) HU1.out j (fun _=>by omega)
   have c1:=hwj.cell 3 (by omega)
   rw [<- HW.out,Hv1.out] at c1
   clear g1 g2 hu hwj
   go_wp2
   exact ⟨⟨j+1,by omega,by go_num,by show _=_; rw [paint_succ,HW.out]⟩,by simp [intOf]; omega⟩
  ·have hjI:¬ (j:Int) < (n:Int):=by omega
   have hje:j=n:=by omega
   have hw:=Hh.out.paint Hm.out (x:=.int .i64 (-1 - (k:Int))) HU1.out n (fun h=>h)
   have hww:wr=paint w g o n (.int .i64 (-1 - (k:Int))):=by rw [HW.out,hje]
   rw [<- hww] at hw
   have c1:=hw.cell 3 (by omega)
   have fr:=hw.free
   rw [Hv1.out] at c1
   have hrw:=(hw.later ((Upd.refl [] wr).alloc (.cells #[.slice a n cap] 44)) (fun _ _=>by simp)).row 3 (by omega)
   rw [Hk.out,Hv1.out] at hrw
   have Hrw:Hid ((wr.alloc (.cells #[.slice a n cap] 44)).ownsRow 0 44 1 (.slice a1 k cap1) k (E 3)):=hrw
   have Hnews:Hid (∀ q u,[Value.slice a n cap][q]?=some u->(wr.alloc (.cells #[.slice a n cap] 44)).cell? ((⟨wr.heap.size,0,none⟩:Addr).add q)=some u):=World.news_of_block (heap_alloc_new _ _)
   have hone:Hid (∀ u ∈ [Value.slice a n cap],u.oneCell'=true):=(fun u hu'=>by simp at hu'; subst hu'; rfl)
   have hlm:k+1<=maxLen:=by unfold maxLen; omega
   have hlb:(k+1) * 24<=140737488355328:=by omega
   have HK:Hid (∀ w3,(wr.alloc (.cells #[.slice a n cap] 44)).grownBy w3 (Value.slice a1 k cap1).ownBlock->w3.cell? ⟨wb,3,none⟩=some (.slice a1 k cap1)/\∀ o,w3.frozen? ⟨wb,o,none⟩=false):=fun w3 hg=>by
    have U:=((Upd.refl (Value.slice a1 k cap1).ownBlock.toList wr).alloc (.cells #[.slice a n cap] 44)).trans (Upd.of_grown hg)
    have hn:wb ∉ (Value.slice a1 k cap1).ownBlock.toList:=fun hm=>hw.out 3 (by omega) (by rw [Hv1.out]; simpa using hm)
    exact ⟨(U.cell (p:=⟨wb,3,none⟩) hw.lt hn).trans c1,fun o=>(U.frozen (p:=⟨wb,o,none⟩) hw.lt hn).trans (fr o)⟩
   have HFin:Hid (∀ g3 cap3 w3,(wr.alloc (.cells #[.slice a n cap] 44)).grownBy w3 (Value.slice a1 k cap1).ownBlock->w3.ownsRow 0 44 1 (.slice (some ⟨g3,0,none⟩) (k+1) cap3) (k+1) (E 3++[.slice a n cap])->((Value.slice a1 k cap1).ownBlock=some g3\/g3=(wr.alloc (.cells #[.slice a n cap] 44)).heap.size)->Marked1 w (w3.setCell ⟨wb,3,none⟩ (.slice (some ⟨g3,0,none⟩) (k+1) cap3)) wb 3 V E (.slice a n cap) g o n (.int .i64 (-1 - (k:Int)))):=fun g3 cap3 w3 hg ho hat=>by
    have hwA:=hw.later ((Upd.refl [] wr).alloc (.cells #[.slice a n cap] 44)) (fun _ _=>by simp)
    rw [<- Hv1.out] at hg hat
    have hmv:Moved (wr.alloc (.cells #[.slice a n cap] 44)) (V 3) (.slice (some ⟨g3,0,none⟩) (k+1) cap3):=by
     rcases hat with e | e
     ·exact .inl e.symm
     ·exact .inr ⟨g3,rfl,by omega⟩
    obtain ⟨p1,p2⟩:=hwA.push (by omega) hg (by rw [Hk.out]; exact ho) hmv
    have hsw:wr.heap.size=w.heap.size:=by rw [hww,paint_size]
    refine ⟨w,_,HU1.out,p1,?_,?_⟩
    ·rcases hat with e | e
     ·exact .inl e.symm
     ·exact .inr ⟨g3,rfl,by simp at e; omega⟩
    ·rw [<- hww]
     exact ((Upd.refl _ wr).alloc _).trans p2
   clear hrw hw hww hje HW
   go_wp2_with (at_builtin; go_must (refine wpList_append_lies _ rfl _ _ 35 rfl 0 44 i0 (.slice none 0 0) 1 24 Tryz.underlying35 hi hz0 hz1 hz2 rfl (by decide) _ _ _ rfl Hrw.out ⟨wr.heap.size,0,none⟩ 1 1 [.slice a n cap] rfl rfl Hnews.out hone.out (by decide) hlm hlb (by simp) _ rfl ?_); intro g3 cap3 w3 hown3 hgrow3 hat3 hlt3; obtain ⟨x1,x2⟩:=HK.out w3 hgrow3)
   go_end0
   exact ⟨rfl,HFin.out g3 cap3 w3 hgrow3 hown3 hat3⟩
structure RowP where
 name:ByteArray
 args:List Nat
 value:Nat
instance:Inhabited RowP:=⟨⟨⟨#[]⟩,[],0⟩⟩
def cmpI (a b:Nat):Int:=if a < b then -1 else if b < a then 1 else 0
def cmpArgs:List Nat->List Nat->Int
 | [],[]=>0
 | [],_ :: _=>-1
 | _ :: _,[]=>1
 | a :: l,b :: m=>if cmpI a b ≠ 0 then cmpI a b else cmpArgs l m
def firstNZ:List Int->Int
 | []=>0
 | a :: l=>if a ≠ 0 then a else firstNZ l
def cmpRow (x y:RowP):Int:=firstNZ [Lib.compareBytes x.name.data.toList y.name.data.toList,cmpI x.args.length y.args.length,cmpArgs x.args y.args]
theorem cmpI_zero {a b:Nat}:cmpI a b=0 ↔ a=b:=by
 unfold cmpI
 split
 ·simp; omega
 ·split
  ·simp; omega
  ·simp; omega
theorem cmpArgs_step {l m:List Nat} {j a b:Nat} (h1:l[j]?=some a) (h2:m[j]?=some b):cmpArgs (l.drop j) (m.drop j)=if cmpI a b ≠ 0 then cmpI a b else cmpArgs (l.drop (j+1)) (m.drop (j+1)):=by
 have e1:=(List.getElem?_eq_some_iff.1 h1)
 have e2:=(List.getElem?_eq_some_iff.1 h2)
 obtain ⟨p1,q1⟩:=e1
 obtain ⟨p2,q2⟩:=e2
 rw [List.drop_eq_getElem_cons p1,List.drop_eq_getElem_cons p2,q1,q2]
 rfl
def IntsAt (w:World) (v:Value) (l:List Nat):Prop:=∃ a cap,v=.slice a l.length cap/\l.length<=cap/\cap<=maxLen/\(0 < l.length->∃ g,a=some ⟨g,0,none⟩/\g < w.heap.size/\∀ (i t:Nat),l[i]?=some t->w.cell? ⟨g,i,none⟩=some (.int .i64 t))
theorem IntsAt.later {w w':World} {v:Value} {l:List Nat} {K:List Nat} (h:IntsAt w v l) (hu:Upd K w w') (hK:∀ k,v.ownBlock=some k->k ∉ K):IntsAt w' v l:=by
 obtain ⟨a,cap,hv,h1,h2,h3⟩:=h
 refine ⟨a,cap,hv,h1,h2,fun hp=>?_⟩
 obtain ⟨g,rfl,hg,hc⟩:=h3 hp
 refine ⟨g,rfl,Nat.lt_of_lt_of_le hg hu.size,fun i t ht=>(hu.cell (p:=⟨g,i,none⟩) hg (hK g (by rw [hv]; rfl))).trans (hc i t ht)⟩
theorem isNaN_any (a:Int) (w:World):Calls Tryz.prog 147 #[.int .i64 a] w fun e w'=>e=.returned (.bool false)/\w'=w:=by
 go_enter Tryz.func147,Tryz.ntmps147
 go_wp2
 go_ret
 exact ⟨by simp,rfl⟩
theorem cmpInt_any (a b:Nat) (w:World):Calls Tryz.prog 121 #[.int .i64 a,.int .i64 b] w fun e w'=>e=.returned (.int .i64 (cmpI a b))/\w'=w:=by
 unfold cmpI
 by_cases h1:a < b
 ·have h1':(a:Int) < (b:Int):=by omega
  rw [if_pos h1]
  go_enter Tryz.func121,Tryz.ntmps121
  go_wp2_with (go_at_call 147; refine (isNaN_any _ _).mono ?_; rintro e w3 ⟨rfl,hw3⟩; rw [hw3]; clear hw3 w3)
  go_ret
  exact ⟨rfl,rfl⟩
 ·have h1':¬ (a:Int) < (b:Int):=by omega
  rw [if_neg h1]
  by_cases h2:b < a
  ·have h2':(b:Int) < (a:Int):=by omega
   rw [if_pos h2]
   go_enter Tryz.func121,Tryz.ntmps121
   go_wp2_with (go_at_call 147; refine (isNaN_any _ _).mono ?_; rintro e w3 ⟨rfl,hw3⟩; rw [hw3]; clear hw3 w3)
   go_ret
   exact ⟨rfl,rfl⟩
  ·have h2':¬ (b:Int) < (a:Int):=by omega
   rw [if_neg h2]
   go_enter Tryz.func121,Tryz.ntmps121
   go_wp2_with (go_at_call 147; refine (isNaN_any _ _).mono ?_; rintro e w3 ⟨rfl,hw3⟩; rw [hw3]; clear hw3 w3)
   go_ret
   exact ⟨rfl,rfl⟩
theorem slicesCompare_any (w:World) (v1 v2:Value) (l1 l2:List Nat) (h1:IntsAt w v1 l1) (h2:IntsAt w v2 l2) :
  Calls Tryz.prog 122 #[v1,v2] w fun e w'=>e=.returned (.int .i64 (cmpArgs l1 l2))/\w'=w:=by
 obtain ⟨a1,cap1,hv1,c11,c12,f1⟩:=h1
 obtain ⟨a2,cap2,hv2,c21,c22,f2⟩:=h2
 subst hv1 hv2
 obtain ⟨n1,hn1⟩:∃ n,l1.length=n:=⟨_,rfl⟩
 obtain ⟨n2,hn2⟩:∃ n,l2.length=n:=⟨_,rfl⟩
 rw [hn1] at c11 f1 ⊢
 rw [hn2] at c21 f2 ⊢
 have F1:=hide f1
 have F2:=hide f2
 have Hn1:=hide hn1
 have Hn2:=hide hn2
 unfold maxLen at c12 c22
 clear f1 f2 hn1 hn2
 go_enter Tryz.func122,Tryz.ntmps122
 go_wp2
 go_loopw [11] (fun i wr=>∃ j:Nat,j<=n1/\j<=n2/\i=.int .i64 j/\wr=w/\Hid (cmpArgs l1 l2=cmpArgs (l1.drop j) (l2.drop j))) (fun i _=>n1 - (intOf i).toNat)
 case atStart=>exact ⟨0,Nat.zero_le _,Nat.zero_le _,rfl,rfl,rfl⟩
 case round =>
  obtain ⟨j,hj1,hj2,rfl,hwr,HJ⟩:=hrel
  rw [hwr]
  clear hwr wr
  by_cases hjn:j < n1
  ·have hjI:(j:Int) < (n1:Int):=by omega
   obtain ⟨a,ha⟩:∃ a,l1[j]?=some a:=⟨_,List.getElem?_eq_getElem (by rw [Hn1.out]; exact hjn)⟩
   obtain ⟨g1,rfl,_,k1⟩:=F1.out (by omega)
   have q1:=k1 j a ha
   by_cases hjm:j < n2
   ·have hjm':¬ (n2:Int)<=(j:Int):=by omega
    have hjm2:(j:Int) < (n2:Int):=by omega
    obtain ⟨b,hb⟩:∃ b,l2[j]?=some b:=⟨_,List.getElem?_eq_getElem (by rw [Hn2.out]; exact hjm)⟩
    obtain ⟨g2,rfl,_,k2⟩:=F2.out (by omega)
    have q2:=k2 j b hb
    have hst:=cmpArgs_step ha hb
    have HC:=hide (cmpInt_any a b w)
    obtain ⟨c,hc⟩:∃ c,cmpI a b=c:=⟨_,rfl⟩
    rw [hc] at hst HC
    clear k1 k2 ha hb hc
    by_cases hc0:c=0
    ·have HN:Hid (cmpArgs l1 l2=cmpArgs (l1.drop (j+1)) (l2.drop (j+1))):=by show _=_; rw [HJ.out,hst,if_neg (by simp [hc0])]
     subst hc0
     clear hst
     go_wp2_with (go_at_call 121; refine HC.out.mono ?_; rintro e w3 ⟨rfl,hw3⟩; rw [hw3]; clear hw3 w3)
     refine ⟨⟨j+1,by omega,by omega,by simp,trivial,HN⟩,?_⟩
     simp [intOf]
     omega
    ·have HN:Hid (cmpArgs l1 l2=c):=by show _=_; rw [HJ.out,hst,if_pos hc0]
     have hcb:(c != 0)=true:=by simpa using hc0
     clear hst
     go_wp2_with (go_at_call 121; refine HC.out.mono ?_; rintro e w3 ⟨rfl,hw3⟩; rw [hw3]; clear hw3 w3)
     go_ret
     exact ⟨by rw [HN.out]; rfl,rfl⟩
   ·have hjm':(n2:Int)<=(j:Int):=by omega
    have HN:Hid (cmpArgs l1 l2=1):=by
     show _=_
     have p1:=(List.getElem?_eq_some_iff.1 ha).1
     rw [HJ.out,List.drop_eq_getElem_cons p1,show l2.drop j=[] from List.drop_eq_nil_of_le (by rw [Hn2.out]; omega)]
     rfl
    clear k1 ha
    go_wp2
    go_ret
    exact ⟨by rw [HN.out]; rfl,rfl⟩
  ·have hjI:¬ (j:Int) < (n1:Int):=by omega
   by_cases hlt:n1 < n2
   ·have hlt':(n1:Int) < (n2:Int):=by omega
    have HN:Hid (cmpArgs l1 l2=-1):=by
     show _=_
     rw [HJ.out,show l1.drop j=[] from List.drop_eq_nil_of_le (by rw [Hn1.out]; omega),List.drop_eq_getElem_cons (l:=l2) (by rw [Hn2.out]; omega)]
     rfl
    go_wp2
    go_ret
    exact ⟨by rw [HN.out]; rfl,rfl⟩
   ·have hlt':¬ (n1:Int) < (n2:Int):=by omega
    have HN:Hid (cmpArgs l1 l2=0):=by
     show _=_
     rw [HJ.out,show l1.drop j=[] from List.drop_eq_nil_of_le (by rw [Hn1.out]; omega),show l2.drop j=[] from List.drop_eq_nil_of_le (by rw [Hn2.out]; omega)]
     rfl
    go_wp2
    go_ret
    exact ⟨by rw [HN.out]; rfl,rfl⟩
theorem cmpOr_any (w:World) (g:Nat) (a b c:Int) (h0:w.cell? ⟨g,0,none⟩=some (.int .i64 a)) (h1:w.cell? ⟨g,1,none⟩=some (.int .i64 b)) (h2:w.cell? ⟨g,2,none⟩=some (.int .i64 c)) :
  Calls Tryz.prog 120 #[.slice (some ⟨g,0,none⟩) 3 3] w fun e w'=>e=.returned (.int .i64 (firstNZ [a,b,c]))/\w'=w:=by
 have hf:firstNZ [a,b,c]=if a ≠ 0 then a else if b ≠ 0 then b else c:=by
  simp only [firstNZ]
  by_cases ha:a=0
  ·by_cases hb:b=0
   ·by_cases hc:c=0
    ·simp [ha,hb,hc]
    ·simp [ha,hb,hc]
   ·simp [ha,hb]
  ·simp [ha]
 rw [hf]
 obtain ⟨R,hR⟩:∃ R,(if a ≠ 0 then a else if b ≠ 0 then b else c)=R:=⟨_,rfl⟩
 rw [hR]
 have HRR:=hide hR
 clear hR
 have HC:Hid (∀ j,j < 3->w.cell? ⟨g,j,none⟩=some (.int .i64 ([a,b,c].getD j 0))):=fun j hj=>by
  match j,hj with
  | 0,_=>exact h0
  | 1,_=>exact h1
  | 2,_=>exact h2
 clear h0 h1 h2 hf
 go_enter Tryz.func120,Tryz.ntmps120
 go_wp2
 go_loopw [8] (fun i wr=>∃ j:Nat,j<=3/\i=.int .i64 j/\wr=w/\Hid (∀ q,q < j->[a,b,c].getD q 0=0)) (fun i _=>3 - (intOf i).toNat)
 case atStart=>exact ⟨0,Nat.zero_le _,rfl,rfl,fun q hq=>by omega⟩
 case round =>
  obtain ⟨j,hj,rfl,hwr,HJ⟩:=hrel
  rw [hwr]
  clear hwr wr
  by_cases hjn:j < 3
  ·have hjI:(j:Int) < 3:=by omega
   have q0:=HC.out j hjn
   obtain ⟨z,hz⟩:∃ z,[a,b,c].getD j 0=z:=⟨_,rfl⟩
   rw [hz] at q0
   have Hz:=hide hz
   clear hz
   by_cases hz0:z=0
   ·have HN:Hid (∀ q,q < j+1->[a,b,c].getD q 0=0):=fun q hq=>by
     by_cases e:q < j
     ·exact HJ.out q e
     ·obtain rfl:q=j:=by omega
      rw [Hz.out,hz0]
    subst hz0
    go_wp2
    refine ⟨⟨j+1,by omega,by simp,trivial,HN⟩,?_⟩
    simp [intOf]
    omega
   ·have hzb:(z != 0)=true:=by simpa using hz0
    have HN:Hid (R=z):=by
     show _=_
     rw [<- HRR.out]
     have hz:=Hz.out
     match j,hjn with
     | 0,_ =>
      have e:a=z:=hz
      rw [if_pos (by rw [e]; exact hz0),e]
     | 1,_ =>
      have e0:a=0:=HJ.out 0 (by omega)
      have e:b=z:=hz
      rw [if_neg (by simp [e0]),if_pos (by rw [e]; exact hz0),e]
     | 2,_ =>
      have e0:a=0:=HJ.out 0 (by omega)
      have e1:b=0:=HJ.out 1 (by omega)
      have e:c=z:=hz
      rw [if_neg (by simp [e0]),if_neg (by simp [e1]),e]
    go_wp2
    go_ret
    exact ⟨by rw [HN.out]; rfl,rfl⟩
  ·have hjI:¬ (j:Int) < 3:=by omega
   have HN:Hid (R=0):=by
    show _=_
    rw [<- HRR.out]
    have e0:a=0:=HJ.out 0 (by omega)
    have e1:b=0:=HJ.out 1 (by omega)
    have e2:c=0:=HJ.out 2 (by omega)
    rw [if_neg (by simp [e0]),if_neg (by simp [e1]),e2]
   go_wp2
   go_ret
   exact ⟨by rw [HN.out]; rfl,rfl⟩
theorem compareRows_any (x y:RowP) (vx vy:Value) (W:World) (hx:IntsAt W vx x.args) (hy:IntsAt W vy y.args) :
  Calls Tryz.prog 85 #[.agg #[.string x.name,vx,.int .i64 x.value],.agg #[.string y.name,vy,.int .i64 y.value]] W fun e w'=>e=.returned (.int .i64 (cmpRow x y))/\∃ q os',w'=grow (W.drewN q) os':=by
 have HS:=hide (fun W'=>stringsCompare_any x.name y.name W')
 have HI:=hide (fun W'=>cmpInt_any x.args.length y.args.length W')
 have HA:=hide (fun W' (hU:Upd [] W W')=>slicesCompare_any W' vx vy x.args y.args (hx.later hU (fun _ _=>by simp)) (hy.later hU (fun _ _=>by simp)))
 obtain ⟨ax,capx,hvx,_,_,_⟩:=hx
 obtain ⟨ay,capy,hvy,_,_,_⟩:=hy
 unfold cmpRow
 obtain ⟨a,ha⟩:∃ a,Lib.compareBytes x.name.data.toList y.name.data.toList=a:=⟨_,rfl⟩
 obtain ⟨b,hb⟩:∃ b,cmpI x.args.length y.args.length=b:=⟨_,rfl⟩
 obtain ⟨c,hc⟩:∃ c,cmpArgs x.args y.args=c:=⟨_,rfl⟩
 obtain ⟨nx,hnx⟩:∃ nx,x.args.length=nx:=⟨_,rfl⟩
 obtain ⟨ny,hny⟩:∃ ny,y.args.length=ny:=⟨_,rfl⟩
 rw [ha] at HS ⊢
 rw [hb] at HI ⊢
 rw [hc] at HA ⊢
 rw [hnx] at HI hvx
 rw [hny] at HI hvy
 subst hvx hvy
 clear ha hb hc hnx hny
 obtain ⟨xn,hxn⟩:∃ xn,x.name=xn:=⟨_,rfl⟩
 obtain ⟨yn,hyn⟩:∃ yn,y.name=yn:=⟨_,rfl⟩
 rw [hxn] at HS ⊢
 rw [hyn] at HS ⊢
 clear hxn hyn
 obtain ⟨R,hR⟩:∃ R,firstNZ [a,b,c]=R:=⟨_,rfl⟩
 rw [hR]
 have HRr:=hide hR
 clear hR
 go_enter Tryz.func85,Tryz.ntmps85
 go_wp2_with fail
 obtain ⟨W1,hW1⟩:∃ W1,W1=(W.alloc (.cells #[.string xn,.slice ax nx capx,.int .i64 x.value] 88)).alloc (.cells #[.string yn,.slice ay ny capy,.int .i64 y.value] 88):=⟨_,rfl⟩
 have hU1:Upd [] W W1:=by rw [hW1]; exact ((Upd.refl [] W).alloc _).alloc _
 have e0:W1.cell? ⟨W.heap.size,0,none⟩=some (.string xn):=by rw [hW1]; go_simp
 have e1:W1.cell? ⟨W.heap.size,1,none⟩=some (.slice ax nx capx):=by rw [hW1]; go_simp
 have d0:W1.cell? ⟨W.heap.size+1,0,none⟩=some (.string yn):=by rw [hW1]; go_simp
 have d1:W1.cell? ⟨W.heap.size+1,1,none⟩=some (.slice ay ny capy):=by rw [hW1]; go_simp
 have HW1:Hid (∃ os,W1=grow W os):=⟨_,by rw [hW1,alloc_eq_grow,alloc_eq_grow,grow_grow]⟩
 rw [<- hW1]
 have HA1:=hide (HA.out W1.drew hU1.drew)
 clear hW1 hU1 HA
 have HO:Hid (Calls Tryz.prog 120 #[.slice (some ⟨W1.heap.size,0,none⟩) 3 3] (W1.drew.alloc (.cells #[.int .i64 a,.int .i64 b,.int .i64 c] 3)) fun e w'=>e=.returned (.int .i64 (firstNZ [a,b,c]))/\w'=W1.drew.alloc (.cells #[.int .i64 a,.int .i64 b,.int .i64 c] 3)) :=
  cmpOr_any (W1.drew.alloc (.cells #[.int .i64 a,.int .i64 b,.int .i64 c] 3)) W1.heap.size a b c (by go_simp) (by go_simp) (by go_simp)
 rw [HRr.out] at HO
 go_region_held3 (fun w'=>w'.cell? ⟨W.heap.size,0,none⟩=some (.string xn)/\w'.cell? ⟨W.heap.size,1,none⟩=some (.slice ax nx capx)/\w'.cell? ⟨W.heap.size+1,0,none⟩=some (.string yn)/\w'.cell? ⟨W.heap.size+1,1,none⟩=some (.slice ay ny capy)) ((first | go_keep | (refine ⟨?_,?_,?_,?_⟩ <;> go_simp)))
  (first
   | (go_at_call 117; refine (HS.out _).mono ?_; rintro e w3 ⟨rfl,hw3⟩; rw [hw3]; clear hw3 w3)
   | (go_at_call 121; refine (HI.out _).mono ?_; rintro e w3 ⟨rfl,hw3⟩; rw [hw3]; clear hw3 w3)
   | (go_at_call 122; refine HA1.out.mono ?_; rintro e w3 ⟨rfl,hw3⟩; rw [hw3]; clear hw3 w3)
   | (go_at_call 120; refine HO.out.mono ?_; rintro e w3 ⟨rfl,hw3⟩; rw [hw3]; clear hw3 w3))
 all_goals (
  go_wp2
  go_ret
  obtain ⟨os,hos⟩:=HW1.out
  exact ⟨rfl,1,_,by rw [hos,alloc_eq_grow,grow_grow]; rfl⟩)
end Go.Proofs.YtmfkpllnmmfpiaaGreatDoor
