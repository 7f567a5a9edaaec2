/- Contra, With, ReadSize, Read, Book -/
import Derived.Test.YtmfkpllnmmfpiaaGreatDoorBackA
import Derived.Test.YtmfkpllnmmfpiaaGreatDoorSay2A
import Derived.Test.YtmfkpllnmmfpiaaGreatDoorRangeA
import Derived.LaidEql
set_option maxHeartbeats 16000000
set_option maxRecDepth 100000
namespace Go.Proofs.YtmfkpllnmmfpiaaGreatDoor
open Go.RowKit
def contra {n:Nat} (x:Snt n):Snt n:={ x with eq:=!x.eq }
theorem contra_narrow {n:Nat} {x:Snt n} (h:NarrowS x):NarrowS (contra x):=h
theorem contra_size {n:Nat} (x:Snt n):sizeS (contra x)=sizeS x:=rfl
theorem contrary_any (w:World) (a a':ByteArray) (p p':Int) (g g':Option Addr) (ll cap ll' cap':Nat) (b:Bool) :
  Calls Tryz.prog 98 #[.agg #[.string a,.int .i64 p,.slice g ll cap,.int .i64 (signInt b),.string a',.int .i64 p',.slice g' ll' cap']] w fun e w'=>e=.returned (.agg #[.string a,.int .i64 p,.slice g ll cap,.int .i64 (signInt (!b)),.string a',.int .i64 p',.slice g' ll' cap'])/\Upd [] w w':=by
 cases b with
 | true =>
  show Calls _ _ #[.agg #[.string a,.int .i64 p,.slice g ll cap,.int .i64 0,.string a',.int .i64 p',.slice g' ll' cap']] _ _
  go_enter Tryz.func98,Tryz.ntmps98
  go_wp2
  refine bodyPost_ret (v:=.agg #[.string a,.int .i64 p,.slice g ll cap,.int .i64 1,.string a',.int .i64 p',.slice g' ll' cap']) (by simp [results,Tryz.results98,go_sem]) rfl ?_
  exact ⟨rfl,((Upd.refl [] w).alloc _).alloc _⟩
 | false =>
  show Calls _ _ #[.agg #[.string a,.int .i64 p,.slice g ll cap,.int .i64 1,.string a',.int .i64 p',.slice g' ll' cap']] _ _
  go_enter Tryz.func98,Tryz.ntmps98
  go_wp2
  refine bodyPost_ret (v:=.agg #[.string a,.int .i64 p,.slice g ll cap,.int .i64 0,.string a',.int .i64 p',.slice g' ll' cap']) (by simp [results,Tryz.results98,go_sem]) rfl ?_
  exact ⟨rfl,((Upd.refl [] w).alloc _).alloc _⟩
abbrev V7:=V3 × Int × V3
def v7 (c:V7):List Value:=[c.1.1,c.1.2.1,c.1.2.2,.int .i64 c.2.1,c.2.2.1,c.2.2.2.1,c.2.2.2.2]
def flat7:List V7->List Value
 | []=>[]
 | c :: cs=>v7 c++flat7 cs
abbrev SntX:=(n:Nat) × Snt n
def IsX (w:World) (F:Nat->Prop) (c:V7) (x:SntX):Prop:=IsSnt w F x.1 c.1 c.2.1 c.2.2 x.2
theorem IsX.later {w w':World} {L:List Nat} {F:Nat->Prop} {c:V7} {x:SntX} (h:IsX w F c x) (hu:Upd L w w') (hL:∀ k,F k->k ∉ L):IsX w' F c x:=⟨h.1.later hu hL,h.2.1,h.2.2.later hu hL⟩
theorem IsX.mono {w:World} {F F':Nat->Prop} {c:V7} {x:SntX} (h:IsX w F c x) (hF:∀ k,F k->k < w.heap.size->F' k):IsX w F' c x:=⟨h.1.mono hF,h.2.1,h.2.2.mono hF⟩
theorem flat7_get {l:List V7} {i:Nat} {c:V7} (h:l[i]?=some c):∀ o,o < 7->(flat7 l)[i * 7+o]?=(v7 c)[o]?:=by
 induction l generalizing i with
 | nil=>simp at h
 | cons d ds ih =>
  intro o ho
  cases i with
  | zero =>
   simp at h
   subst h
   rw [flat7,Nat.zero_mul,Nat.zero_add,List.getElem?_append_left (by simp [v7]; omega)]
  | succ i =>
   have:=ih (i:=i) (by simpa using h) o ho
   rw [flat7,List.getElem?_append_right (by simp [v7]; omega),<- this]
   congr 1
   simp [v7]
   omega
theorem row7_cells {w:World} {base e g len cap n:Nat} {l:List V7} {c:V7} {i:Nat} (h:w.ownsRow base e 7 (.slice (some ⟨g,0,none⟩) len cap) n (flat7 l)) (hi:l[i]?=some c):∀ o,o < 7->w.cell? ⟨g,i * 7+o,none⟩=(v7 c)[o]?:=by
 obtain ⟨hl,hr⟩:=h
 rcases hr with ⟨hv,_⟩ | ⟨g',cap',cur,hv,_,hg,_,_,hcs,htk⟩
 ·cases hv
 ·cases hv
  intro o ho
  have hc:=flat7_get hi o ho
  have hs:(v7 c)[o]? ≠ none:=by
   intro e
   rw [List.getElem?_eq_none_iff] at e
   simp [v7] at e
   omega
  obtain ⟨u,hu⟩:=Option.ne_none_iff_exists'.1 hs
  rw [hu] at hc ⊢
  rw [cell_of_row w g _ cur e (0,0) hg]
  rw [<- htk,List.getElem?_take] at hc
  split at hc
  ·simpa using hc
  ·cases hc
def sayAll (S:WS):List SntX->WS
 | []=>S
 | x :: l=>sayAll (sayM S x.2) l
theorem sayAll_snoc (S:WS) (l:List SntX) (x:SntX):sayAll S (l++[x])=sayM (sayAll S l) x.2:=by
 induction l generalizing S with
 | nil=>rfl
 | cons y l ih=>exact ih _
def sizeX (x:SntX):Nat:=sizeS x.2
def NarrowX (x:SntX):Prop:=NarrowS x.2
structure SaidAll (S T:WS) (m k:Nat):Prop where
 fine:Fine T
 len:T.shapes.length<=S.shapes.length+m
 said:T.said.length=S.said.length+k
 goes:∀ S0,Goes S0 S->Goes S0 T
theorem sayAll_end:∀ (l:List SntX) (S:WS),Fine S->allOf NarrowX l->S.shapes.length+sumOf sizeX l<=400->SaidAll S (sayAll S l) (sumOf sizeX l) l.length
 | [],_,h,_,_=>⟨h,Nat.le_refl _,rfl,fun _ h=>h⟩
 | x :: l,S,h,hx,hn=>by
  simp only [sumOf,sizeX] at hn
  have E:=sayM_end h.web hx.1 (by omega)
  obtain ⟨i,j,_,_,hs⟩:=E.said
  have hl:=E.len
  have h1:=sayAll_end l (sayM S x.2) ⟨E.web,E.pot h.pot⟩ hx.2 (by omega)
  have h2:=h1.len
  have h3:=h1.said
  rw [hs] at h3
  simp only [List.length_append,List.length_singleton] at h3
  exact ⟨h1.fine,by simp only [sayAll,sumOf,sizeX]; omega,by simp only [sayAll,List.length_cons]; omega,fun S0 h0=>h1.goes S0 (E.goes S0 h0)⟩
def RoomX (S:WS):List SntX->Prop
 | []=>S.shapes.length<=400
 | x :: l=>S.shapes.length+sizeX x<=400/\RoomX (sayM S x.2) l
structure SaidRoom (S T:WS) (k:Nat):Prop where
 fine:Fine T
 len:T.shapes.length<=400
 said:T.said.length=S.said.length+k
 goes:∀ S0,Goes S0 S->Goes S0 T
theorem sayAll_room:∀ (l:List SntX) (S:WS),Fine S->allOf NarrowX l->RoomX S l->SaidRoom S (sayAll S l) l.length
 | [],_,h,_,hr=>⟨h,hr,rfl,fun _ h=>h⟩
 | x :: l,S,h,hx,hn=>by
  have E:=sayM_end h.web hx.1 hn.1
  obtain ⟨i,j,_,_,hs⟩:=E.said
  have h1:=sayAll_room l (sayM S x.2) ⟨E.web,E.pot h.pot⟩ hx.2 hn.2
  have h3:=h1.said
  rw [hs] at h3
  simp only [List.length_append,List.length_singleton] at h3
  exact ⟨h1.fine,h1.len,by simp only [sayAll,List.length_cons]; omega,fun S0 h0=>h1.goes S0 (E.goes S0 h0)⟩
theorem RoomX.take:∀ {l:List SntX} {S:WS},Fine S->allOf NarrowX l->RoomX S l->∀ j,RoomX S (l.take j)
 | [],_,_,_,h,j=>by simpa using h
 | x :: l,S,hF,hx,h,0=>by
  show S.shapes.length<=400
  have:=h.1
  omega
 | x :: l,S,hF,hx,h,j+1=>by
  have E:=sayM_end hF.web hx.1 h.1
  exact ⟨h.1,RoomX.take ⟨E.web,E.pot hF.pot⟩ hx.2 h.2 j⟩
theorem RoomX.get:∀ {l:List SntX} {S:WS},Fine S->allOf NarrowX l->RoomX S l->∀ (j:Nat) (hj:j < l.length),(sayAll S (l.take j)).shapes.length+sizeX l[j]<=400
 | [],_,_,_,_,j,hj=>absurd hj (Nat.not_lt_zero _)
 | x :: l,S,hF,hx,h,0,_=>h.1
 | x :: l,S,hF,hx,h,j+1,hj=>by
  have E:=sayM_end hF.web hx.1 h.1
  exact RoomX.get (l:=l) ⟨E.web,E.pot hF.pot⟩ hx.2 h.2 j (by simpa using hj)
theorem RoomX.one {S:WS} (hF:Fine S) {x:SntX} (hx:NarrowX x) (h:S.shapes.length+sizeX x<=400):RoomX S [x]:=⟨h,by
 have E:=sayM_end hF.web hx h
 have:=E.len
 unfold sizeX at h
 show (sayM S x.2).shapes.length<=400
 omega⟩
structure Withs (w wr:World) (wb:Nat) (H:Hd) (Z:Nat->Prop) (T:WS):Prop where
 ex:∃ H',WebAt wr wb H' (fun k=>Z k\/w.heap.size<=k) T/\∀ k ∈ H'.blocks wb,k ∈ H.blocks wb\/w.heap.size<=k
 upd:Upd (H.blocks wb) w wr
theorem allOf_mem {α:Type} {p:α->Prop}:∀ {l:List α} {x:α},allOf p l->x ∈ l->p x
 | _ :: _,_,h,hm=>by
  simp only [List.mem_cons] at hm
  rcases hm with rfl | hm
  ·exact h.1
  ·exact allOf_mem h.2 hm
theorem clashWith_any (w:World) (wb:Nat) (H:Hd) (Z F:Nat->Prop) (S:WS) (v:Value) (cs:List V7) (xs:List SntX) (h:WebAt w wb H Z S) (hrow:w.ownsRow 0 101 7 v xs.length (flat7 cs)) (hvF:∀ k,v.ownBlock=some k->F k) (hall:AllIs (IsX w F) cs xs) (hFZ:∀ k,F k->¬ Z k)
  (hF:Fine S) (hx:allOf NarrowX xs) (hn:RoomX S xs) (hsd:S.said.length+xs.length<=900) :
  Calls Tryz.prog 97 #[.pointer (some ⟨wb,0,none⟩),v] w fun e w'=>e=.returned (.bool (clashM (sayAll S xs)))/\∃ H',WebAt w' wb H' (fun k=>Z k\/w.heap.size<=k) S/\Upd (H.blocks wb) w w'/\∀ k ∈ H'.blocks wb,k ∈ H.blocks wb\/w.heap.size<=k:=by
 obtain ⟨g,l,cap,hv,hl,hlc,hcm,hg⟩:∃ (g:Option Addr) (l cap:Nat),v=.slice g l cap/\l=xs.length/\l<=cap/\cap<=maxLen/\(0 < l->∃ b,g=some ⟨b,0,none⟩):=by
  rcases ownsRow_slice hrow with ⟨h1,h2⟩ | ⟨g,cap,h1,h2,h3⟩
  ·exact ⟨none,0,0,h1,h2.symm,Nat.le_refl _,Nat.zero_le _,fun h=>by omega⟩
  ·exact ⟨_,_,cap,h1,rfl,h2,h3,fun _=>⟨g,rfl⟩⟩
 subst hv
 have hstart:Withs w w wb H Z S:=⟨⟨H,h.mono (fun k hk _=>.inl hk),fun k hk=>.inl hk⟩,Upd.refl _ _⟩
 have HHere:=hide (here_any w wb H Z S h)
 have hlt:=h.lt
 have Hl:=hide hl
 have HG:=hide hg
 have HS:=hide (fun (ys:List SntX) h1 h2=>sayAll_room ys S hF h1 h2)
 have HRm:=hide (fun (j:Nat)=>hn.take hF hx j)
 have HRg:=hide (fun (j:Nat) (hj:j < xs.length)=>hn.get hF hx j hj)
 have HRn:=hide hn
 have HNo:Hid (∀ k,F k->k < w.heap.size->k ∉ H.blocks wb):=fun k hk _ hm=>hFZ k hk (h.inZ k hm)
 have Hrow:=hide hrow
 have Hall:=hide hall
 have HvF:=hide hvF
 have Hx:=hide hx
 have Hh:=hide h
 unfold maxLen at hcm
 have hl9:l<=900:=by omega
 clear hrow hall hvF hx hl hg h hn
 go_enter Tryz.func97,Tryz.ntmps97
 go_wp2_with (go_at_call 56; refine HHere.out.mono ?_; rintro e w2 ⟨rfl,hw2⟩; rw [hw2]; clear hw2 w2)
 go_loopw [15] (fun i wr=>∃ j:Nat,j<=l/\i=.int .i64 j/\Hid (Withs w wr wb H Z (sayAll S (xs.take j)))) (fun i _=>l - (intOf i).toNat)
 case atStart=>exact ⟨0,Nat.zero_le _,rfl,hstart⟩
 case round =>
  obtain ⟨j,hj,rfl,HR⟩:=hrel
  clear hstart
  by_cases hjl:j < l
  ·have hjl':(j:Int) < (l:Int):=by omega
   have hjx:j < xs.length:=by rw [<- Hl.out]; exact hjl
   obtain ⟨b,rfl⟩:=HG.out (by omega)
   obtain ⟨c,hck,hic⟩:=Hall.out.get (i:=j) (List.getElem?_eq_getElem hjx)
   have hb0:b < w.heap.size:=ownsRow_lt Hrow.out rfl
   have hbF:F b:=HvF.out b rfl
   have hbH:=HNo.out b hbF hb0
   have hcells:=row7_cells Hrow.out hck
   have upd:=HR.out.upd
   obtain ⟨H',hw',hH'⟩:=HR.out.ex
   have E:=HS.out (xs.take j) (allOf_take j Hx.out) (HRm.out j)
   have hsz:=HRg.out j hjx
   have hle:=E.len
   have hsaid:=E.said
   simp only [List.length_take] at hsaid
   obtain ⟨cl,k,cr⟩:=c
   obtain ⟨a,p,g2,l2,cap2,hcl⟩:=hic.1.form
   obtain ⟨a',p',g2',l2',cap2',hcr⟩:=hic.2.2.form
   simp only at hcl hcr
   subst hcl hcr
   have m0:wr.cell? ⟨b,j * 7,none⟩=some (.string a):=(upd.cell (p:=⟨b,j * 7,none⟩) hb0 hbH).trans (hcells 0 (by omega))
   have m1:wr.cell? ⟨b,j * 7+1,none⟩=some (.int .i64 p):=(upd.cell (p:=⟨b,j * 7+1,none⟩) hb0 hbH).trans (hcells 1 (by omega))
   have m2:wr.cell? ⟨b,j * 7+2,none⟩=some (.slice g2 l2 cap2):=(upd.cell (p:=⟨b,j * 7+2,none⟩) hb0 hbH).trans (hcells 2 (by omega))
   have m3:wr.cell? ⟨b,j * 7+3,none⟩=some (.int .i64 k):=(upd.cell (p:=⟨b,j * 7+3,none⟩) hb0 hbH).trans (hcells 3 (by omega))
   have m4:wr.cell? ⟨b,j * 7+4,none⟩=some (.string a'):=(upd.cell (p:=⟨b,j * 7+4,none⟩) hb0 hbH).trans (hcells 4 (by omega))
   have m5:wr.cell? ⟨b,j * 7+5,none⟩=some (.int .i64 p'):=(upd.cell (p:=⟨b,j * 7+5,none⟩) hb0 hbH).trans (hcells 5 (by omega))
   have m6:wr.cell? ⟨b,j * 7+6,none⟩=some (.slice g2' l2' cap2'):=(upd.cell (p:=⟨b,j * 7+6,none⟩) hb0 hbH).trans (hcells 6 (by omega))
   have s1:=upd.size
   have HC:=hide (fun (X:Obj)=>webSay_any (wr.alloc X) wb xs[j].1 H' (fun k=>(Z k\/w.heap.size<=k)/\k < wr.heap.size) (fun k=>F k/\k < w.heap.size) (sayAll S (xs.take j)) (.string a,.int .i64 p,.slice g2 l2 cap2) (.string a',.int .i64 p',.slice g2' l2' cap2') k xs[j].2
    ((hw'.mono (fun k hk hl=>⟨hk,hl⟩)).later ((Upd.refl [] wr).alloc X) (fun _ _=>by simp))
    (((hic.mono (F':=fun k=>F k/\k < w.heap.size) fun k hk hl=>⟨hk,hl⟩).later upd (fun k hk=>HNo.out k hk.1 hk.2)).later ((Upd.refl [] wr).alloc X) (fun _ _=>by simp))
    (fun k hk hz=>by
     rcases hz.1 with hz | hz
     ·exact hFZ k hk.1 hz
     ·have:=hk.2; omega) (fun k hk=>by have:=hk.2; simp; omega) E.fine (allOf_get hjx Hx.out) (by show _+sizeX xs[j]<=400; omega) (by omega))
   have hstep:Hid (sayAll S (xs.take (j+1))=sayM (sayAll S (xs.take j)) xs[j].2):=by
    show _=_
    rw [List.take_succ_eq_append_getElem hjx,sayAll_snoc]
   have HH':=hide hH'
   have Hupd:=hide upd
   clear hcells hw' hH' upd E hic hck hle hsaid hsz
   simp only at HC
   generalize sayAll S (xs.take j)=R at *
   generalize sayM R xs[j].2=R2 at *
   go_wp2_with (go_at_call 57; refine (HC.out _).mono ?_; rintro e w2 ⟨H2,rfl,hw2,hu2,hH2⟩; have Hw2:=hide hw2; have Hu2:=hide hu2; have HH2:=hide hH2; clear hw2 hu2 hH2)
   refine ⟨⟨j+1,by omega,by go_num,?_⟩,by simp [intOf]; omega⟩
   show Withs _ _ _ _ _ _
   rw [hstep.out]
   refine ⟨⟨H2,Hw2.out.mono (fun k hk _=>?_),fun k hk=>?_⟩,(Hupd.out.alloc _).trans' Hu2.out (fun k hk hl=>?_)⟩
   ·rcases hk with hk | hk
    ·exact hk.1
    ·simp only [World.size_alloc] at hk
     exact .inr (by omega)
   ·rcases HH2.out k hk with h1 | h1
    ·exact HH'.out k h1
    ·simp only [World.size_alloc] at h1
     exact .inr (by omega)
   ·rcases HH'.out k hk with h1 | h1
    ·exact h1
    ·omega
  ·obtain rfl:j=l:=by omega
   have hge:¬ (j:Int) < (j:Int):=by omega
   have htk:xs.take j=xs:=List.take_of_length_le (by rw [<- Hl.out]; omega)
   have hR:=HR.out
   rw [htk] at hR
   obtain ⟨H',hw',hH'⟩:=hR.ex
   have upd:=hR.upd
   have E:=HS.out xs Hx.out HRn.out
   have hE1:=E.said
   have hE2:=E.len
   have hE3:=(E.fine.trail (by omega) (by omega)).1
   have HCl:=hide (webClash_any wr wb H' (fun k=>Z k\/w.heap.size<=k) (sayAll S xs) hw' E.fine.web.base.saidLt (by omega))
   have HBk:=hide (fun (w2:World) (hu:Upd [] wr w2)=>backTo_any w2 wb H' (fun k=>Z k\/w.heap.size<=k) (sayAll S xs) S (hw'.later hu (fun _ _=>by simp)) (E.goes S (Goes.refl S)) (by omega))
   have HH':=hide hH'
   have Hupd:=hide upd
   clear hR hw' hH' upd E hE1 hE2 hE3 htk HR
   go_wp2_with (first
    | (go_at_call 45; refine HCl.out.mono ?_; rintro e w2 ⟨rfl,hu2⟩; have Hu2:=hide hu2; clear hu2)
    | (go_at_call 59; refine (HBk.out w2 Hu2.out).mono ?_; rintro e w3 ⟨rfl,H3,hw3,hu3,hH3⟩; have Hw3:=hide hw3; have Hu3:=hide hu3; have HH3:=hide hH3; clear hw3 hu3 hH3))
   go_ret
   refine ⟨rfl,H3,Hw3.out,(Hupd.out.trans (Hu2.out.mono (fun x hx _=>by cases hx))).trans' Hu3.out (fun k hk hl=>?_),fun k hk=>?_⟩
   ·rcases HH'.out k hk with h1 | h1
    ·exact h1
    ·omega
   ·rw [HH3.out] at hk
    exact HH'.out k hk
def followsM {n:Nat} (S:WS) (x:Snt n):Bool:=clashM (sayM S (contra x))
theorem webFollows_any (w:World) (wb n:Nat) (H:Hd) (Z F:Nat->Prop) (S:WS) (l r:V3) (k:Int) (x:Snt n) (h:WebAt w wb H Z S) (hs:IsSnt w F n l k r x) (hFZ:∀ k,F k->¬ Z k) (hZ:∀ k,Z k->k < w.heap.size)
  (hF:Fine S) (hx:NarrowS x) (hn:S.shapes.length+sizeS x<=400) (hsd:S.said.length+1<=900) :
  Calls Tryz.prog 60 #[.pointer (some ⟨wb,0,none⟩),.agg #[l.1,l.2.1,l.2.2,.int .i64 k,r.1,r.2.1,r.2.2]] w fun e w'=>e=.returned (.bool (followsM S x))/\∃ H',WebAt w' wb H' (fun k=>Z k\/w.heap.size<=k) S/\Upd (H.blocks wb) w w'/\∀ k ∈ H'.blocks wb,k ∈ H.blocks wb\/w.heap.size<=k:=by
 obtain ⟨hl,hk,hr⟩:=hs
 obtain ⟨a,p,g,ll,cap,rfl⟩:=hl.form
 obtain ⟨a',p',g',ll',cap',rfl⟩:=hr.form
 simp only
 subst hk
 have HC:=hide (fun (w2:World)=>contrary_any w2 a a' p p' g g' ll cap ll' cap' x.eq)
 have HW:=hide (fun (w2:World) (hu:Upd [] w w2) =>
  let U:=hu.alloc (.cells #[.string a,.int .i64 p,.slice g ll cap,.int .i64 (signInt (!x.eq)),.string a',.int .i64 p',.slice g' ll' cap'] 101)
  let hs:∀ k,Z k->k ≠ w2.heap.size:=fun k hk e=>by have h1:=hZ k hk; have h2:=hu.size; omega
  clashWith_any (w2.alloc (.cells #[.string a,.int .i64 p,.slice g ll cap,.int .i64 (signInt (!x.eq)),.string a',.int .i64 p',.slice g' ll' cap'] 101)) wb H Z (fun k=>F k\/k=w2.heap.size) S (.slice (some ⟨w2.heap.size,0,none⟩) 1 1)
   [((.string a,.int .i64 p,.slice g ll cap),signInt (!x.eq),(.string a',.int .i64 p',.slice g' ll' cap'))] [⟨n,contra x⟩] (h.later U (fun _ _=>by simp)) (World.ownsRow_lit w2 _ 1 (Nat.zero_le _) (by simp [maxLen]) rfl) (fun k hk=>.inr (by simpa [Value.ownBlock] using hk.symm))
   ⟨⟨(hl.later U (fun _ _=>by simp)).mono (fun k hk _=>.inl hk),rfl,(hr.later U (fun _ _=>by simp)).mono (fun k hk _=>.inl hk)⟩,trivial⟩
   (fun k hk hz=>hk.elim (fun h=>hFZ k h hz) (hs k hz)) hF ⟨contra_narrow hx,trivial⟩ (RoomX.one hF (contra_narrow hx) hn) (by simpa using hsd))
 have Hh:=hide (⟨h.lt,h.mem_lt⟩:_/\_)
 clear h hl hr
 go_enter Tryz.func60,Tryz.ntmps60
 go_wp2_with (first
  | (go_at_call 98; refine (HC.out _).mono ?_; rintro e w2 ⟨rfl,hu2⟩; have Hu2:=hide hu2; clear hu2)
  | (go_at_call 97; refine (HW.out w2 (((Upd.refl [] w).alloc _).trans Hu2.out)).mono ?_; rintro e w3 ⟨rfl,H3,hw3,hu3,hH3⟩; have Hw3:=hide hw3; have Hu3:=hide hu3; have HH3:=hide hH3; clear hw3 hu3 hH3))
 go_ret
 have U2:=((Upd.refl [] w).alloc _).trans Hu2.out
 have s2:=U2.size
 have U3:=U2.alloc (.cells #[.string a,.int .i64 p,.slice g ll cap,.int .i64 (signInt (!x.eq)),.string a',.int .i64 p',.slice g' ll' cap'] 101)
 have s3:=U3.size
 exact ⟨rfl,H3,Hw3.out.mono (fun k hk _=>hk.imp id (fun h=>by omega)),(U3.mono (fun x hx _=>by cases hx)).trans Hu3.out,fun k hk=>(HH3.out k hk).imp id (fun h=>by omega)⟩
theorem partsOf_size {s:ByteArray} {n:Nat} (ht:∀ (st:Wd) (t:Tm n) (st2:Wd),Fit s st->termOf s n st=(some t,st2)->2 * sizeT n t+st.2.1<=st2.2.1+1) :
  ∀ (m:Nat) (st:Wd) (ps:List (Tm n)) (st2:Wd),Fit s st->partsOf s (termOf s n) m st=(some ps,st2)->2 * sumOf (sizeT n) ps+st.2.2<=st2.2.1
 | 0,_,_,_,_,h=>by simp [partsOf] at h
 | m+1,st,ps,st2,hf,h=>by
  have h1:=Fit.next s st.2.2 hf.size
  have hw:=wordAt_le s st.2.2 hf.size
  unfold partsOf at h
  cases hpp:termOf s n (wordAt s st.2.2) with
  | mk o stx =>
   rw [hpp] at h
   cases o with
   | none=>simp at h
   | some x =>
    have h2:=ht _ x stx h1 hpp
    have h3:=(termOf_fit n (wordAt s st.2.2) h1).1
    rw [hpp] at h3
    have h4:=h3.le
    have h5:=wordAt_le s stx.2.2 h3.size
    have h6:=h3.lt
    simp only at h h3 h4 h5 h6
    split at h
    ·rename_i hk
     have h7:=h6 (by omega)
     cases h
     simp only [sumOf]
     omega
    ·split at h
     ·rename_i hk
      have h7:=h6 (by omega)
      cases hq:partsOf s (termOf s n) m stx with
      | mk o3 st3 =>
       rw [hq] at h
       cases o3 with
       | none=>simp at h
       | some xs =>
        simp only [Prod.mk.injEq,Option.some.injEq] at h
        obtain ⟨rfl,rfl⟩:=h
        have h8:=partsOf_size ht m stx xs _ h3 hq
        simp only [sumOf]
        omega
     ·simp at h
theorem termOf_size {s:ByteArray}:∀ (n:Nat) (st:Wd) (t:Tm n) (st2:Wd),Fit s st->termOf s n st=(some t,st2)->2 * sizeT n t+st.2.1<=st2.2.1+1
 | 0,_,t,_,_,_=>t.elim
 | n+1,st,t,st2,hf,h=>by
  by_cases hk:st.1=0
  ·have h1:=Fit.next s st.2.2 hf.size
   have hw:=wordAt_le s st.2.2 hf.size
   have hlt:=hf.lt (by omega)
   by_cases h1':(wordAt s st.2.2).1=1
   ·cases hq:partsOf s (termOf s n) (s.size+1) (wordAt s st.2.2) with
    | mk o st3 =>
     cases o with
     | none=>rw [termOf_fails hk h1' hq] at h; simp at h
     | some ps =>
      rw [termOf_parts hk h1' hq] at h
      simp only [Prod.mk.injEq,Option.some.injEq] at h
      obtain ⟨rfl,rfl⟩:=h
      have h2:=partsOf_size (termOf_size n) _ _ ps _ h1 hq
      have h3:=h1.lt (by omega)
      show 2 * (1+sumOf (sizeT n) ps)+st.2.1<=_
      omega
   ·rw [termOf_bare hk h1'] at h
    simp only [Prod.mk.injEq,Option.some.injEq] at h
    obtain ⟨rfl,rfl⟩:=h
    show 2 * (1+0)+st.2.1<=_
    omega
  ·rw [termOf_no hk] at h; simp at h
theorem firstOf_all {α β:Type} {f:α->Option β}:∀ {l:List α},firstOf f l=none->∀ a ∈ l,f a=none
 | [],_,_,h=>by cases h
 | b :: l,h,a,ha=>by
  unfold firstOf at h
  cases hb:f b with
  | some c=>rw [hb] at h; simp at h
  | none =>
   rw [hb] at h
   simp only [List.mem_cons] at ha
   rcases ha with rfl | ha
   ·exact hb
   ·exact firstOf_all h a ha
theorem allOf_of {α:Type} {p:α->Prop}:∀ {l:List α},(∀ a ∈ l,p a)->allOf p l
 | [],_=>trivial
 | a :: l,h=>⟨h a (by simp),allOf_of fun b hb=>h b (by simp [hb])⟩
theorem rangeOf_narrow:∀ (n:Nat) (t:Tm n) (d:Nat),rangeOf n t d=none->Narrow n t
 | 0,t,_,_=>t.elim
 | n+1,t,d,h=>by
  unfold rangeOf at h
  split at h
  ·cases h
  ·split at h
   ·cases h
   ·split at h
    ·cases h
    ·exact ⟨by omega,by omega,allOf_of fun p hp=>rangeOf_narrow n p (d+1) (firstOf_all h p hp)⟩
theorem readOf_small {s:ByteArray} {x:Snt (fuelOf s)} (h:(readOf s).1=some x):NarrowS x/\sizeS x<=100/\readOf s=(some x,0,0):=by
 unfold readOf at h
 split at h
 ·simp at h
 ·rename_i hl
  split at h
  ·simp at h
  ·rename_i y st hs
   split at h
   ·simp at h
   ·rename_i hrl
    split at h
    ·simp at h
    ·rename_i hrr
     simp only [Option.some.injEq] at h
     subst h
     refine ⟨⟨rangeOf_narrow _ _ 0 hrl,rangeOf_narrow _ _ 0 hrr⟩,?_,by unfold readOf; rw [if_neg hl,hs]; simp only [hrl,hrr]⟩
     have f0:=Fit.next s 0 (Nat.zero_le _)
     unfold sentOf at hs
     cases h1:termOf s (fuelOf s) (wordAt s 0) with
     | mk o st1 =>
      rw [h1] at hs
      cases o with
      | none=>simp at hs
      | some l =>
       have e1:=termOf_size _ _ l _ f0 h1
       have f1:=(termOf_fit (fuelOf s) (wordAt s 0) f0).1
       rw [h1] at f1
       simp only at hs f1
       cases h2:signOf s st1 with
       | mk o2 st2 =>
        rw [h2] at hs
        cases o2 with
        | none=>simp at hs
        | some g =>
         have e2:Fit s st2/\st1.2.1+1<=st2.2.1:=by
          unfold signOf at h2
          have h5:=wordAt_le s st1.2.2 f1.size
          have h6:=f1.lt
          split at h2
          ·have h7:=h6 (by omega)
           cases h2; exact ⟨Fit.next s _ f1.size,by omega⟩
          ·split at h2
           ·have h7:=h6 (by omega)
            cases h2; exact ⟨Fit.next s _ f1.size,by omega⟩
           ·split at h2 <;> simp at h2
         simp only at hs
         cases h3:termOf s (fuelOf s) st2 with
         | mk o3 st3 =>
          rw [h3] at hs
          cases o3 with
          | none=>simp at hs
          | some r =>
           have e3:=termOf_size _ _ r _ e2.1 h3
           have f3:=(termOf_fit (fuelOf s) st2 e2.1).1
           rw [h3] at f3
           simp only at hs f3
           split at hs
           ·simp only [Prod.mk.injEq,Option.some.injEq] at hs
            obtain ⟨rfl,rfl⟩:=hs
            have h7:=f3.size
            have h8:=f3.le
            show sizeT _ l+sizeT _ r<=100
            omega
           ·simp at hs
section
variable {s:ByteArray} {st:Wd} {x:Snt (fuelOf s)} {k:Int} {p:Nat}
theorem readOf_long (h:200 < s.size):readOf s=(none,1,0):=by simp [readOf,h]
theorem readOf_form (h:¬ 200 < s.size) (h1:sentOf s (fuelOf s) (wordAt s 0)=(none,st)):readOf s=(none,2,st.2.1):=by simp [readOf,h,h1]
theorem readOf_left (h:¬ 200 < s.size) (h1:sentOf s (fuelOf s) (wordAt s 0)=(some x,st)) (h2:rangeOf _ x.left 0=some (k,p)):readOf s=(none,k,p):=by simp [readOf,h,h1,h2]
theorem readOf_right (h:¬ 200 < s.size) (h1:sentOf s (fuelOf s) (wordAt s 0)=(some x,st)) (h2:rangeOf _ x.left 0=none) (h3:rangeOf _ x.right 0=some (k,p)):readOf s=(none,k,p):=by simp [readOf,h,h1,h2,h3]
theorem readOf_fine (h:¬ 200 < s.size) (h1:sentOf s (fuelOf s) (wordAt s 0)=(some x,st)) (h2:rangeOf _ x.left 0=none) (h3:rangeOf _ x.right 0=none):readOf s=(some x,0,0):=by simp [readOf,h,h1,h2,h3]
end
def ReadDone (s:ByteArray) (w:World) (e:Ending) (w':World):Prop :=
 ∃ (a:ByteArray) (p:Int) (g:Option Addr) (l c:Nat) (k:Int) (a':ByteArray) (p':Int) (g':Option Addr) (l' c':Nat),
  e=.returned (.tuple #[.agg #[.string a,.int .i64 p,.slice g l c,.int .i64 k,.string a',.int .i64 p',.slice g' l' c'],.int .i64 (readOf s).2.1,.int .i64 (readOf s).2.2]) /\
  Below w.heap.size w w' /\
  ∀ x,(readOf s).1=some x->IsSnt w' (fun k=>w.heap.size<=k) (fuelOf s) (.string a,.int .i64 p,.slice g l c) k (.string a',.int .i64 p',.slice g' l' c') x
theorem Rd.new (w:World) (s:ByteArray) (t:TypeId):Rd (w.alloc (.cells #[.string s,.int .i64 0,.int .i64 0,.int .i64 0] t)) w.heap.size s 0 0 0 :=
 ⟨by simp,by simp,by simp,by simp,by simp,fun o=>by rw [frozen?_alloc_cells]; simp [World.frozen?]⟩
theorem read_any (s:ByteArray) (w:World) (hmax:s.size<=maxLen):Calls Tryz.prog 93 #[.string s] w (ReadDone s w):=by
 unfold maxLen at hmax
 by_cases hl:200 < s.size
 ·have hl':(200:Int) < (s.size:Int):=by omega
  have HE:Hid (readOf s=(none,1,0)):=readOf_long hl
  go_enter Tryz.func93,Tryz.ntmps93
  go_wp2
  refine bodyPost_ret (v:=.tuple #[.agg zero7,.int .i64 1,.int .i64 0]) (by simp [results,Tryz.results93,go_sem]) rfl ?_
  refine ⟨_,_,none,0,0,_,_,_,none,0,0,by rw [HE.out]; rfl,?_,fun x hx=>by rw [HE.out] at hx; cases hx⟩
  exact (Below.refl _ _).alloc (Nat.le_refl _) _
 ·have hl':¬ (200:Int) < (s.size:Int):=by omega
  have hrd0:=Rd.new (w.alloc (.cells zero7 101)) s 201
  have hu0:Upd [] w ((w.alloc (.cells zero7 101)).alloc (.cells #[.string s,.int .i64 0,.int .i64 0,.int .i64 0] 201)):=((Upd.refl [] w).alloc _).alloc _
  have hb0:=(Box7.new w 101).later ((Upd.refl [] _).alloc (.cells #[.string s,.int .i64 0,.int .i64 0,.int .i64 0] 201)) (by simp)
  have e1:(w.alloc (.cells zero7 101)).heap.size=w.heap.size+1:=by simp
  rw [e1] at hrd0
  go_enter Tryz.func93,Tryz.ntmps93
  go_wp2_with fail
  refine (next_any (w.heap.size+1) s _ _ _ _ hrd0 (by omega) (Nat.zero_le _)).mono ?_
  rintro e w1 ⟨rfl,hrd1,hu1⟩
  have hb1:=hb0.later hu1 (by simp)
  have hU1:Upd [] w w1:=hu0.trans' hu1 (fun x hx hlt=>by simp at hx; omega)
  have hfit1:=Fit.next s 0 (Nat.zero_le _)
  have hsz1:=hu1.size
  simp at hsz1
  clear hrd0 hu0 hb0 hu1 e1
  go_wp2_with fail
  refine (sentence_any s (fuelOf s) (w.heap.size+1) (wordAt s 0) w1 (by omega) hrd1 hfit1 (by unfold fuelOf; omega)).mono ?_
  rintro e w2 ⟨a,p,g,l,c,k,a',p',g',l',c',b,rfl,hrd2,hu2,hb,hx⟩
  have hb2:=hb1.later hu2 (by simp)
  have hU2:Upd [] w w2:=hU1.trans' hu2 (fun x hx hlt=>by simp at hx; omega)
  have hsz2:=hu2.size
  clear hrd1 hb1 hU1 hu2
  cases hres:sentOf s (fuelOf s) (wordAt s 0) with
  | mk o st =>
   rw [hres] at hrd2 hb hx
   simp only at hrd2 hb hx
   cases o with
   | none =>
    obtain rfl:b=false:=hb
    have HE:Hid (readOf s=(none,2,st.2.1)):=readOf_form hl hres
    have hu3:=(Upd.refl [] w2).alloc (.cells #[.string a,.int .i64 p,.slice g l c,.int .i64 k,.string a',.int .i64 p',.slice g' l' c'] 101)
    have hb3:=hb2.later hu3 (by simp)
    have hrd3:=hrd2.later hu3 (by simp)
    obtain ⟨d0,d1,d2,d3,d4,d5,d6⟩:=hb3.cells
    have df:=hb3.free
    obtain ⟨y0,y1,y2,y3,y4,y5⟩:=hrd3
    clear hres hx hb2 hrd2 hu3 hb3
    have hn1:w.heap.size ≠ w.heap.size+1:=by omega
    go_wp2
    go_region
    go_wp2
    refine bodyPost_ret (v:=.tuple #[.agg zero7,.int .i64 2,.int .i64 st.2.1]) (by simp [results,Tryz.results93,go_sem,d0,d1,d2,d3,d4,d5,d6]) rfl ?_
    clear d0 d1 d2 d3 d4 d5 d6 df y0 y1 y2 y3 y4 y5
    refine ⟨_,_,none,0,0,_,_,_,none,0,0,by rw [HE.out],?_,fun x hx=>by rw [HE.out] at hx; cases hx⟩
    exact ((hU2.alloc (.cells #[.string a,.int .i64 p,.slice g l c,.int .i64 k,.string a',.int .i64 p',.slice g' l' c'] 101)).trans' (upd7 _ w.heap.size _ _ _ _ _ _ _).drew (fun x hx hlt=>by simp at hx; omega)).below
   | some x =>
    obtain rfl:b=true:=hb
    obtain ⟨hxl,hxk,hxr⟩:=hx x rfl
    have hu3:Upd [] w2 ((w2.alloc (.cells #[.string a,.int .i64 p,.slice g l c,.int .i64 k,.string a',.int .i64 p',.slice g' l' c'] 101)).alloc (.cells #[.string a,.int .i64 p,.slice g l c,.string a',.int .i64 p',.slice g' l' c'] 98)):=((Upd.refl [] w2).alloc (.cells #[.string a,.int .i64 p,.slice g l c,.int .i64 k,.string a',.int .i64 p',.slice g' l' c'] 101)).alloc (.cells #[.string a,.int .i64 p,.slice g l c,.string a',.int .i64 p',.slice g' l' c'] 98)
    have HB3:Hid (Box7 ((w2.alloc (.cells #[.string a,.int .i64 p,.slice g l c,.int .i64 k,.string a',.int .i64 p',.slice g' l' c'] 101)).alloc (.cells #[.string a,.int .i64 p,.slice g l c,.string a',.int .i64 p',.slice g' l' c'] 98)) w.heap.size):=hb2.later hu3 (by simp)
    have HL3:Hid (IsTm ((w2.alloc (.cells #[.string a,.int .i64 p,.slice g l c,.int .i64 k,.string a',.int .i64 p',.slice g' l' c'] 101)).alloc (.cells #[.string a,.int .i64 p,.slice g l c,.string a',.int .i64 p',.slice g' l' c'] 98)) (fun k=>w1.heap.size<=k) (fuelOf s) (.string a,.int .i64 p,.slice g l c) x.left):=hxl.later hu3 (fun _ _=>by simp)
    have HR3:Hid (IsTm ((w2.alloc (.cells #[.string a,.int .i64 p,.slice g l c,.int .i64 k,.string a',.int .i64 p',.slice g' l' c'] 101)).alloc (.cells #[.string a,.int .i64 p,.slice g l c,.string a',.int .i64 p',.slice g' l' c'] 98)) (fun k=>w1.heap.size<=k) (fuelOf s) (.string a',.int .i64 p',.slice g' l' c') x.right):=hxr.later hu3 (fun _ _=>by simp)
    have HU3:Hid (Upd [] w ((w2.alloc (.cells #[.string a,.int .i64 p,.slice g l c,.int .i64 k,.string a',.int .i64 p',.slice g' l' c'] 101)).alloc (.cells #[.string a,.int .i64 p,.slice g l c,.string a',.int .i64 p',.slice g' l' c'] 98))):=hU2.trans hu3
    have Hres:Hid (sentOf s (fuelOf s) (wordAt s 0)=(some x,st)):=hres
    have hs3:((w2.alloc (.cells #[.string a,.int .i64 p,.slice g l c,.int .i64 k,.string a',.int .i64 p',.slice g' l' c'] 101)).alloc (.cells #[.string a,.int .i64 p,.slice g l c,.string a',.int .i64 p',.slice g' l' c'] 98)).heap.size=w2.heap.size+2:=by simp
    have Hxk:Hid (k=signInt x.eq):=hxk
    clear hx hxl hxr hxk hu3 hres hrd2 hb2 hU2
    go_wp2
    go_loopw [34] (fun i wr=>∃ q:Nat,q<=2/\i=.int .i64 q/\Hid (1<=q->rangeOf _ x.left 0=none)/\Hid (2<=q->rangeOf _ x.right 0=none)/\Hid (Below ((w2.alloc (.cells #[.string a,.int .i64 p,.slice g l c,.int .i64 k,.string a',.int .i64 p',.slice g' l' c'] 101)).alloc (.cells #[.string a,.int .i64 p,.slice g l c,.string a',.int .i64 p',.slice g' l' c'] 98)).heap.size ((w2.alloc (.cells #[.string a,.int .i64 p,.slice g l c,.int .i64 k,.string a',.int .i64 p',.slice g' l' c'] 101)).alloc (.cells #[.string a,.int .i64 p,.slice g l c,.string a',.int .i64 p',.slice g' l' c'] 98)) wr)) (fun i _=>2 - (intOf i).toNat)
    case atStart=>exact ⟨0,by omega,rfl,fun h=>by omega,fun h=>by omega,Below.refl _ _⟩
    case round =>
     obtain ⟨q,hq,rfl,H1,H2,HB⟩:=hrel
     obtain ⟨W3,HW⟩:∃ W3,W3=(w2.alloc (.cells #[.string a,.int .i64 p,.slice g l c,.int .i64 k,.string a',.int .i64 p',.slice g' l' c'] 101)).alloc (.cells #[.string a,.int .i64 p,.slice g l c,.string a',.int .i64 p',.slice g' l' c'] 98):=⟨_,rfl⟩
     have c0:=(HB.out.cell (p:=⟨w2.heap.size+1,0,none⟩) (by simp)).trans (show _=some (.string a) by go_simp)
     have c1:=(HB.out.cell (p:=⟨w2.heap.size+1,1,none⟩) (by simp)).trans (show _=some (.int .i64 p) by go_simp)
     have c2:=(HB.out.cell (p:=⟨w2.heap.size+1,2,none⟩) (by simp)).trans (show _=some (.slice g l c) by go_simp)
     have c3:=(HB.out.cell (p:=⟨w2.heap.size+1,3,none⟩) (by simp)).trans (show _=some (.string a') by go_simp)
     have c4:=(HB.out.cell (p:=⟨w2.heap.size+1,4,none⟩) (by simp)).trans (show _=some (.int .i64 p') by go_simp)
     have c5:=(HB.out.cell (p:=⟨w2.heap.size+1,5,none⟩) (by simp)).trans (show _=some (.slice g' l' c') by go_simp)
     have e0:=(HB.out.cell (p:=⟨w2.heap.size,0,none⟩) (by simp; omega)).trans (show _=some (.string a) by go_simp)
     have e1:=(HB.out.cell (p:=⟨w2.heap.size,1,none⟩) (by simp; omega)).trans (show _=some (.int .i64 p) by go_simp)
     have e2:=(HB.out.cell (p:=⟨w2.heap.size,2,none⟩) (by simp; omega)).trans (show _=some (.slice g l c) by go_simp)
     have e3:=(HB.out.cell (p:=⟨w2.heap.size,3,none⟩) (by simp; omega)).trans (show _=some (.int .i64 k) by go_simp)
     have e4:=(HB.out.cell (p:=⟨w2.heap.size,4,none⟩) (by simp; omega)).trans (show _=some (.string a') by go_simp)
     have e5:=(HB.out.cell (p:=⟨w2.heap.size,5,none⟩) (by simp; omega)).trans (show _=some (.int .i64 p') by go_simp)
     have e6:=(HB.out.cell (p:=⟨w2.heap.size,6,none⟩) (by simp; omega)).trans (show _=some (.slice g' l' c') by go_simp)
     rw [<- HW] at HB3 HL3 HR3 HU3 HB hs3
     have HW':Hid (W3=(w2.alloc (.cells #[.string a,.int .i64 p,.slice g l c,.int .i64 k,.string a',.int .i64 p',.slice g' l' c'] 101)).alloc (.cells #[.string a,.int .i64 p,.slice g l c,.string a',.int .i64 p',.slice g' l' c'] 98)):=HW
     clear HW
     have HB3u:Hid (Upd [] W3 wr):=Upd.of_below HB.out
     have HD:Hid (∀ o w4,Below (wr.alloc o).heap.size (wr.alloc o) w4->Box7 w4 w.heap.size):=fun o w4 h4=>((HB3.out.later HB3u.out (by simp)).later ((Upd.refl [] _).alloc o) (by simp)).later (Upd.of_below (L:=[]) h4) (by simp)
     match q,hq,H1,H2 with
     | 0,_,H1,H2 =>
      have HT:Hid (∀ o,IsTm (wr.alloc o) (fun k=>w1.heap.size<=k) (fuelOf s) (.string a,.int .i64 p,.slice g l c) x.left):=fun o=>HL3.out.later (HB3u.out.alloc o) (fun _ _=>by simp)

      cases hr:rangeOf _ x.left 0 with
      | none =>
       have Hr:Hid (faultOf (rangeOf _ x.left 0)=(0,0)):=by show _=_; rw [hr]; rfl
       have HN:Hid (rangeOf _ x.left 0=none):=hr
       clear hr
       go_wp2_with (go_at_call 126; refine (range_ok _ _ (fun k=>w1.heap.size<=k) (.string a,.int .i64 p,.slice g l c) x.left 0 (HT.out _) (by omega)).mono ?_; rintro e w4 ⟨rfl,hb4⟩; rw [Hr.out])
       refine ⟨⟨1,by omega,by go_num,fun _=>(by first | trivial | exact HN.out),fun h=>by omega,?_⟩,by simp [intOf]⟩
       show Below _ _ _
       rw [<- HW'.out]
       exact (HB.out.alloc HB.out.size _).trans (hb4.mono (by have:=HB.out.size; simp; omega))
      | some y =>
       obtain ⟨kf,pf⟩:=y
       have hkf:=rangeOf_kind hr
       simp only at hkf
       have hkf':(kf != 0)=true:=by simp; omega
       have HE:Hid (readOf s=(none,kf,pf)):=readOf_left hl Hres.out hr
       have Hr:Hid (faultOf (rangeOf _ x.left 0)=(kf,pf)):=by show _=_; rw [hr]; rfl
       clear hr
       go_wp2_with (go_at_call 126; refine (range_ok _ _ (fun k=>w1.heap.size<=k) (.string a,.int .i64 p,.slice g l c) x.left 0 (HT.out _) (by omega)).mono ?_; rintro e w4 ⟨rfl,hb4⟩; rw [Hr.out]; have hb5:=HD.out _ w4 hb4; obtain ⟨d0,d1,d2,d3,d4,d5,d6⟩:=hb5.cells; have df:=hb5.free)
       refine bodyPost_ret (v:=.tuple #[.agg zero7,.int .i64 kf,.int .i64 pf]) (by simp [results,Tryz.results93,go_sem,d0,d1,d2,d3,d4,d5,d6]) rfl ?_
       clear d0 d1 d2 d3 d4 d5 d6 df
       refine ⟨_,_,none,0,0,_,_,_,none,0,0,by rw [HE.out],?_,fun x hx=>by rw [HE.out] at hx; cases hx⟩
       exact ((((HU3.out.trans (HB3u.out)).alloc _).trans (Upd.of_below hb4)).trans' (upd7 _ w.heap.size _ _ _ _ _ _ _) (fun x hx hlt=>by simp at hx; omega)).below

     | 1,_,H1,H2 =>
      have HT:Hid (∀ o,IsTm (wr.alloc o) (fun k=>w1.heap.size<=k) (fuelOf s) (.string a',.int .i64 p',.slice g' l' c') x.right):=fun o=>HR3.out.later (HB3u.out.alloc o) (fun _ _=>by simp)

      cases hr:rangeOf _ x.right 0 with
      | none =>
       have Hr:Hid (faultOf (rangeOf _ x.right 0)=(0,0)):=by show _=_; rw [hr]; rfl
       have HN:Hid (rangeOf _ x.right 0=none):=hr
       clear hr
       go_wp2_with (go_at_call 126; refine (range_ok _ _ (fun k=>w1.heap.size<=k) (.string a',.int .i64 p',.slice g' l' c') x.right 0 (HT.out _) (by omega)).mono ?_; rintro e w4 ⟨rfl,hb4⟩; rw [Hr.out])
       refine ⟨⟨2,by omega,by go_num,fun _=>H1.out (by omega),fun _=>(by first | trivial | exact HN.out),?_⟩,by simp [intOf]⟩
       show Below _ _ _
       rw [<- HW'.out]
       exact (HB.out.alloc HB.out.size _).trans (hb4.mono (by have:=HB.out.size; simp; omega))
      | some y =>
       obtain ⟨kf,pf⟩:=y
       have hkf:=rangeOf_kind hr
       simp only at hkf
       have hkf':(kf != 0)=true:=by simp; omega
       have HE:Hid (readOf s=(none,kf,pf)):=readOf_right hl Hres.out (H1.out (by omega)) hr
       have Hr:Hid (faultOf (rangeOf _ x.right 0)=(kf,pf)):=by show _=_; rw [hr]; rfl
       clear hr
       go_wp2_with (go_at_call 126; refine (range_ok _ _ (fun k=>w1.heap.size<=k) (.string a',.int .i64 p',.slice g' l' c') x.right 0 (HT.out _) (by omega)).mono ?_; rintro e w4 ⟨rfl,hb4⟩; rw [Hr.out]; have hb5:=HD.out _ w4 hb4; obtain ⟨d0,d1,d2,d3,d4,d5,d6⟩:=hb5.cells; have df:=hb5.free)
       refine bodyPost_ret (v:=.tuple #[.agg zero7,.int .i64 kf,.int .i64 pf]) (by simp [results,Tryz.results93,go_sem,d0,d1,d2,d3,d4,d5,d6]) rfl ?_
       clear d0 d1 d2 d3 d4 d5 d6 df
       refine ⟨_,_,none,0,0,_,_,_,none,0,0,by rw [HE.out],?_,fun x hx=>by rw [HE.out] at hx; cases hx⟩
       exact ((((HU3.out.trans (HB3u.out)).alloc _).trans (Upd.of_below hb4)).trans' (upd7 _ w.heap.size _ _ _ _ _ _ _) (fun x hx hlt=>by simp at hx; omega)).below
     | 2,_,H1,H2 =>
      have HE:Hid (readOf s=(some x,0,0)):=readOf_fine hl Hres.out (H1.out (by omega)) (H2.out (by omega))
      have hb5:=HB3.out.later HB3u.out (by simp)
      obtain ⟨d0,d1,d2,d3,d4,d5,d6⟩:=hb5.cells
      have df:=hb5.free
      clear hb5
      go_wp2
      refine bodyPost_ret (v:=.tuple #[.agg #[.string a,.int .i64 p,.slice g l c,.int .i64 k,.string a',.int .i64 p',.slice g' l' c'],.int .i64 0,.int .i64 0]) (by simp [results,Tryz.results93,go_sem,d0,d1,d2,d3,d4,d5,d6]) rfl ?_
      clear d0 d1 d2 d3 d4 d5 d6 df c0 c1 c2 c3 c4 c5 e0 e1 e2 e3 e4 e5 e6
      have U7:=upd7 wr w.heap.size (.string a) (.int .i64 p) (.slice g l c) (.int .i64 k) (.string a') (.int .i64 p') (.slice g' l' c')
      refine ⟨_,_,_,_,_,_,_,_,_,_,_,by rw [HE.out]; rfl,?_,fun y hy=>?_⟩
      ·exact ((HU3.out.trans HB3u.out).trans' U7 (fun x hx hlt=>by simp at hx; omega)).below
      ·rw [HE.out] at hy
       obtain rfl:=Option.some.inj hy
       refine ⟨?_,Hxk.out,?_⟩
       ·exact ((HL3.out.later HB3u.out (fun _ _=>by simp)).later U7 (fun k hk hm=>by simp at hk hm; omega)).mono (fun k hk _=>by omega)
       ·exact ((HR3.out.later HB3u.out (fun _ _=>by simp)).later U7 (fun k hk hm=>by simp at hk hm; omega)).mono (fun k hk _=>by omega)
def noWS:WS:=⟨[],fun _=>none,[],fun _=>none,[],[],0,0,[]⟩
theorem noWS_fine:Fine noWS:=by
 have hI:Inv noWS:=⟨rfl,rfl,fun c hc=>(nomatch hc),fun s t h=>(nomatch h),fun s t h=>(nomatch h)⟩
 have hB:Base noWS:=⟨hI,fun i s h=>(by simp [noWS] at h),fun s i=>(by simp [noWS]),fun i hi=>(by simp [noWS] at hi),fun x hx=>(nomatch hx),fun R _ i hi=>(by simp [noWS] at hi),fun R _ k t h=>(nomatch h)⟩
 exact ⟨⟨hB,fun x hx=>(nomatch hx),fun i s h=>(by simp [noWS] at h)⟩,⟨Nat.le_refl _,Nat.le_refl _⟩⟩
structure BookAt (w:World) (bb:Nat) (Z:Nat->Prop) (S:WS):Prop where
 lt:bb < w.heap.size
 self:w.cell? ⟨bb,0,none⟩=some (.pointer (some ⟨bb,0,none⟩))
 ex:∃ wb H,w.cell? ⟨bb,1,none⟩=some (.pointer (some ⟨wb,0,none⟩))/\WebAt w wb H (fun k=>Z k/\k ≠ bb) S
 own:Z bb
 low:∀ k,Z k->k < w.heap.size
 fine:Fine S
 terms:S.shapes.length<=100
 saids:S.said.length<=40
theorem BookAt.later {w w':World} {L:List Nat} {bb:Nat} {Z:Nat->Prop} {S:WS} (h:BookAt w bb Z S) (U:Upd L w w') (hL:∀ k,Z k->k ∉ L):BookAt w' bb Z S:=by
 obtain ⟨wb,H,hc,hw⟩:=h.ex
 have hb:=hL bb h.own
 exact ⟨Nat.lt_of_lt_of_le h.lt U.size,(U.cell (p:=⟨bb,0,none⟩) h.lt hb).trans h.self,⟨wb,H,(U.cell (p:=⟨bb,1,none⟩) h.lt hb).trans hc,hw.later U (fun k hk=>hL k hk.1)⟩,h.own,fun k hk=>Nat.lt_of_lt_of_le (h.low k hk) U.size,h.fine,h.terms,h.saids⟩
def errZ:List Int:=[0,1,2,3,3,3]
def ErrTab (w:World):Prop:=0 < w.heap.size/\∀ i,i < 6->w.cell? ⟨0,i,none⟩=some (.int .i64 (errZ.getD i 0))
theorem ErrTab.later {w w':World} {L:List Nat} (h:ErrTab w) (U:Upd L w w') (hL:0 ∉ L):ErrTab w':=⟨Nat.lt_of_lt_of_le h.1 U.size,fun i hi=>(U.cell (p:=⟨0,i,none⟩) h.1 hL).trans (h.2 i hi)⟩
theorem equal_same_book (d b:Nat) (w:World):(Op.equalIn (d+1) 25 (.pointer (some ⟨b,0,none⟩)) (.pointer (some ⟨b,0,none⟩))).run Tryz.prog w=.ok true w:=by
 simp [Op.equalIn,run_underlying Tryz.underlying25,run_sameAddr_same]
theorem neq_same_book (b:Nat) (w:World):(binOp .neq 25 (.pointer (some ⟨b,0,none⟩)) (.pointer (some ⟨b,0,none⟩))).run Tryz.prog w=.ok (.bool false) w:=by
 have h:(Op.equal 25 (.pointer (some ⟨b,0,none⟩)) (.pointer (some ⟨b,0,none⟩))).run Tryz.prog w=.ok true w:=equal_same_book 9999 b w
 simp only [binOp]
 simp [h]
theorem closed_made (bb:Nat) (w:World) (h:w.cell? ⟨bb,0,none⟩=some (.pointer (some ⟨bb,0,none⟩))) :
  Calls Tryz.prog 44 #[.pointer (some ⟨bb,0,none⟩)] w fun e w'=>e=.returned (.bool false)/\w'=w:=by
 have hn:=neq_same_book bb w
 go_enter Tryz.func44,Tryz.ntmps44
 go_wp2
 go_ret
 exact ⟨rfl,rfl⟩
theorem webNew_any (w:World):Calls Tryz.prog 90 #[] w fun e w'=>∃ wb H,e=.returned (.pointer (some ⟨wb,0,none⟩))/\WebAt w' wb H (fun k=>w.heap.size<=k) noWS/\Upd [] w w':=by
 have hmm:=run_makeMap (P:=Tryz.prog) 108
 go_enter Tryz.func90,Tryz.ntmps90
 go_wp2
 go_ret
 have U:=(((Upd.refl [] w).alloc (.map #[] 0)).alloc (.map #[] 0)).alloc (.cells #[.slice none 0 0,.slice none 0 0,.slice none 0 0,.map (some w.heap.size),.slice none 0 0,.map (some (w.heap.size+1)),.slice none 0 0] 111)
 refine ⟨w.heap.size+1+1,⟨.slice none 0 0,.slice none 0 0,.slice none 0 0,.slice none 0 0,w.heap.size,w.heap.size+1,.slice none 0 0⟩,rfl,?_,U⟩
 have m1:MapIs ((w.alloc (.map #[] 0)).alloc (.map #[] 0)) (w.heap.size+1) 0 (fun _=>none):=by
  have:=MapIs.new (w.alloc (.map #[] 0))
  simpa using this
 have U3:=(Upd.refl [] ((w.alloc (.map #[] 0)).alloc (.map #[] 0))).alloc (.cells #[.slice none 0 0,.slice none 0 0,.slice none 0 0,.map (some w.heap.size),.slice none 0 0,.map (some (w.heap.size+1)),.slice none 0 0] 111)
 have hsz:((w.alloc (.map #[] 0)).alloc (.map #[] 0)).heap.size=w.heap.size+1+1:=by simp
 have hcell:=fun j=>cell_new_row (w:=(w.alloc (.map #[] 0)).alloc (.map #[] 0)) (e:=111) (j:=j) (arr:=#[.slice none 0 0,.slice none 0 0,.slice none 0 0,.map (some w.heap.size),.slice none 0 0,.map (some (w.heap.size+1)),.slice none 0 0])
 rw [hsz] at hcell
 exact {
  lt:=by simp
  free:=fun o=>(hcell o).2
  c0:=(hcell 0).1
  c1:=(hcell 2).1
  c2:=(hcell 3).1
  c3:=(hcell 4).1
  c4:=(hcell 5).1
  c5:=(hcell 6).1
  cm:=(hcell 1).1
  rs:=World.ownsRow_nil _ _ _ _
  rc:=World.ownsRow_nil _ _ _ _
  rd:=World.ownsRow_nil _ _ _ _
  rm:=World.ownsRow_nil _ _ _ _
  mn:=((MapIs.new w).later ((Upd.refl [] _).alloc (.map #[] 0)) (by simp)).later U3 (by simp)
  ma:=m1.later U3 (by simp)
  apart:=by simp [Hd.blocks,Value.ownBlock]; omega
  rb:=⟨[],World.ownsRow_nil _ _ _ _,trivial⟩
  inZ:=fun k hk=>by
   simp [Hd.blocks,Value.ownBlock] at hk
   omega }
theorem new_any (w:World):Calls Tryz.prog 49 #[] w fun e w'=>∃ bb,e=.returned (.pointer (some ⟨bb,0,none⟩))/\BookAt w' bb (fun k=>w.heap.size<=k/\k < w'.heap.size) noWS/\Upd [] w w':=by
 have HN:=hide (webNew_any w)
 go_enter Tryz.func49,Tryz.ntmps49
 go_wp2_with (go_at_call 90; refine HN.out.mono ?_; rintro e w2 ⟨wb,H,rfl,hw2,hu2⟩; have Hw2:=hide hw2; have Hu2:=hide hu2; clear hw2 hu2)
 go_ret
 have U:=Hu2.out.alloc (.cells #[.pointer (some ⟨w2.heap.size,0,none⟩),.pointer (some ⟨wb,0,none⟩)] 29)
 have s2:=Hu2.out.size
 have hcell:=fun j=>cell_new_row (w:=w2) (e:=29) (j:=j) (arr:=#[.pointer (some ⟨w2.heap.size,0,none⟩),.pointer (some ⟨wb,0,none⟩)])
 refine ⟨w2.heap.size,rfl,⟨by simp,(hcell 0).1,⟨wb,H,(hcell 1).1,?_⟩,⟨s2,by simp⟩,fun k hk=>hk.2,noWS_fine,Nat.zero_le _,Nat.zero_le _⟩,U⟩
 refine ((Hw2.out.mono (Z':=fun k=>w.heap.size<=k/\k < w2.heap.size) (fun k hk hl=>⟨hk,hl⟩)).later ((Upd.refl [] w2).alloc _) (fun _ _=>by simp)).mono (fun k hk hl=>⟨⟨hk.1,hl⟩,by have:=hk.2; omega⟩)
end Go.Proofs.YtmfkpllnmmfpiaaGreatDoor
