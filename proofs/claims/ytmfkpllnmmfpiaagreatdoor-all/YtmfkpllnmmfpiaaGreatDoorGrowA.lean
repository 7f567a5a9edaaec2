/- File, Grow -/
import Derived.Test.YtmfkpllnmmfpiaaGreatDoorLexA
import Derived.Test.YtmfkpllnmmfpiaaGreatDoorRangeA
set_option maxHeartbeats 16000000
set_option maxRecDepth 100000
namespace Go.Proofs.YtmfkpllnmmfpiaaGreatDoor
open Go.RowKit
theorem IsUn.closures {w w':World} {L:List Nat} {wb:Nat} {H H':Hd} {Z:Nat->Prop} (U:Upd L w w') (hL:∀ k ∈ L,k < w.heap.size->k ∈ H.blocks wb) (hH:∀ k ∈ H'.blocks wb,k ∈ H.blocks wb\/w.heap.size<=k)
  {v:Value} {u:Un} (hi:IsUn w wb (fun k=>Z k/\k ∉ H.blocks wb) v u):IsUn w' wb (fun k=>(Z k\/w.heap.size<=k)/\k ∉ H'.blocks wb) v u:=by
 have h1:=(hi.mono (F':=fun k=>(Z k/\k ∉ H.blocks wb)/\k < w.heap.size) fun k hk hlt=>⟨hk,hlt⟩).later U (fun k hk hm=>hk.1.2 (hL k hm hk.2))
 refine h1.mono fun k hk _=>⟨.inl hk.1.1,fun hm=>?_⟩
 rcases hH k hm with h2 | h2
 ·exact hk.1.2 h2
 ·omega
def partAt (s:Sh) (i:Nat):Nat:=if i=0 then s.2.2.1 else if i=1 then s.2.2.2.1 else s.2.2.2.2
def setPart (s:Sh) (i v:Nat):Sh:=if i=0 then (s.1,s.2.1,v,s.2.2.2.1,s.2.2.2.2) else if i=1 then (s.1,s.2.1,s.2.2.1,v,s.2.2.2.2) else (s.1,s.2.1,s.2.2.1,s.2.2.2.1,v)
def classAt (S:WS) (i:Nat):Nat:=S.classes.getD i 0
def keyTo (S:WS) (s:Sh):Nat->Sh
 | 0=>s
 | j+1=>setPart (keyTo S s j) j (classAt S (partAt s j))
def keyOfSh (S:WS) (s:Sh):Sh:=keyTo S s s.2.1
theorem keyTo_name (S:WS) (s:Sh) (j:Nat):(keyTo S s j).1=s.1/\(keyTo S s j).2.1=s.2.1:=by
 induction j with
 | zero=>exact ⟨rfl,rfl⟩
 | succ j ih =>
  unfold keyTo setPart
  repeat' split
  all_goals exact ih
theorem setPart_other {s:Sh} {i j v:Nat} (hi:i < 3) (hj:j < 3) (h:i ≠ j):partAt (setPart s i v) j=partAt s j:=by
 unfold partAt setPart
 repeat' split
 all_goals first | rfl | omega
theorem setPart_same {s:Sh} {i v:Nat}:partAt (setPart s i v) i=v:=by
 unfold partAt setPart
 repeat' split
 all_goals first | rfl | omega
theorem keyTo_later (S:WS) (s:Sh):∀ (j i:Nat),j<=i->i < 3->partAt (keyTo S s j) i=partAt s i
 | 0,_,_,_=>rfl
 | j+1,i,h,hi=>by
  unfold keyTo
  rw [setPart_other (by omega) hi (by omega)]
  exact keyTo_later S s j i (by omega) hi
def fileM (S:WS) (s:Sh) (n:Nat):Nat × WS :=
 match S.alike (keyOfSh S s) with
 | some t=>(t,S)
 | none=>(n,{ S with alike:=setF S.alike (keyOfSh S s) (some n),files:=S.files+1,trail:=S.trail++[⟨2,keyOfSh S s,0,0⟩] })
structure Fits (S:WS) (s:Sh):Prop where
 name:s.1.size<=1000
 count:s.2.1<=3
 known:∀ i,i < s.2.1->partAt s i < S.classes.length
 small:s.2.2.1<=1000000/\s.2.2.2.1<=1000000/\s.2.2.2.2<=1000000
 classes:∀ i,classAt S i<=1000000
theorem keyTo_good {S:WS} {s:Sh} (h:Fits S s) (j:Nat):GoodSh (keyTo S s j):=by
 induction j with
 | zero=>exact ⟨h.name,by have:=h.count; show s.2.1<=_; omega,h.small.1,h.small.2.1,h.small.2.2⟩
 | succ j ih =>
  obtain ⟨g0,g1,g2,g3,g4⟩:=ih
  have hc:=h.classes (partAt s j)
  unfold keyTo setPart
  repeat' split
  ·exact ⟨g0,g1,hc,g3,g4⟩
  ·exact ⟨g0,g1,g2,hc,g4⟩
  ·exact ⟨g0,g1,g2,g3,hc⟩
theorem row1_cell {w:World} {base e g len cap n:Nat} {l:List Nat} {i:Nat} (h:w.ownsRow base e 1 (.slice (some ⟨g,0,none⟩) len cap) n (intsOf l)) (hi:i < l.length):w.cell? ⟨g,i,none⟩=some (.int .i64 (l.getD i 0)):=by
 obtain ⟨_,hr⟩:=h
 rcases hr with ⟨hv,_⟩ | ⟨g',cap',cur,hv,_,hg,_,_,_,htk⟩
 ·cases hv
 ·cases hv
  have hu:(intsOf l)[i]?=some (.int .i64 (l.getD i 0)):=by
   simp [intsOf,List.getD,List.getElem?_eq_getElem hi]
  rw [cell_of_row w g i cur e (0,0) hg]
  rw [<- htk,List.getElem?_take] at hu
  split at hu
  ·simpa using hu
  ·cases hu
structure VarSh (w:World) (B:Nat) (s:Sh):Prop where
 box:BoxSh w B s
 free:∀ o,w.frozen? ⟨B,o,none⟩=false
theorem VarSh.new (w:World) (s:Sh) (t:TypeId):VarSh (w.alloc (.cells #[.string s.1,.int .i64 s.2.1,.int .i64 s.2.2.1,.int .i64 s.2.2.2.1,.int .i64 s.2.2.2.2] t)) w.heap.size s :=
 ⟨⟨by simp,by simp,by simp,by simp,by simp,by simp⟩,fun o=>by rw [frozen?_alloc_cells]; simp [World.frozen?]⟩
theorem VarSh.later {w w':World} {L:List Nat} {B:Nat} {s:Sh} (h:VarSh w B s) (hu:Upd L w w') (hB:B ∉ L):VarSh w' B s:=⟨h.box.later hu hB,fun o=>(hu.frozen (p:=⟨B,o,none⟩) h.box.1 hB).trans (h.free o)⟩
theorem VarSh.set {w:World} {B:Nat} {s:Sh} (h:VarSh w B s) (i v:Nat) (hi:i < 3) {x:Int} (hx:x=v):VarSh (w.setCell ⟨B,2+i,none⟩ (.int .i64 x)) B (setPart s i v):=by
 obtain ⟨⟨hlt,h0,h1,h2,h3,h4⟩,hf⟩:=h
 subst hx
 match i,hi with
 | 0,_=>exact ⟨⟨by simpa using hlt,by simp [setPart]; go_simp,by simp [setPart]; go_simp,by simp [setPart]; go_simp,by simp [setPart]; go_simp,by simp [setPart]; go_simp⟩,fun o=>by simpa using hf o⟩
 | 1,_=>exact ⟨⟨by simpa using hlt,by simp [setPart]; go_simp,by simp [setPart]; go_simp,by simp [setPart]; go_simp,by simp [setPart]; go_simp,by simp [setPart]; go_simp⟩,fun o=>by simpa using hf o⟩
 | 2,_=>exact ⟨⟨by simpa using hlt,by simp [setPart]; go_simp,by simp [setPart]; go_simp,by simp [setPart]; go_simp,by simp [setPart]; go_simp,by simp [setPart]; go_simp⟩,fun o=>by simpa using hf o⟩
theorem hide {p:Prop} (h:p):Hid p:=h
theorem WebAt.set_alike {w w':World} {wb:Nat} {H:Hd} {Z:Nat->Prop} {S:WS} (h:WebAt w wb H Z S) (ht:w.mapTurned w' H.ab) {f:Sh->Option Nat} {m:Nat} (hm:MapIs w' H.ab m f):WebAt w' wb H Z { S with alike:=f,files:=m }:=by
 have hA:=Hd.parts h.apart
 have U:=mapTurned_upd ht
 have hwb:wb ∉ [H.ab]:=by simp; exact hA.wa
 obtain ⟨cls,hrow,hall⟩:=h.rb
 exact {
  lt:=Nat.lt_of_lt_of_le h.lt U.size
  free:=fun o=>(U.frozen (p:=⟨wb,o,none⟩) h.lt hwb).trans (h.free o)
  c0:=(U.cell h.lt hwb).trans h.c0
  c1:=(U.cell h.lt hwb).trans h.c1
  c2:=(U.cell h.lt hwb).trans h.c2
  c3:=(U.cell h.lt hwb).trans h.c3
  c4:=(U.cell h.lt hwb).trans h.c4
  c5:=(U.cell h.lt hwb).trans h.c5
  cm:=(U.cell h.lt hwb).trans h.cm
  rs:=U.ownsRow h.rs fun k hk hm=>by simp at hm; exact (hA.s k hk).2.2.1 hm
  rc:=U.ownsRow h.rc fun k hk hm=>by simp at hm; exact (hA.c k hk).2.2.1 hm
  rd:=U.ownsRow h.rd fun k hk hm=>by simp at hm; exact (hA.d k hk).2.2.1 hm
  rm:=U.ownsRow h.rm fun k hk hm=>by simp at hm; exact (hA.m k hk).2.2.1 hm
  mn:=h.mn.later U (by simp; exact hA.na)
  ma:=hm
  apart:=h.apart
  rb:=⟨cls,U.ownsRow hrow (fun k hk hm=>by simp at hm; exact (hA.b k hk).2.2.1 hm),hall.mono fun _ _ hi=>hi.later U fun k hk hm=>hk.2 (by simp at hm; rw [hm]; exact H.mem_ab _)⟩
  inZ:=h.inZ }
structure Filing (w wr:World) (wb:Nat) (H:Hd) (Z:Nat->Prop) (S:WS) (s:Sh) (j:Nat):Prop where
 web:WebAt wr wb H Z S
 bw:wr.cell? ⟨w.heap.size,0,none⟩=some (.pointer (some ⟨wb,0,none⟩))
 var:VarSh wr (w.heap.size+1) (keyTo S s j)
 upd:Upd [] w wr
theorem BoxSh.part {w:World} {B:Nat} {s:Sh} (h:BoxSh w B s) (i:Nat) (hi:i < 3):w.cell? ⟨B,2+i,none⟩=some (.int .i64 (partAt s i)):=by
 obtain ⟨_,_,_,h2,h3,h4⟩:=h
 match i,hi with
 | 0,_=>exact h2
 | 1,_=>exact h3
 | 2,_=>exact h4
theorem file_any (w:World) (wb:Nat) (H:Hd) (Z:Nat->Prop) (S:WS) (s:Sh) (n:Nat) (h:WebAt w wb H Z S) (hs:Fits S s) (hn:n<=1000000) (hb:S.trail.length<=10000000) (hfl:S.files < maxLen) (hZ:∀ k,Z k->k < w.heap.size) :
  Calls Tryz.prog 157 #[.pointer (some ⟨wb,0,none⟩),shV s,.int .i64 n] w fun e w'=>∃ bk,e=.returned (.int .i64 (fileM S s n).1)/\WebAt w' wb { H with backs:=bk } (fun k=>Z k\/w.heap.size<=k) (fileM S s n).2/\Upd (H.blocks wb) w w'/\∀ k ∈ ({ H with backs:=bk }:Hd).blocks wb,k ∈ H.blocks wb\/w.heap.size<=k:=by
 have hcount:=hs.count
 have hstart:Filing w ((w.alloc (.cells #[.pointer (some ⟨wb,0,none⟩)] 27)).alloc (.cells #[.string s.1,.int .i64 s.2.1,.int .i64 s.2.2.1,.int .i64 s.2.2.2.1,.int .i64 s.2.2.2.2] 141)) wb H Z S s 0:=by
  have U:=((Upd.refl [] w).alloc (.cells #[.pointer (some ⟨wb,0,none⟩)] 27)).alloc (.cells #[.string s.1,.int .i64 s.2.1,.int .i64 s.2.2.1,.int .i64 s.2.2.2.1,.int .i64 s.2.2.2.2] 141)
  have hv:=VarSh.new (w.alloc (.cells #[.pointer (some ⟨wb,0,none⟩)] 27)) s 141
  have e1:(w.alloc (.cells #[.pointer (some ⟨wb,0,none⟩)] 27)).heap.size=w.heap.size+1:=by simp
  rw [e1] at hv
  exact ⟨h.later U (fun _ _=>by simp),by go_simp,hv,U⟩
 have hc31:=(hstart.var.box).2.2.1
 unfold shV
 go_enter Tryz.func157,Tryz.ntmps157
 go_wp2
 go_loopw [12] (fun i wr=>∃ j:Nat,j<=s.2.1/\i=.int .i64 j/\Hid (Filing w wr wb H Z S s j)) (fun i _=>s.2.1 - (intOf i).toNat)
 case atStart=>exact ⟨0,Nat.zero_le _,rfl,hstart⟩
 case round =>
  obtain ⟨j,hj,rfl,HF⟩:=hrel
  clear hstart hc31
  obtain ⟨web,bw,var,upd⟩:=HF.out
  by_cases hlt:j < s.2.1
  ·have hlt':(j:Int) < (s.2.1:Int):=by omega
   have hpk:=hs.known j hlt
   have hpart:=var.box.part j (by omega)
   rw [keyTo_later S s j j (Nat.le_refl _) (by omega)] at hpart
   obtain ⟨g,cap,hcl,_,_⟩:∃ g cap,H.classes=.slice (some ⟨g,0,none⟩) S.classes.length cap/\S.classes.length<=cap/\cap<=maxLen:=by
    rcases ownsRow_slice web.rc with ⟨_,h0⟩ | hh
    ·omega
    ·exact hh
   have hrc:=web.rc
   rw [hcl] at hrc
   have hcell:=row1_cell hrc hpk
   have c3:=web.c3
   rw [hcl] at c3
   have vf:=var.free
   have hj3:(j:Int) < 3:=by omega
   have hj3':j < 3:=by omega
   have hpk':(partAt s j:Int) < (S.classes.length:Int):=by omega
   have hnext:∀ x:Int,x=classAt S (partAt s j)->Filing w ((wr.setCell ⟨w.heap.size+1,2+j,none⟩ (.int .i64 x)).drew) wb H Z S s (j+1):=fun x hx=>by
    have U:=(((Upd.refl [w.heap.size+1] wr).setCell (p:=⟨w.heap.size+1,2+j,none⟩) (by simp) (.int .i64 (classAt S (partAt s j))))).drew
    subst hx
    exact ⟨web.later U (fun k hk hm=>by have:=hZ k hk; simp at hm; omega),by go_simp,(var.set j _ hj3' rfl).later ((Upd.refl [] _).drew) (by simp),(upd.trans' U (fun x hx hl=>by simp at hx; omega))⟩
   have Hnext:=hide hnext
   clear hrc hs hcount hnext
   go_wp2
   go_region
   go_wp2
   refine ⟨⟨j+1,by omega,by go_num,Hnext.out _ ?_⟩,by simp [intOf]; omega⟩
   simp [classAt,List.getD,List.getElem?_eq_getElem hpk]
  ·obtain rfl:j=s.2.1:=by omega
   have hge:¬ ((s.2.1:Nat):Int) < (s.2.1:Int):=by omega
   have hgood:=keyTo_good hs s.2.1
   have hlook:∀ nq,(Instr.lookup 108 (.map (some H.ab)) (.agg #[.string (keyTo S s s.2.1).1,.int .i64 (keyTo S s s.2.1).2.1,.int .i64 (keyTo S s s.2.1).2.2.1,.int .i64 (keyTo S s s.2.1).2.2.2.1,.int .i64 (keyTo S s s.2.1).2.2.2.2]) true).run Tryz.prog (wr.drewN nq)=.ok (.tuple #[.int .i64 ((S.alike (keyOfSh S s)).getD 0:Nat),.bool (S.alike (keyOfSh S s)).isSome]) (wr.drewN nq) :=
    fun nq=>(web.ma.later ((Upd.refl [] wr).drewN nq) (by simp)).look _ hgood
   have c4:=web.c4
   obtain ⟨v0,v1,v2,v3,v4,v5⟩:=var.box
   cases hal:S.alike (keyOfSh S s) with
   | some t =>
    rw [hal] at hlook
    simp only [Option.getD_some,Option.isSome_some] at hlook
    have HE:Hid (fileM S s n=(t,S)):=by show _=_; simp [fileM,hal]
    have HW:Hid (WebAt wr wb H (fun k=>Z k\/w.heap.size<=k) S):=web.mono fun k hk _=>.inl hk
    have HU:Hid (Upd (H.blocks wb) w wr):=upd.mono fun x hx _=>by cases hx
    clear hal HF web upd hs
    go_wp2
    go_quiet (fail)
    go_wp2
    go_ret
    exact ⟨H.backs,by rw [HE.out]; rfl,by rw [HE.out]; exact HW.out.later ((Upd.refl [] _).drewN _) (fun _ _=>by simp),HU.out.drewN _,fun k hk=>.inl hk⟩
   | none =>
    rw [hal] at hlook
    simp only [Option.getD_none,Option.isSome_none] at hlook
    have HE:Hid (fileM S s n=(n,{ S with alike:=setF S.alike (keyOfSh S s) (some n),files:=S.files+1,trail:=S.trail++[⟨2,keyOfSh S s,0,0⟩] })):=by show _=_; simp [fileM,hal]
    obtain ⟨f,hput⟩:=Classical.axiomOfChoice (fun nq=>(web.ma.later ((Upd.refl [] wr).drewN nq) (by simp)).put (keyTo S s s.2.1) hgood n hn hfl)
    have hrun:∀ nq,(Instr.mapUpdate 108 (.map (some H.ab)) (.agg #[.string (keyTo S s s.2.1).1,.int .i64 (keyTo S s s.2.1).2.1,.int .i64 (keyTo S s s.2.1).2.2.1,.int .i64 (keyTo S s s.2.1).2.2.2.1,.int .i64 (keyTo S s s.2.1).2.2.2.2]) (.int .i64 n)).run Tryz.prog (wr.drewN nq)=.ok () (f nq):=fun nq=>(hput nq).1
    have hltb:=h.mem_lt
    have hmem:∀ k,w.heap.size<=k->k ∉ H.blocks wb:=fun k hk hm=>by have:=hltb k hm; omega
    have HW:Hid (∀ nq,WebAt (f nq) wb H (fun k=>Z k\/w.heap.size<=k) { S with alike:=setF S.alike (keyOfSh S s) (some n),files:=S.files+1 }/\Upd [H.ab] wr (f nq)):=fun nq=>by
     have h1:=(web.later ((Upd.refl [] wr).drewN nq) (fun _ _=>by simp)).set_alike (hput nq).2.2 (hput nq).2.1
     exact ⟨h1.mono fun k hk _=>.inl hk,(((Upd.refl [H.ab] wr).drewN nq).trans (mapTurned_upd (hput nq).2.2))⟩
    have HB:Hid (∀ nq,Box1 (f nq) w.heap.size (.pointer (some ⟨wb,0,none⟩))/\BoxSh (f nq) (w.heap.size+1) (keyOfSh S s)):=fun nq=>by
     have U:=(HW.out nq).2
     have hab:=hltb _ (H.mem_ab wb)
     have hsz:=upd.size
     have hlt:=(World.block_lt_of_cell? _ _ bw)
     exact ⟨(show Box1 wr w.heap.size _ from ⟨hlt,bw⟩).later U (by simp; omega),var.box.later U (by simp; omega)⟩
    clear hal HF web hs hput hgood
    have HU:Hid (∀ nq,(H.blocks wb=H.blocks wb)/\IsUn (f nq) wb (fun k=>(Z k\/w.heap.size<=k)/\k ∉ H.blocks wb) (.func (.func 178) #[] #[.pointer (some ⟨w.heap.size,0,none⟩),.pointer (some ⟨w.heap.size+1,0,none⟩)]) ⟨2,keyOfSh S s,0,0⟩):=fun nq=>by
     obtain ⟨b1,b2⟩:=HB.out nq
     exact ⟨rfl,w.heap.size,⟨.inr (Nat.le_refl _),hmem _ (Nat.le_refl _)⟩,b1,.inr (.inr (.inl ⟨rfl,w.heap.size+1,⟨.inr (Nat.le_succ _),hmem _ (Nat.le_succ _)⟩,b2,rfl⟩))⟩
    have hc5:∀ nq,(f nq).cell? ⟨w.heap.size,0,none⟩=some (.pointer (some ⟨wb,0,none⟩)):=fun nq=>(HB.out nq).1.2
    go_wp2
    go_quiet (fail)
    go_wp2
    go_region
    go_wp2_with (go_at_call 153; refine (leave_any _ wb H _ _ _ ⟨2,keyOfSh S s,0,0⟩ (HW.out _).1 (HU.out _).2 hb).mono ?_; rintro e w4 ⟨bk,rfl,hw4,hu4,hH4⟩)
    go_ret
    have hU:=(upd.mono (L':=H.blocks wb) (fun x hx _=>by cases hx)).trans ((HW.out _).2.mono (fun x hx _=>by simp at hx; rw [hx]; exact H.mem_ab wb)) |>.trans hu4
    have hsz:∀ q,w.heap.size<=(f q).heap.size:=fun q=>Nat.le_trans upd.size (HW.out q).2.size
    exact ⟨_,by rw [HE.out]; rfl,by rw [HE.out]; exact hw4.mono (fun k hk _=>by rcases hk with hk | hk; exact hk; exact .inr (Nat.le_trans (hsz _) hk)),hU,fun k hk=>(hH4 k hk).imp id (fun e=>Nat.le_trans (hsz _) e)⟩
theorem info_shape:(Tryz.prog.info? 141).map (fun i=>(i.zero,i.size,i.bytes))=some (some (.agg #[.string ⟨#[]⟩,.int .i64 0,.int .i64 0,.int .i64 0,.int .i64 0]),5,48):=by kernel_rfl
theorem info_int:(Tryz.prog.info? 3).map (fun i=>(i.zero,i.size,i.bytes))=some (some (.int .i64 0),1,8):=by kernel_rfl
theorem flatSh_append (a b:List Sh):flatSh (a++b)=flatSh a++flatSh b:=by
 induction a with
 | nil=>rfl
 | cons c cs ih=>simp [flatSh,ih]
theorem intsOf_append (a b:List Nat):intsOf (a++b)=intsOf a++intsOf b:=by simp [intsOf]
theorem WebAt.grow_shapes {w w1 w2:World} {wb g cap:Nat} {H:Hd} {Z:Nat->Prop} {S:WS} {x:Sh} (h:WebAt w wb H Z S)
  (hu1:Upd [] w w1) (hgrow:w1.grownBy w2 H.shapes.ownBlock) (hat:H.shapes.ownBlock=some g\/g=w1.heap.size)
  (hown:w2.ownsRow 0 141 5 (.slice (some ⟨g,0,none⟩) (S.shapes.length+1) cap) (S.shapes.length+1) (flatSh S.shapes++flatSh [x])) :
  WebAt (w2.setCell ⟨wb,2,none⟩ (.slice (some ⟨g,0,none⟩) (S.shapes.length+1) cap)) wb { H with shapes:=.slice (some ⟨g,0,none⟩) (S.shapes.length+1) cap } (fun k=>Z k\/w.heap.size<=k) { S with shapes:=S.shapes++[x] } /\
   Upd (H.blocks wb) w (w2.setCell ⟨wb,2,none⟩ (.slice (some ⟨g,0,none⟩) (S.shapes.length+1) cap)):=by
 have hA:=Hd.parts h.apart
 have hsz1:=hu1.size
 have U2:Upd H.shapes.ownBlock.toList w w2:=(hu1.mono (fun x hx _=>by cases hx)).trans (Upd.of_grown hgrow)
 have hwb2:wb ∉ H.shapes.ownBlock.toList:=fun hm=>(hA.s wb (by simpa using hm)).1 rfl
 have c1:w2.cell? ⟨wb,2,none⟩=some H.shapes:=(U2.cell h.lt hwb2).trans h.c1
 have U:Upd (wb :: H.shapes.ownBlock.toList) w (w2.setCell ⟨wb,2,none⟩ (.slice (some ⟨g,0,none⟩) (S.shapes.length+1) cap)):=(U2.mono (fun x hx _=>by simp at hx ⊢; exact .inr hx)).setCell (by simp) _
 have hsub:∀ k,k ∈ wb :: H.shapes.ownBlock.toList->k ∈ H.blocks wb:=fun k hk=>by
  simp at hk
  rcases hk with rfl | hk
  ·exact H.mem_wb _
  ·exact Hd.mem_shapes hk
 have hgf:H.shapes.ownBlock=some g\/w.heap.size<=g:=hat.imp id (fun e=>by omega)
 have hgn:H.shapes.ownBlock=some g\/g ∉ H.blocks wb:=hgf.imp id (fun e hm=>by have:=h.mem_lt g hm; omega)
 have hgw:g ≠ wb:=fun e=>by
  subst e
  rcases hgf with hg | hg
  ·exact (hA.s g hg).1 rfl
  ·have:=h.lt; omega
 have hH:∀ k ∈ ({ H with shapes:=.slice (some ⟨g,0,none⟩) (S.shapes.length+1) cap }:Hd).blocks wb,k ∈ H.blocks wb\/w.heap.size<=k:=fun k hk=>by
  rw [Hd.mem_iff] at hk
  rcases hk with h1 | h1 | h1 | h1 | h1 | h1 | h1 | h1
  ·exact .inl (Hd.mem_iff.2 (.inl h1))
  ·exact .inl (Hd.mem_iff.2 (.inr (.inl h1)))
  ·exact .inl (Hd.mem_iff.2 (.inr (.inr (.inl h1))))
  ·exact .inl (Hd.mem_backs h1)
  ·simp only [own_slice,Option.some.injEq] at h1
   subst h1
   exact hgf.imp (fun e=>Hd.mem_shapes e) id
  ·exact .inl (Hd.mem_classes h1)
  ·exact .inl (Hd.mem_said h1)
  ·exact .inl (Hd.mem_marks h1)
 obtain ⟨cls,hrow,hall⟩:=h.rb
 have nobacks:∀ k,H.backs.ownBlock=some k->k ∉ wb :: H.shapes.ownBlock.toList:=fun k hk hm=>by simp at hm; rcases hm with hm | hm; exact (hA.b k hk).1 hm; exact (hA.b k hk).2.2.2.1 hm
 have noclasses:∀ k,H.classes.ownBlock=some k->k ∉ wb :: H.shapes.ownBlock.toList:=fun k hk hm=>by simp at hm; rcases hm with hm | hm; exact (hA.c k hk).1 hm; exact (hA.c k hk).2.2.2.2.1 hm
 have nosaid:∀ k,H.said.ownBlock=some k->k ∉ wb :: H.shapes.ownBlock.toList:=fun k hk hm=>by simp at hm; rcases hm with hm | hm; exact (hA.d k hk).1 hm; exact (hA.d k hk).2.2.2.2.1 hm
 have nomarks:∀ k,H.marks.ownBlock=some k->k ∉ wb :: H.shapes.ownBlock.toList:=fun k hk hm=>by simp at hm; rcases hm with hm | hm; exact (hA.m k hk).1 hm; exact (hA.m k hk).2.2.2.2.1 hm
 have nonb:H.nb ∉ wb :: H.shapes.ownBlock.toList:=fun hm=>by simp at hm; rcases hm with hm | hm; exact hA.wn hm.symm; exact (hA.s _ hm).2.1 rfl
 have noab:H.ab ∉ wb :: H.shapes.ownBlock.toList:=fun hm=>by simp at hm; rcases hm with hm | hm; exact hA.wa hm.symm; exact (hA.s _ hm).2.2.1 rfl
 refine ⟨{
  lt:=Nat.lt_of_lt_of_le h.lt U.size
  free:=fun o=>by rw [World.frozen?_setCell]; exact (U2.frozen (p:=⟨wb,o,none⟩) h.lt hwb2).trans (h.free o)
  c0:=by have:=(U2.cell (p:=⟨wb,0,none⟩) h.lt hwb2).trans h.c0; go_simp
  c1:=by go_simp
  c2:=by have:=(U2.cell (p:=⟨wb,3,none⟩) h.lt hwb2).trans h.c2; go_simp
  c3:=by have:=(U2.cell (p:=⟨wb,4,none⟩) h.lt hwb2).trans h.c3; go_simp
  c4:=by have:=(U2.cell (p:=⟨wb,5,none⟩) h.lt hwb2).trans h.c4; go_simp
  c5:=by have:=(U2.cell (p:=⟨wb,6,none⟩) h.lt hwb2).trans h.c5; go_simp
  cm:=by have:=(U2.cell (p:=⟨wb,1,none⟩) h.lt hwb2).trans h.cm; go_simp
  rs:=?_
  rc:=U.ownsRow h.rc noclasses
  rd:=U.ownsRow h.rd nosaid
  rm:=U.ownsRow h.rm nomarks
  mn:=h.mn.later U nonb
  ma:=h.ma.later U noab
  apart:=Hd.apart_shapes h.apart hgn
  rb:=⟨cls,U.ownsRow hrow nobacks,hall.mono fun _ _ hi=>hi.closures U (fun k hk _=>hsub k hk) hH⟩
  inZ:=fun k hk=>(hH k hk).imp (h.inZ k) id },U.mono fun x hx _=>hsub x hx⟩
 have:=((Upd.refl [wb] w2).setCell (p:=⟨wb,2,none⟩) (by simp) (.slice (some ⟨g,0,none⟩) (S.shapes.length+1) cap)).ownsRow hown (fun k hk hm=>by simp [Value.ownBlock] at hk hm; omega)
 show World.ownsRow _ _ _ _ _ (S.shapes++[x]).length (flatSh (S.shapes++[x]))
 rw [flatSh_append]
 simpa using this
theorem WebAt.grow_classes {w w1 w2:World} {wb g cap:Nat} {H:Hd} {Z:Nat->Prop} {S:WS} {x:Nat} (h:WebAt w wb H Z S)
  (hu1:Upd [] w w1) (hgrow:w1.grownBy w2 H.classes.ownBlock) (hat:H.classes.ownBlock=some g\/g=w1.heap.size)
  (hown:w2.ownsRow 0 3 1 (.slice (some ⟨g,0,none⟩) (S.classes.length+1) cap) (S.classes.length+1) (intsOf S.classes++intsOf [x])) :
  WebAt (w2.setCell ⟨wb,4,none⟩ (.slice (some ⟨g,0,none⟩) (S.classes.length+1) cap)) wb { H with classes:=.slice (some ⟨g,0,none⟩) (S.classes.length+1) cap } (fun k=>Z k\/w.heap.size<=k) { S with classes:=S.classes++[x] } /\
   Upd (H.blocks wb) w (w2.setCell ⟨wb,4,none⟩ (.slice (some ⟨g,0,none⟩) (S.classes.length+1) cap)):=by
 have hA:=Hd.parts h.apart
 have hsz1:=hu1.size
 have U2:Upd H.classes.ownBlock.toList w w2:=(hu1.mono (fun x hx _=>by cases hx)).trans (Upd.of_grown hgrow)
 have hwb2:wb ∉ H.classes.ownBlock.toList:=fun hm=>(hA.c wb (by simpa using hm)).1 rfl
 have c3:w2.cell? ⟨wb,4,none⟩=some H.classes:=(U2.cell h.lt hwb2).trans h.c3
 have U:Upd (wb :: H.classes.ownBlock.toList) w (w2.setCell ⟨wb,4,none⟩ (.slice (some ⟨g,0,none⟩) (S.classes.length+1) cap)):=(U2.mono (fun x hx _=>by simp at hx ⊢; exact .inr hx)).setCell (by simp) _
 have hsub:∀ k,k ∈ wb :: H.classes.ownBlock.toList->k ∈ H.blocks wb:=fun k hk=>by
  simp at hk
  rcases hk with rfl | hk
  ·exact H.mem_wb _
  ·exact Hd.mem_classes hk
 have hgf:H.classes.ownBlock=some g\/w.heap.size<=g:=hat.imp id (fun e=>by omega)
 have hgn:H.classes.ownBlock=some g\/g ∉ H.blocks wb:=hgf.imp id (fun e hm=>by have:=h.mem_lt g hm; omega)
 have hgw:g ≠ wb:=fun e=>by
  subst e
  rcases hgf with hg | hg
  ·exact (hA.c g hg).1 rfl
  ·have:=h.lt; omega
 have hH:∀ k ∈ ({ H with classes:=.slice (some ⟨g,0,none⟩) (S.classes.length+1) cap }:Hd).blocks wb,k ∈ H.blocks wb\/w.heap.size<=k:=fun k hk=>by
  rw [Hd.mem_iff] at hk
  rcases hk with h1 | h1 | h1 | h1 | h1 | h1 | h1 | h1
  ·exact .inl (Hd.mem_iff.2 (.inl h1))
  ·exact .inl (Hd.mem_iff.2 (.inr (.inl h1)))
  ·exact .inl (Hd.mem_iff.2 (.inr (.inr (.inl h1))))
  ·exact .inl (Hd.mem_backs h1)
  ·exact .inl (Hd.mem_shapes h1)
  ·simp only [own_slice,Option.some.injEq] at h1
   subst h1
   exact hgf.imp (fun e=>Hd.mem_classes e) id
  ·exact .inl (Hd.mem_said h1)
  ·exact .inl (Hd.mem_marks h1)
 obtain ⟨cls,hrow,hall⟩:=h.rb
 have nobacks:∀ k,H.backs.ownBlock=some k->k ∉ wb :: H.classes.ownBlock.toList:=fun k hk hm=>by simp at hm; rcases hm with hm | hm; exact (hA.b k hk).1 hm; exact (hA.b k hk).2.2.2.2.1 hm
 have noshapes:∀ k,H.shapes.ownBlock=some k->k ∉ wb :: H.classes.ownBlock.toList:=fun k hk hm=>by simp at hm; rcases hm with hm | hm; exact (hA.s k hk).1 hm; exact (hA.s k hk).2.2.2.2.1 hm
 have nosaid:∀ k,H.said.ownBlock=some k->k ∉ wb :: H.classes.ownBlock.toList:=fun k hk hm=>by simp at hm; rcases hm with hm | hm; exact (hA.d k hk).1 hm; exact (hA.d k hk).2.2.2.2.2 hm
 have nomarks:∀ k,H.marks.ownBlock=some k->k ∉ wb :: H.classes.ownBlock.toList:=fun k hk hm=>by simp at hm; rcases hm with hm | hm; exact (hA.m k hk).1 hm; exact (hA.m k hk).2.2.2.2.2.1 hm
 have nonb:H.nb ∉ wb :: H.classes.ownBlock.toList:=fun hm=>by simp at hm; rcases hm with hm | hm; exact hA.wn hm.symm; exact (hA.c _ hm).2.1 rfl
 have noab:H.ab ∉ wb :: H.classes.ownBlock.toList:=fun hm=>by simp at hm; rcases hm with hm | hm; exact hA.wa hm.symm; exact (hA.c _ hm).2.2.1 rfl
 refine ⟨{
  lt:=Nat.lt_of_lt_of_le h.lt U.size
  free:=fun o=>by rw [World.frozen?_setCell]; exact (U2.frozen (p:=⟨wb,o,none⟩) h.lt hwb2).trans (h.free o)
  c0:=by have:=(U2.cell (p:=⟨wb,0,none⟩) h.lt hwb2).trans h.c0; go_simp
  c1:=by have:=(U2.cell (p:=⟨wb,2,none⟩) h.lt hwb2).trans h.c1; go_simp
  c2:=by have:=(U2.cell (p:=⟨wb,3,none⟩) h.lt hwb2).trans h.c2; go_simp
  c3:=by go_simp
  c4:=by have:=(U2.cell (p:=⟨wb,5,none⟩) h.lt hwb2).trans h.c4; go_simp
  c5:=by have:=(U2.cell (p:=⟨wb,6,none⟩) h.lt hwb2).trans h.c5; go_simp
  cm:=by have:=(U2.cell (p:=⟨wb,1,none⟩) h.lt hwb2).trans h.cm; go_simp
  rs:=U.ownsRow h.rs noshapes
  rc:=?_
  rd:=U.ownsRow h.rd nosaid
  rm:=U.ownsRow h.rm nomarks
  mn:=h.mn.later U nonb
  ma:=h.ma.later U noab
  apart:=Hd.apart_classes h.apart hgn
  rb:=⟨cls,U.ownsRow hrow nobacks,hall.mono fun _ _ hi=>hi.closures U (fun k hk _=>hsub k hk) hH⟩
  inZ:=fun k hk=>(hH k hk).imp (h.inZ k) id },U.mono fun x hx _=>hsub x hx⟩
 have:=((Upd.refl [wb] w2).setCell (p:=⟨wb,4,none⟩) (by simp) (.slice (some ⟨g,0,none⟩) (S.classes.length+1) cap)).ownsRow hown (fun k hk hm=>by simp [Value.ownBlock] at hk hm; omega)
 show World.ownsRow _ _ _ _ _ (S.classes++[x]).length (intsOf (S.classes++[x]))
 rw [intsOf_append]
 simpa using this
theorem WebAt.set_numbers {w w':World} {wb:Nat} {H:Hd} {Z:Nat->Prop} {S:WS} (h:WebAt w wb H Z S) (ht:w.mapTurned w' H.nb) {f:Sh->Option Nat} {m:Nat} (hm:MapIs w' H.nb m f):WebAt w' wb H Z { S with numbers:=f,nums:=m }:=by
 have hA:=Hd.parts h.apart
 have U:=mapTurned_upd ht
 have hwb:wb ∉ [H.nb]:=by simp; exact hA.wn
 obtain ⟨cls,hrow,hall⟩:=h.rb
 exact {
  lt:=Nat.lt_of_lt_of_le h.lt U.size
  free:=fun o=>(U.frozen (p:=⟨wb,o,none⟩) h.lt hwb).trans (h.free o)
  c0:=(U.cell h.lt hwb).trans h.c0
  c1:=(U.cell h.lt hwb).trans h.c1
  c2:=(U.cell h.lt hwb).trans h.c2
  c3:=(U.cell h.lt hwb).trans h.c3
  c4:=(U.cell h.lt hwb).trans h.c4
  c5:=(U.cell h.lt hwb).trans h.c5
  cm:=(U.cell h.lt hwb).trans h.cm
  rs:=U.ownsRow h.rs fun k hk hm=>by simp at hm; exact (hA.s k hk).2.1 hm
  rc:=U.ownsRow h.rc fun k hk hm=>by simp at hm; exact (hA.c k hk).2.1 hm
  rd:=U.ownsRow h.rd fun k hk hm=>by simp at hm; exact (hA.d k hk).2.1 hm
  rm:=U.ownsRow h.rm fun k hk hm=>by simp at hm; exact (hA.m k hk).2.1 hm
  mn:=hm
  ma:=h.ma.later U (by simp; exact hA.na.symm)
  apart:=h.apart
  rb:=⟨cls,U.ownsRow hrow (fun k hk hm=>by simp at hm; exact (hA.b k hk).2.1 hm),hall.mono fun _ _ hi=>hi.later U fun k hk hm=>hk.2 (by simp at hm; rw [hm]; exact H.mem_nb _)⟩
  inZ:=h.inZ }
end Go.Proofs.YtmfkpllnmmfpiaaGreatDoor
