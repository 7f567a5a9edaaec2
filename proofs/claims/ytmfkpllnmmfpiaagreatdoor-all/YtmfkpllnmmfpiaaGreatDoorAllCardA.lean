/-
  The law akinlaw.All returns true where what it reads is of bulk at most 1048576: every call, in every order, over several Books in turns, answers as the document's own Book does; every list that comes out, written full by its owner, some spare room too, each with a mark of its own, still reads so behind every later step. Conditions: the bulk of the script (the statement's own), and the row's own (the listed variable reads as the program lays it).
-/
import Derived.Test.YtmfkpllnmmfpiaaGreatDoorRowCmpA
import Derived.Test.YtmfkpllnmmfpiaaGreatDoorAllWalkA
set_option maxHeartbeats 16000000
set_option maxRecDepth 100000
namespace Go.Proofs.YtmfkpllnmmfpiaaGreatDoor
open Go.ChangeShapes Go.WideShapes Go.ChangeAt Go.RowKit
theorem bulk_pos {H:Type}:∀ d:DataW H,1<=Rows.uptoBulk d
 | .lit l=>by cases l <;> simp [Rows.uptoBulk]
 | .nil=>by simp [Rows.uptoBulk]
 | .ptr _=>by simp [Rows.uptoBulk]
 | .slice _ _=>by simp [Rows.uptoBulk]
 | .agg _=>by simp [Rows.uptoBulk]
 | .iface _ _=>by simp [Rows.uptoBulk]
 | .map _=>by simp [Rows.uptoBulk]
 | .held _=>by simp [Rows.uptoBulk]
theorem bulk_len {H:Type}:∀ l:List (DataW H),l.length<=Rows.uptoBulkAll l
 | []=>Nat.zero_le _
 | d :: r=>by
  have h1:=bulk_pos d
  have h2:=bulk_len r
  simp only [List.length_cons,Rows.uptoBulkAll]
  omega
theorem script_more {H:Type} {enc:TypeId × Value->H} {W:World} {a:Option Addr} {len cap fuel:Nat} {x:DataW H × List MemPlace} (h:DataW.trod enc Tryz.prog W 0 (fun _=>true) true fuel 22 [.slice a len cap]=some x):(∃ sc,sc.length=len/\ScriptIs W a sc/\∀ o ∈ sc,-9223372036854775808<=o.2.1/\o.2.1<=9223372036854775807)/\len<=Rows.uptoBulk x.1:=by
 have ce:Tryz.prog.cellsOf 41=3:=by kernel_rfl
 have c3:Tryz.prog.cellsOf 3=1:=by kernel_rfl
 have c9:Tryz.prog.cellsOf 9=1:=by kernel_rfl
 rcases Go.Deep.open_slice Tryz.underlying22 h with ⟨hc,_⟩ | ⟨ad,l,c,m,n,D,Pl,hc,hb,hl,hm,hmm,hxx,hx⟩
 ·simp only [List.cons.injEq,and_true,Value.slice.injEq] at hc
  obtain ⟨rfl,rfl,rfl⟩:=hc
  exact ⟨⟨[],rfl,⟨fun h=>by simp at h,fun o ho=>by cases ho⟩,fun o ho=>by cases ho⟩,Nat.zero_le _⟩
 ·simp only [List.cons.injEq,and_true,Value.slice.injEq] at hc
  obtain ⟨rfl,rfl,rfl⟩:=hc
  have each:∀ i,i < len->∃ o:Int × Int × ByteArray,W.cell? (ad.add (i * 3))=some (.int .i64 o.1)/\W.cell? (ad.add (i * 3+1))=some (.int .i64 o.2.1)/\W.cell? (ad.add (i * 3+2))=some (.string o.2.2)/\o.2.2.size<=maxLen/\-9223372036854775808<=o.2.1/\o.2.1<=9223372036854775807:=by
   intro i hi
   obtain ⟨cs',h1,h2⟩:=hx i (by rw [hmm]; simp; omega)
   rw [ce] at h1
   obtain ⟨_,hlen,hcell⟩:=World.cells?_some h1
   obtain ⟨xs,k,hk,hxy,_,hxl,hf⟩:=DataW.trod_struct Tryz.underlying41 h2
   match cs',hlen,xs,hxl with
   | [v0,v1,v2],_,[y0,y1,y2],_ =>
    have g0:=hf 0 _ rfl
    have g1:=hf 1 _ rfl
    have g2:=hf 2 _ rfl
    simp [c3,c9] at g0 g1 g2
    have e0:=hcell 0 (by omega)
    have e1:=hcell 1 (by omega)
    have e2:=hcell 2 (by omega)
    rw [Go.Deep.add_add] at e0 e1 e2
    obtain ⟨z0,q0,_⟩:=DataW.trod_int Tryz.underlying3 g0
    obtain ⟨z1,q1,_,w1⟩:=DataW.trod_int Tryz.underlying3 g1
    obtain ⟨s,q2,_,hs⟩:=DataW.trod_string Tryz.underlying9 g2
    simp only [List.cons.injEq,and_true] at q0 q1 q2
    subst q0 q1 q2
    exact ⟨(z0,z1,s),by simpa using e0,by simpa using e1,by simpa using e2,hs,bounds_i64 w1⟩
  obtain ⟨sc,hsl,hsc⟩:=choose_list (P:=fun (i:Nat) (o:Int × Int × ByteArray)=>W.cell? (ad.add (i * 3))=some (.int .i64 o.1)/\W.cell? (ad.add (i * 3+1))=some (.int .i64 o.2.1)/\W.cell? (ad.add (i * 3+2))=some (.string o.2.2)/\o.2.2.size<=maxLen/\-9223372036854775808<=o.2.1/\o.2.1<=9223372036854775807) len each
  refine ⟨⟨sc,hsl,⟨fun hp=>?_,fun o ho=>?_⟩,fun o ho=>?_⟩,?_⟩
  ·obtain ⟨b,off,spot⟩:=ad
   cases spot with
   | none =>
    obtain ⟨o,ho⟩:∃ o,sc[0]?=some o:=⟨_,List.getElem?_eq_getElem hp⟩
    have h0:=(hsc 0 o ho).1
    refine ⟨b,off,rfl,?_,fun i o ho=>?_⟩
    ·rw [Addr.add_lit] at h0
     exact World.block_lt_of_cell? _ _ h0
    ·obtain ⟨k0,k1,k2,_,_⟩:=hsc i o ho
     rw [Addr.add_lit] at k0 k1 k2
     exact ⟨k0,by rw [Nat.add_assoc]; exact k1,by rw [Nat.add_assoc]; exact k2⟩
   | some s =>
    obtain ⟨o,ho⟩:∃ o,sc[0]?=some o:=⟨_,List.getElem?_eq_getElem hp⟩
    have h2:=World.cell?_spot (hsc 0 o ho).1
    unfold Addr.add at h2
    simp at h2
  ·obtain ⟨i,hi⟩:=List.getElem?_of_mem ho
   exact (hsc i o hi).2.2.2.1
  ·obtain ⟨i,hi⟩:=List.getElem?_of_mem ho
   exact (hsc i o hi).2.2.2.2
  ·rw [hxx]
   show len<=Rows.uptoBulkAll ((List.range len).map D)+_+1
   have:=bulk_len ((List.range len).map D)
   simp at this
   omega
theorem all_met (os:Os):laidMet Tryz.prog Rows.allUptoRow.laid ((laidWorld os).forCall (fun _ _=>0) ⟨#[],#[.slice none 0 0],[]⟩).memory :=
 laidMet_of_run' 8 (by kernel_rfl) (by kernel_rfl)
theorem all_reads (os:Os) {H:Type} (enc:TypeId × Value->H):∃ places,DataW.whole enc Tryz.prog ((laidWorld os).forCall (fun _ _=>0) ⟨#[],#[.slice none 0 0],[]⟩).memory Tryz.f7.params.toList Rows.allSpec.vars false (#[.slice none 0 0]:Array Value).toList 8=some ([.nil],[],places) :=
 ⟨[],by kernel_rfl⟩
theorem all_contract (H:Type) (enc:TypeId × Value->H) (W:World) (base:Nat) (args:Array Value) (ds gs:List (DataW H)) (before:List MemPlace) (hval0:∀ (j:Nat) t v,Tryz.f7.params[j]?=some t->args[j]?=some v->Value.okWide Tryz.prog W .any base t v)
  (hW:DataW.Whole enc Tryz.prog Tryz.f7.params.toList Rows.allSpec.vars false W args.toList ds gs before) (hL:laidMetH Tryz.prog Rows.allUptoRow.laid W) (hsm:Rows.uptoSmall H (ds++gs)=true) :
  Calls Tryz.prog 7 args W fun e W'=>∃ v,e=.returned v/\Rows.allSpec.post enc Tryz.prog Tryz.f7 false true false false W args v W':=by
 have hval:∀ (j:Nat) t v,Tryz.f7.params[j]?=some t->args[j]?=some v->Value.okWide Tryz.prog W .any base t v:=hval0
 have hW':=hW
 obtain ⟨p,q,hA0,hV,rfl,hfz,hnd⟩:=hW
 have hA:DataW.TrodAll enc Tryz.prog W 0 (fun _=>true) true Tryz.f7.params.toList args.toList ds p:=hA0
 rw [Tryz.params7] at hA hval
 obtain ⟨v0,vs0,d0,ds0,p0,q0,hargs,rfl,rfl,h0,r0⟩:=trodAll_cons hA
 obtain ⟨rfl,rfl,rfl⟩:=trodAll_nil r0
 obtain rfl:args=#[v0]:=by cases args; simp_all
 obtain ⟨rfl,rfl⟩:=trodVars_none hV
 obtain ⟨a0,len0,cap0,rfl⟩:=okWide_slice Tryz.underlying22 (hval 0 22 v0 rfl rfl)
 have k0:=h0
 have lt0:∀ x ∈ p0,x.block < W.heap.size:=by obtain ⟨m,hm⟩:=k0; exact DataW.trod_lt m _ _ _ hm
 obtain ⟨⟨sc,hsl,hsc,hft⟩,hbl⟩:(∃ sc,sc.length=len0/\ScriptIs W a0 sc/\∀ o ∈ sc,-9223372036854775808<=o.2.1/\o.2.1<=9223372036854775807)/\len0<=Rows.uptoBulk d0:=by
  obtain ⟨fuel,hf⟩:=h0
  exact script_more hf
 have hsn:len0<=2000000:=by
  unfold Rows.uptoSmall at hsm
  have:=of_decide_eq_true hsm
  simp only [List.append_nil,Rows.uptoBulkAll] at this
  omega
 clear hA0 hval0 hval
 subst hsl
 refine (all_any a0 sc cap0 W (errTab_of hL) hsc hft hsn).mono fun e W' ⟨he,hu⟩=>?_
 subst he
 have bel:=hu.below
 exact ⟨_,rfl,_,_,_,[],_,[],hW',trodAll_mk1 (shut_bool Tryz.underlying4 _),trodAll_cons_mk (Below.trod laidOut (by kernel_rfl) (of_decide_eq_true (by kernel_rfl)) k0 bel lt0) trodAll_mk0,rfl,bel.frame _,fun h=>by cases h⟩
theorem all_lifted (os:Os) (started:os.Started) (H:Type) (enc:TypeId × Value->H) (F:Stop.Interp) :
  ReturnsInHanded {} Tryz.checked os 7 .any ((Rows.OpenSpec.upto Rows.allSpec).preRow enc Tryz.prog Tryz.f7 Rows.allUptoRow.domain false Rows.allUptoRow.laid) (((Rows.OpenSpec.upto Rows.allSpec).at F).post enc Tryz.prog Tryz.f7 false true false false):=by
 obtain ⟨places,hx⟩:=all_reads os enc
 refine returnsInHanded_of_row (C:=Tryz.checked) (s:=Rows.OpenSpec.upto Rows.allSpec) own started (by kernel_rfl) Tryz.func7
  (witness_row_at (enc:=enc) (C:=Tryz.checked) false (laidWorld os) #[.slice none 0 0] rfl (by kernel_rfl) (by kernel_rfl) (by kernel_rfl)
   (OpenSpec.preRow_of_cond 8 hx (by kernel_rfl) (fun k hk=>by cases hk; rfl) (by kernel_rfl) (all_met os))) ?_
 intro W base args ds gs before hval hW _ hsm _ hL _ _
 exact all_contract H enc W base args ds gs before hval hW hL (hsm _ rfl)
theorem all_said:Rows.AllUptoSaid :=
 OpenClaim.holds_of_cond 7 Tryz.f7 rfl rfl rfl rfl rfl rfl rfl ⟨rfl,rfl,rfl,rfl,rfl⟩ rfl rfl rfl rfl rfl (by kernel_rfl) Tryz.func7 (by kernel_rfl)
  (of_decide_eq_true (by kernel_rfl)) (by unfold Func.isWrapper; first | (rw [if_pos (by decide +kernel)]; kernel_rfl) | (rw [if_neg (by decide +kernel)]; exact ⟨rfl,rfl⟩))
  (fun os started H enc _ F=>by rw [OpenClaim.pre_eq_preRow]; exact all_lifted os started H enc F)
theorem all_plain (f:FuncId) (fn:Func) (hf:Tryz.pinned.checked.prog.funcNamed "akin/akinlaw.All"=some f) (hfn:Tryz.pinned.checked.prog.funcs[f]?=some fn) :
  false=Tryz.pinned.checked.prog.looks []/\∀ (j:Nat) t,fn.params[j]?=some t->Tryz.pinned.checked.prog.wantsStandIn t=false:=by
 obtain rfl:f=7:=Option.some.inj ((show Tryz.prog.funcNamed "akin/akinlaw.All"=some 7 by kernel_rfl).symm.trans hf) |>.symm
 obtain rfl:fn=Tryz.f7:=(Option.some.inj (Tryz.func7.symm.trans hfn)).symm
 refine ⟨by kernel_rfl,fun j t ht=>?_⟩
 rw [Tryz.params7] at ht
 have hs:Tryz.pinned.checked.prog.wantsStandIn 22=false:=by kernel_rfl
 match j,ht with
 | 0,ht=>cases ht; exact hs
 | j+1,ht=>simp at ht
theorem all_card:Rows.AllUptoCardSaid :=
 Claim7.holds_tied_plain_at .later [] _ _ _ _ all_said (fun _ h=>by cases h) (by kernel_rfl) (fun _ h=>by cases h) allUpto_row_tie rfl ⟨rfl,rfl⟩ (by kernel_rfl) rfl all_plain (by kernel_rfl)
#print axioms all_card
end Go.Proofs.YtmfkpllnmmfpiaaGreatDoor
