/- AllAsk, AllWalk -/
import Derived.Test.YtmfkpllnmmfpiaaGreatDoorAllStepA
set_option maxHeartbeats 16000000
set_option maxRecDepth 100000
namespace Go.Proofs.YtmfkpllnmmfpiaaGreatDoor
open Go.RowKit
theorem classes_small {S:WS} {L:List ST} (h:Both S L):(classesOf S).length<=1000/\∀ l ∈ classesOf S,l.length<=1000:=by
 have ht:=h.terms
 have hs:=sortedT_length S
 unfold classesOf listsTo
 constructor
 ·rw [List.length_map]
  have h1:=firsts_length (clsTo S (sortedT S) (sortedT S).length)
  have h2:(clsTo S (sortedT S) (sortedT S).length).length<=(sortedT S).length:=by
   unfold clsTo
   rw [List.length_map,List.length_take]
   omega
  omega
 ·intro l hl
  obtain ⟨c,_,rfl⟩:=List.mem_map.1 hl
  unfold ofClass
  rw [List.length_map]
  refine Nat.le_trans (List.length_filter_le _ _) ?_
  rw [List.length_take]
  omega
theorem WorldTold.own {w w':World} {v:Value} (h:WorldTold w w' v):∃ ao g cap xs,v=.slice ao xs.length cap/\RowsOwn w' w.heap.size ao g cap xs/\xs.length<=1000/\∀ x ∈ xs,x.1.args.length<=1000:=by
 rcases h with e | ⟨xs,hw,h1,h2⟩
 ·refine ⟨none,0,0,[],e,⟨Nat.le_refl _,⟨by unfold maxLen; omega,fun h=>absurd h (Nat.lt_irrefl _),fun h=>absurd h (Nat.lt_irrefl _),fun j hj=>by simp at hj⟩,fun h=>absurd h (Nat.lt_irrefl _),fun h=>absurd h (Nat.lt_irrefl _),fun x hx=>(by cases hx),List.Pairwise.nil,fun h=>absurd h (Nat.lt_irrefl _)⟩,by simp,fun x hx=>(by cases hx)⟩
 ·obtain ⟨g,cap,e1,e2,e3,e4,e5⟩:=hw.sl
  obtain ⟨r1,r2⟩:=hw.room g cap e1
  exact ⟨_,g,cap,xs,e1,⟨e2,⟨e3,fun _=>rfl,fun _=>e5.lt,r1⟩,fun _=>e4,fun _=>e5,hw.own,hw.apart,fun _=>r2⟩,h1,h2⟩
theorem AllSt.took {w0 w w':World} {wb base N:Nat} {V:Nat->Value} {E:Nat->List Value} {bs:List Nat} {Z:Nat->Nat->Prop} {D:Nat->Prop} (h:AllAt w0 w wb V E bs Z D) (hp:0 < w0.heap.size) (hm:1<=bs.length) (hlen:∀ f,f < 5->(E f).length<=N) (hb0:w0.heap.size<=base) (hzb:∀ i k,i < bs.length->Z i k->k < base) (hdb:∀ k,D k->k < base) (hT:TookAll w w' wb V E base):AllSt w0 w' wb (N+6000) 1:=by
 obtain ⟨V',E',BL,h1,h2,h3,h4⟩:=hT
 exact ⟨V',E',bs,Z,_,h.took hp h1 h4 h2 hb0 (fun i k hi hk hm=>by have:=hzb i k hi hk; have:=(h2 k hm).1; omega) (fun k hk hm=>by have:=hdb k hk; have:=(h2 k hm).1; omega),hm,fun f hf=>by have:=h3 f hf; have:=hlen f hf; omega⟩
theorem AllSt.one {w0 w w':World} {wb f0 N:Nat} {V V':Nat->Value} {E:Nat->List Value} {bs:List Nat} {Z:Nat->Nat->Prop} {D:Nat->Prop} {BL:List Nat} {new:List Value} (h:AllAt w0 w wb V E bs Z D) (hp:0 < w0.heap.size) (hm:1<=bs.length) (hlen:∀ f,f < 5->(E f).length<=N) (hf0:f0 ≠ 0) (hT:Took w w' wb V V' E (setW E f0 (E f0++new)) BL) (hnl:new.length=5) (hBL:∀ g ∈ BL,w0.heap.size<=g/\g < w.heap.size) (hzb:∀ i k,i < bs.length->Z i k->k ∉ BL) (hdb:∀ k,D k->k ∉ BL):AllSt w0 w' wb (N+6000) 1:=by
 refine ⟨V',_,bs,Z,_,h.took hp hT (setW_other (fun e=>hf0 e.symm)) hBL (Nat.le_refl _) hzb hdb,hm,fun f hf=>?_⟩
 have:=hlen f hf
 by_cases e:f=f0
 ·subst e
  rw [setW_same,List.length_append,hnl]
  omega
 ·rw [setW_other e]
  omega
theorem stepW_ask (kd kk:Int) (s:ByteArray) (hmax:s.size<=maxLen) (hk0:-9223372036854775808<=kk) (hk1:kk<=9223372036854775807) (h10:¬ kd=10) {w0 w:World} {wb N:Nat} (hp:0 < w0.heap.size) (h:AllSt w0 w wb N 1) (hN:N+20000<=100000000000) :
  Calls Tryz.prog 11 #[.pointer (some ⟨wb,0,none⟩),.agg #[.int .i64 kd,.int .i64 kk,.string s]] w fun e w'=>e=.returned (.bool true)/\AllSt w0 w' wb (N+6000) 1:=by
 obtain ⟨V,E,bs,Z,D,h,hm1,hlen⟩:=h
 have hA:=h.look ((Upd.refl [] w).alloc (.cells #[.int .i64 kd,.int .i64 kk,.string s] 41))
 obtain ⟨W,hW⟩:∃ W,W=w.alloc (.cells #[.int .i64 kd,.int .i64 kk,.string s] 41):=⟨_,rfl⟩
 rw [<- hW] at hA
 obtain ⟨ob,hob⟩:∃ ob,ob=w.heap.size:=⟨_,rfl⟩
 have e0:W.cell? ⟨ob,0,none⟩=some (.int .i64 kd):=by rw [hW,hob]; go_simp
 have e1:W.cell? ⟨ob,1,none⟩=some (.int .i64 kk):=by rw [hW,hob]; go_simp
 have e2:W.cell? ⟨ob,2,none⟩=some (.string s):=by rw [hW,hob]; go_simp
 obtain ⟨a0,cap0,_,q1,q2,f0⟩:=hA.wrl.form (f:=0) (by omega)
 have hE0:=hlen 0 (by omega)
 have hbl:(E 0).length=bs.length:=by rw [hA.ptrs,List.length_map]
 rw [hbl] at q1 f0 hE0
 obtain ⟨n,hn⟩:∃ n,bs.length=n:=⟨_,rfl⟩
 rw [hn] at q1 f0 hE0 hm1
 have hnI:(0:Int) < (n:Int):=by omega
 obtain ⟨pl,ph⟩:=pickW_lt (c:=kk) hnI
 obtain ⟨p,hpk⟩:∃ p:Nat,pickW kk n=(p:Int):=⟨(pickW kk n).toNat,by omega⟩
 rw [hpk] at pl ph
 have hpn:p < n:=by omega
 have HPk:Hid (∀ w',Calls Tryz.prog 31 #[.int .i64 kk,.int .i64 n] w' fun e w''=>e=.returned (.int .i64 p)/\w''=w'):=fun w'=>by
  have:=pickW_any kk n w' hk0 hk1 hnI (by omega)
  rw [hpk] at this
  exact this
 obtain ⟨x,hx⟩:∃ x,bs[p]?=some x:=⟨_,List.getElem?_eq_getElem (by omega)⟩
 obtain ⟨c0,hg0⟩:=f0 W (Upd.refl _ _)
 obtain ⟨g0,rfl,c1⟩:=hg0 p (.pointer (some ⟨x,0,none⟩)) (by rw [hA.ptrs,List.getElem?_map,hx]; rfl)
 have HAll:Hid (∀ W2,Upd [] W W2->AllAt w0 W2 wb V E bs Z D):=fun W2 hu=>hA.look hu
 have Hx:=hide hx
 have Hlen:=hide hlen
 have Hn:=hide hn
 have HW:=hide hW
 have Hob:=hide hob
 unfold maxLen at q2
 clear h hlen hA hW hob hpk hx hg0 f0 hbl hn
 go_enter Tryz.func11,Tryz.ntmps11
 have h10b:(kd == 10)=false:=by simpa using h10
 go_upto_region 1 with fail
 rw [<- HW.out,<- Hob.out]
 go_upto_region 5 with fail
 go_quiet ((go_at_call 31; exact Calls.quiet_of_same (HPk.out _)))
 obtain ⟨W2,hW2⟩:∃ W2,W2=W.drewN nq:=⟨_,rfl⟩
 have hA2:=HAll.out W2 (by rw [hW2]; exact (Upd.refl [] W).drewN nq)
 have d0:W2.cell? ⟨ob,0,none⟩=some (.int .i64 kd):=by rw [hW2]; exact e0
 have d1:W2.cell? ⟨ob,1,none⟩=some (.int .i64 kk):=by rw [hW2]; exact e1
 have d2:W2.cell? ⟨ob,2,none⟩=some (.string s):=by rw [hW2]; exact e2
 rw [<- hW2]
 have hi:p < bs.length:=by rw [Hn.out]; exact hpn
 obtain ⟨S,L,M,K,hb,hs,hm⟩:=hA2.bk p x Hx.out
 have HA2:=hide hA2
 have hs0:=hA2.upd.size
 have hZlt:Hid (∀ i k,i < bs.length->Z i k->k < W2.heap.size):=fun i k hi hk=>hA2.zlt hi hk
 have hDlt:Hid (∀ k,D k->k < W2.heap.size):=fun k hk=>(hA2.dout k hk).2.1
 have hWlt:∀ k,WrlB wb V k->k < W2.heap.size:=fun k hk=>hA2.wrl.low hk
 have hbs1:1<=bs.length:=by rw [Hn.out]; exact hm1
 clear hW2 e0 e1 e2 c0 c1 HPk HAll HW Hob hA2
 by_cases h4:kd=4
 ·subst h4
  obtain ⟨cs1,cs2⟩:=classes_small hb.both
  have HC:=hide (classesL_any W2 x (Z p) S L M hb)
  have HO:Hid (∀ (w3:World) (_:Upd [] W2 w3) (v:Value) (rs:List Value) (_:ListsAt w3 W2.heap.size v rs (classesOf S)),Calls Tryz.prog 33 #[.pointer (some ⟨wb,0,none⟩),v] w3 fun e w'=>e=.returned (.tuple #[])/\AllSt w0 w' wb (N+6000) 1):=(fun w3 hu v rs hl=>(ownLists_any w3 wb V E W2.heap.size v rs (classesOf S) (HA2.out.look hu).wrl hWlt hl cs1 cs2 (fun f hf=>by have:=Hlen.out f hf; omega)).mono fun e w' ⟨he,hT⟩=>(⟨he,AllSt.took (HA2.out.look hu) hp hbs1 Hlen.out hs0 hZlt.out hDlt.out hT⟩))
  clear hb cs1 cs2 hWlt
  go_wp2_with (first
   | (go_at_call 32; refine HC.out.mono ?_; rintro e w3 ⟨v3,rs3,rfl,hu3,hl3⟩; have HO3:=hide (HO.out w3 hu3 v3 rs3 hl3); clear hu3 hl3)
   | (go_at_call 33; refine HO3.out.mono ?_; rintro e w4 ⟨rfl,h4⟩; have H4:=hide h4; clear h4))
  go_ret
  exact ⟨rfl,H4.out⟩
 have h4b:(kd == 4)=false:=by simpa using h4
 by_cases h5:kd=5
 ·subst h5
  have hsl:(saidOf S).length<=1000:=by
   unfold saidOf
   rw [List.length_map]
   have:=hb.both.saids
   omega
  have HC:=hide (saidL_any W2 x (Z p) S L M hb)
  have HO:Hid (∀ (w3:World) (_:Upd [] W2 w3) (v:Value) (_:StrRow w3 W2.heap.size v (saidOf S)),Calls Tryz.prog 35 #[.pointer (some ⟨wb,0,none⟩),v] w3 fun e w'=>e=.returned (.tuple #[])/\AllSt w0 w' wb (N+6000) 1):=(fun w3 hu v hr=>(own_took w3 wb V E v _ W2.heap.size _ (HA2.out.look hu).wrl hr (fun k hk hw=>by have:=hWlt k hw; have:=own_ge hr hk; omega) (by omega) (by have:=Hlen.out 1 (by omega); omega)).mono fun e w' ⟨he,V',new,hnl,hT⟩=>(⟨he,AllSt.one (HA2.out.look hu) hp hbs1 Hlen.out (by omega) hT hnl (fun g hg=>by have hg':v.ownBlock=some g:=(by simpa using hg); exact ⟨Nat.le_trans hs0 (own_ge hr hg'),ownsRow_lt hr hg'⟩) (fun i k hi hk hm=>by have hg':v.ownBlock=some k:=(by simpa using hm); have:=hZlt.out i k hi hk; have:=own_ge hr hg'; omega) (fun k hk hm=>by have hg':v.ownBlock=some k:=(by simpa using hm); have:=hDlt.out k hk; have:=own_ge hr hg'; omega)⟩))
  clear hb hsl hWlt
  go_wp2_with (first
   | (go_at_call 34; refine HC.out.mono ?_; rintro e w3 ⟨v3,rfl,hu3,hl3⟩; have HO3:=hide (HO.out w3 hu3 v3 hl3); clear hu3 hl3)
   | (go_at_call 35; refine HO3.out.mono ?_; rintro e w4 ⟨rfl,h4⟩; have H4:=hide h4; clear h4))
  go_ret
  exact ⟨rfl,H4.out⟩
 have h5b:(kd == 5)=false:=by simpa using h5
 by_cases h6:kd=6
 ·subst h6
  have HC:=hide (whyL_own s hmax W2 x (Z p) S L M hb)
  have HO:Hid (∀ (w3:World) (v:Value) (_:WhyTold W2 w3 x (Z p) S L M v),Calls Tryz.prog 37 #[.pointer (some ⟨wb,0,none⟩),v] w3 fun e w'=>e=.returned (.tuple #[])/\AllSt w0 w' wb (N+6000) 1):=(fun w3 v ht=>by
   obtain ⟨Z',l,t1,t2,t3,t4,t5⟩:=ht
   have h3:=HA2.out.book hp Hx.out ⟨S,L,M,K,t1,hs,hm⟩ (fun k hk=>(t2 k hk).1) t3
   exact (ownInts_took w3 wb V E v _ W2.heap.size _ h3.wrl t4 (fun k hk hw=>by have:=hWlt k hw; have:=own_ge t4 hk; omega) (by omega) (by have:=Hlen.out 3 (by omega); omega)).mono fun e w' ⟨he,V',new,hnl,hT⟩=>(⟨he,AllSt.one h3 hp hbs1 Hlen.out (by omega) hT hnl (fun g hg=>by have hg':v.ownBlock=some g:=(by simpa using hg); exact ⟨Nat.le_trans hs0 (own_ge t4 hg'),ownsRow_lt t4 hg'⟩) (fun i k hi hk hm=>by
    have hg':v.ownBlock=some k:=(by simpa using hm)
    by_cases e:i=p
    ·subst e
     rw [setW_same] at hk
     exact (t2 k hk).2 hg'
    ·rw [setW_other e] at hk
     have:=hZlt.out i k hi hk
     have:=own_ge t4 hg'
     omega) (fun k hk hm=>by have hg':v.ownBlock=some k:=(by simpa using hm); have:=hDlt.out k hk; have:=own_ge t4 hg'; omega)⟩))
  clear hb hWlt hs hm
  go_wp2_with (first
   | (go_at_call 36; refine HC.out.mono ?_; rintro e w3 ⟨v3,rfl,ht3⟩; have HO3:=hide (HO.out w3 v3 ht3); clear ht3)
   | (go_at_call 37; refine HO3.out.mono ?_; rintro e w4 ⟨rfl,h4⟩; have H4:=hide h4; clear h4))
  go_ret
  exact ⟨rfl,H4.out⟩
 have h6b:(kd == 6)=false:=by simpa using h6
 by_cases h7:kd=7
 ·subst h7
  have HC:=hide (worldL_any W2 x (Z p) S L M hb)
  have HO:Hid (∀ (w3:World) (_:Upd [] W2 w3) (v:Value) (_:WorldTold W2 w3 v),Calls Tryz.prog 39 #[.pointer (some ⟨wb,0,none⟩),v] w3 fun e w'=>e=.returned (.tuple #[])/\AllSt w0 w' wb (N+6000) 1):=(fun w3 hu v ht=>by
   obtain ⟨ao,g,cap,xs,rfl,t1,t2,t3⟩:=ht.own
   exact (ownRows_any w3 wb V E W2.heap.size ao g cap xs (HA2.out.look hu).wrl hWlt t1 t2 t3 (fun f hf=>by have:=Hlen.out f hf; omega)).mono fun e w' ⟨he,hT⟩=>(⟨he,AllSt.took (HA2.out.look hu) hp hbs1 Hlen.out hs0 hZlt.out hDlt.out hT⟩))
  clear hb hWlt
  go_wp2_with (first
   | (go_at_call 38; refine HC.out.mono ?_; rintro e w3 ⟨v3,rfl,hu3,hl3⟩; have HO3:=hide (HO.out w3 hu3 v3 hl3); clear hu3 hl3)
   | (go_at_call 39; refine HO3.out.mono ?_; rintro e w4 ⟨rfl,h4⟩; have H4:=hide h4; clear h4))
  go_ret
  exact ⟨rfl,H4.out⟩
 have h7b:(kd == 7)=false:=by simpa using h7
 have HC:Hid (Calls Tryz.prog 23 #[.pointer (some ⟨x,0,none⟩),.agg #[.int .i64 kd,.int .i64 kk,.string s]] W2 fun e w'=>e=.returned (.bool true)/\AllSt w0 w' wb (N+6000) 1):=(stepBk kd kk s hmax h4 h5 h6 h7 ⟨S,L,M,K,hb,hs,hm⟩).mono fun e w' ⟨he,Z',b1,b2,b3⟩=>⟨he,V,E,bs,setW Z p Z',D,HA2.out.book hp Hx.out b1 b2 b3,hbs1,fun f hf=>by have:=Hlen.out f hf; omega⟩
 clear hb hWlt hs hm h4 h5 h6 h7
 go_wp2_with (go_at_call 23; refine HC.out.mono ?_; rintro e w4 ⟨rfl,h4⟩; have H4:=hide h4; clear h4)
 go_ret
 exact ⟨rfl,H4.out⟩
def nil5:Array Value:=#[.slice none 0 0,.slice none 0 0,.slice none 0 0,.slice none 0 0,.slice none 0 0]
theorem AllSt.begin_ {w:World} (hE:ErrTab w) (T:TypeId):AllSt w (w.alloc (.cells nil5 T)) w.heap.size 0 0:=by
 have U:=(Upd.refl [] w).alloc (.cells nil5 T)
 have hc:=fun j=>cell_new_row (w:=w) (arr:=nil5) (e:=T) (j:=j)
 have hw:Wrl (w.alloc (.cells nil5 T)) w.heap.size (fun _=>.slice none 0 0) (fun _=>[]):=by
  refine ⟨by simp,fun o=>(hc o).2,fun f hf=>(hc f).1.trans ?_,fun f _=>⟨rfl,.inl ⟨rfl,rfl⟩⟩,fun f f' k _ _ _ hk=>(by cases hk),fun f _ hk=>(by cases hk)⟩
  match f,hf with
  | 0,_=>rfl
  | 1,_=>rfl
  | 2,_=>rfl
  | 3,_=>rfl
  | 4,_=>rfl
 refine ⟨_,_,[],fun _ _=>False,fun _=>False,⟨hw,rfl,fun i x hx=>by simp at hx,fun i j k hi=>by simp at hi,fun i k hi=>by simp at hi,fun k hk=>hk.elim,fun f k u _ hk=>by simp at hk,fun k hk=>?_,U,hE.later U (by simp)⟩,Nat.zero_le _,fun f _=>Nat.le_refl _⟩
 rcases hk with e | ⟨f,_,e⟩
 ·omega
 ·cases e
theorem AllSt.mono {w0 w:World} {wb N N' m m':Nat} (h:AllSt w0 w wb N m) (hN:N<=N') (hm:m'<=m):AllSt w0 w wb N' m':=by
 obtain ⟨V,E,bs,Z,D,h1,h2,h3⟩:=h
 exact ⟨V,E,bs,Z,D,h1,by omega,fun f hf=>by have:=h3 f hf; omega⟩
theorem AllSt.upd {w0 w:World} {wb N m:Nat} (h:AllSt w0 w wb N m):Upd [] w0 w:=by
 obtain ⟨V,E,bs,Z,D,h1,_⟩:=h
 exact h1.upd
theorem AllSt.full {w0 w:World} {wb N m:Nat} (h:AllSt w0 w wb N m) (hN:N<=100000000000) :
  Calls Tryz.prog 13 #[.pointer (some ⟨wb,0,none⟩)] w fun e w'=>e=.returned (.bool true)/\AllSt w0 w' wb N m:=by
 obtain ⟨V,E,bs,Z,D,h1,h2,h3⟩:=h
 exact (full_any w wb V E D h1.wrl h1.ents (fun f hf=>by have:=h3 f hf; omega)).mono fun e w' ⟨he,hu⟩=>⟨he,V,E,bs,Z,D,h1.look hu,h2,h3⟩
theorem AllSt.first {w0 w:World} {wb N:Nat} (hp:0 < w0.heap.size) (h:AllSt w0 w wb N 1) (s:ByteArray) (hmax:s.size<=maxLen):∃ g x n cap,w.cell? ⟨wb,0,none⟩=some (.slice (some ⟨g,0,none⟩) n cap)/\0 < n/\n<=cap/\cap<=9223372036854775807/\w.cell? ⟨g,0,none⟩=some (.pointer (some ⟨x,0,none⟩)) /\
  Calls Tryz.prog 12 #[.pointer (some ⟨x,0,none⟩),.string s] w fun e w'=>e=.returned (.bool true)/\AllSt w0 w' wb N 1:=by
 obtain ⟨V,E,bs,Z,D,h1,h2,h3⟩:=h
 obtain ⟨x,hx⟩:∃ x,bs[0]?=some x:=⟨_,List.getElem?_eq_getElem (by omega)⟩
 obtain ⟨a0,cap0,_,q1,q2,f0⟩:=h1.wrl.form (f:=0) (by omega)
 obtain ⟨c0,hg0⟩:=f0 w (Upd.refl _ _)
 obtain ⟨g0,rfl,c1⟩:=hg0 0 (.pointer (some ⟨x,0,none⟩)) (by rw [h1.ptrs,List.getElem?_map,hx]; rfl)
 obtain ⟨S,L,M,K,hb,hs,hm⟩:=h1.bk 0 x hx
 have hbl:(E 0).length=bs.length:=by rw [h1.ptrs,List.length_map]
 unfold maxLen at q2
 refine ⟨g0,x,_,cap0,c0,by omega,q1,by omega,c1,(sayL_any s hmax w x (Z 0) S L M hb).mono fun e w' ⟨he,hl⟩=>⟨he,V,E,bs,setW Z 0 _,D,h1.book hp hx ⟨_,_,M,K,hl.1,hs.say hb.both s,hm⟩ (fun k hk=>hk.1) hl.2,h2,h3⟩⟩
theorem all_any (ao:Option Addr) (sc:List (Int × Int × ByteArray)) (cap:Nat) (w:World) (hE:ErrTab w) (hR:ScriptIs w ao sc) (hF:∀ o ∈ sc,-9223372036854775808<=o.2.1/\o.2.1<=9223372036854775807) (hsn:sc.length<=2000000) :
  Calls Tryz.prog 7 #[.slice ao sc.length cap] w fun e w'=>e=.returned (.bool true)/\Upd [] w w':=by
 have hp:=hE.1
 obtain ⟨n,hn⟩:∃ n,sc.length=n:=⟨_,rfl⟩
 have hcl:=hR.cells
 rw [hn] at hcl hsn ⊢
 have Hc:=hide hcl
 have Ht:=hide hR.texts
 have HF:=hide hF
 have Hn:=hide hn
 have HI:=hide (AllSt.begin_ hE 38)
 obtain ⟨W,hW⟩:∃ W,W=w.alloc (.cells nil5 38):=⟨_,rfl⟩
 rw [<- hW] at HI
 obtain ⟨wb,hwb⟩:∃ wb,wb=w.heap.size:=⟨_,rfl⟩
 rw [<- hwb] at HI
 unfold nil5 at hW
 have HS0:=hide (stepW_new 0 ⟨#[]⟩ hp HI.out (by omega))
 have HW:=hide hW
 have Hwb:=hide hwb
 clear hE hR hn hcl hF hW hwb
 go_enter Tryz.func7,Tryz.ntmps7
 go_upto_region 2 with fail
 rw [<- HW.out,<- Hwb.out]
 go_upto_region 3 with (go_at_call 11; refine HS0.out.mono ?_; rintro e w2 ⟨rfl,h2⟩; have H2:=hide h2; clear h2)
 obtain ⟨g,x,n0,cap0,c0,hn0,hnc,hcm,c1,hsay⟩:=H2.out.first hp ⟨#[102,40,102,40,97,41,41,32,61,32,97]⟩ (by show 11<=maxLen; unfold maxLen; omega)
 have HSay:=hide hsay
 have hn0I:(0:Int) < (n0:Int):=by omega
 clear hsay HS0 HI HW Hwb
 go_upto_region 8 with (go_at_call 12; refine HSay.out.mono ?_; rintro e w3 ⟨rfl,h3⟩; have H3:=hide h3; clear h3)
 clear HSay c0 c1 hn0 hnc hcm hn0I H2
 go_wp2_with fail
 go_loopw [6] (fun iv wr=>∃ j N:Nat,j<=n/\iv=.int .i64 j/\N<=6000+6000 * j/\Hid (AllSt w wr wb N 1)) (fun iv _=>n - (intOf iv).toNat)
 case atStart=>exact ⟨0,6000,Nat.zero_le _,rfl,by omega,H3.out.mono (by omega) (Nat.le_refl _)⟩
 case round =>
  obtain ⟨j,N,hj,rfl,hN,HA⟩:=hrel
  by_cases hjn:j < n
  ·have hjI:(j:Int) < (n:Int):=by omega
   obtain ⟨o,ho⟩:∃ o,sc[j]?=some o:=⟨_,List.getElem?_eq_getElem (by rw [Hn.out]; exact hjn)⟩
   obtain ⟨b,off,rfl,hb,hc⟩:=Hc.out (by omega)
   obtain ⟨k0,k1,k2⟩:=hc j o ho
   obtain ⟨kd,kk,s⟩:=o
   have hmx:=Ht.out _ (List.mem_of_getElem? ho)
   obtain ⟨hk0,hk1⟩:=HF.out _ (List.mem_of_getElem? ho)
   have hU:=HA.out.upd
   have q0:=(hU.cell (p:=⟨b,off+j * 3,none⟩) hb (by simp)).trans k0
   have q1:=(hU.cell (p:=⟨b,off+j * 3+1,none⟩) hb (by simp)).trans k1
   have q2:=(hU.cell (p:=⟨b,off+j * 3+2,none⟩) hb (by simp)).trans k2
   simp only at q0 q1 q2 hmx hk0 hk1
   have HS:Hid (Calls Tryz.prog 11 #[.pointer (some ⟨wb,0,none⟩),.agg #[.int .i64 kd,.int .i64 kk,.string s]] wr fun e w'=>e=.returned (.bool true)/\AllSt w w' wb (N+6000) 1):=by
    by_cases h10:kd=10
    ·subst h10
     exact stepW_new kk s hp (HA.out.mono (Nat.le_refl _) (by omega)) (by omega)
    ·exact stepW_ask kd kk s hmx hk0 hk1 h10 hp HA.out (by omega)
   have HFl:=hide (fun (w4:World) (h4:AllSt w w4 wb (N+6000) 1)=>h4.full (by omega))
   clear k0 k1 k2 hc ho hU hmx hk0 hk1
   go_wp2_with (first
    | (go_at_call 11; refine HS.out.mono ?_; rintro e w4 ⟨rfl,h4⟩; have H4:=hide h4; clear h4)
    | (go_at_call 13; refine (HFl.out w4 H4.out).mono ?_; rintro e w5 ⟨rfl,h5⟩; have H5:=hide h5; clear h5))
   exact ⟨⟨j+1,N+6000,by omega,by go_num,by omega,H5.out⟩,by simp [intOf]; omega⟩
  ·have hjI:¬ (j:Int) < (n:Int):=by omega
   go_wp2
   go_ret
   exact ⟨rfl,HA.out.upd⟩
end Go.Proofs.YtmfkpllnmmfpiaaGreatDoor
