/- RefClassWalk, LawSince, LawTell, LawStep, ScriptRow -/
import Derived.Test.YtmfkpllnmmfpiaaGreatDoorRefClassesH
import Derived.Test.YtmfkpllnmmfpiaaGreatDoorLawSaidH
import Derived.Test.YtmfkpllnmmfpiaaGreatDoorPowLawH
import Derived.ChangeOld
import Derived.Below
import Derived.ChangeArms
import Derived.Deep.Slices
namespace Go.Proofs.YtmfkpllnmmfpiaaGreatDoor
open Go.RowKit
theorem minTo_succ (T : Nat → ByteArray) (C : Nat → Nat) (i k : Nat) : minTo T C i (k + 1) = if C k = C i ∧ bLt (T k) (minTo T C i k) then T k else minTo T C i k := rfl
theorem firstsTo_succ (T : Nat → ByteArray) (C : Nat → Nat) (n i : Nat) : firstsTo T C n (i + 1) = if minTo T C i n = T i then laidR (firstsTo T C n i) (minTo T C i n) else firstsTo T C n i := rfl
theorem classTo_succ (T : Nat → ByteArray) (C : Nat → Nat) (c k : Nat) : classTo T C c (k + 1) = if C k = c then laidR (classTo T C c k) (T k) else classTo T C c k := rfl
theorem laidR_len (l : List ByteArray) (s : ByteArray) : (laidR l s).length = l.length + 1 := by
 unfold laidR
 have := congrArg List.length (List.takeWhile_append_dropWhile (p := fun x => decide (bLt x s)) (l := l))
 rw [List.length_append] at this
 simp only [List.length_append, List.length_cons]
 omega
theorem firstsTo_len (T : Nat → ByteArray) (C : Nat → Nat) (n : Nat) : ∀ i, (firstsTo T C n i).length ≤ i
 | 0 => Nat.le_refl _
 | i + 1 => by
  have := firstsTo_len T C n i
  rw [firstsTo_succ]
  split
  ·rw [laidR_len]; omega
  ·omega
theorem classTo_len (T : Nat → ByteArray) (C : Nat → Nat) (c : Nat) : ∀ i, (classTo T C c i).length ≤ i
 | 0 => Nat.le_refl _
 | i + 1 => by
  have := classTo_len T C c i
  rw [classTo_succ]
  split
  ·rw [laidR_len]; omega
  ·omega
theorem StrRow.base {w : World} {B B' : Nat} {v : Value} {l : List ByteArray} (h : StrRow w B v l) (hb : B' ≤ B) : StrRow w B' v l := ownsRow_base h fun _ hk => Nat.le_trans hb (own_geT h hk)
theorem StrRow.later {w w' : World} {B : Nat} {v : Value} {l : List ByteArray} (h : StrRow w B v l) (hu : Upd [] w w') : StrRow w' B v l := hu.ownsRow h (fun _ _ => by simp)
theorem drawnR_len {L : List ST} (hok : ∀ s ∈ L, STOK s) : (drawnR L).length = (termsR L).length := by
 obtain ⟨hT, hk⟩ := termsR_ok hok
 have := (loopR_end (L := L) hT (fun t ht => (hk t).1 ht) ((termsR L).length + 1) (eqsTo L L.length) (eqsTo_ok hok) (by have := kinds_le (termsR L).length (eqsTo L L.length); omega)).1.len
 unfold eqsTo at this
 rw [List.take_of_length_le (Nat.le_refl _)] at this
 exact this
theorem RWB.later {w0 w w' : World} {wb : Nat} {l : List Trm} {cl : List Nat} (h : RWB w0 w wb l cl) (hu : Upd [] w w') : RWB w0 w' wb l cl := by
 obtain ⟨h0, v, u, cs, hw⟩ := h
 exact ⟨h0.trans hu, v, u, cs, hw.later hu (fun _ _ => by simp) (by simp) (fun _ _ => by simp) (fun _ _ => by simp)⟩
set_option maxHeartbeats 16000000 in
set_option maxRecDepth 100000 in
theorem refClasses_any (w0 : World) (rb : Nat) (Z : Nat → Prop) (L : List ST) (M : List Nat) (h : RBAt w0 rb Z L M) (hok : ∀ x ∈ L, STOK x) (hsm : SmallL L) (hL : L.length ≤ 40) :
  Calls Tryz.prog 65 #[.pointer (some ⟨rb, 0, none⟩)] w0 fun e w' => ∃ v rs, e = .returned v ∧ Upd [] w0 w' ∧ LRead w' w0.heap.size v rs (classesR L) := by
 obtain ⟨i0, hi, hz0, hz1, hz2⟩ := info_parts info_strs
 obtain ⟨sv, cs, c0, hrow⟩ := h.said
 have HD := hide (refDrawn_any w0 L sv cs (hrow.mono fun k _ hl => hl) hok (fun s hs => by have := hsm s hs; omega) (by omega))
 have hlen := termsR_len L (fun s hs => by have := hsm s hs; omega)
 have hdl := drawnR_len hok
 obtain ⟨hT, _⟩ := termsR_ok hok
 obtain ⟨ts, hts⟩ : ∃ ts, termsR L = ts := ⟨_, rfl⟩
 obtain ⟨D, hD⟩ : ∃ D, drawnR L = D := ⟨_, rfl⟩
 have HCR : Hid (classesR L = (firstsTo (textAt ts) (clsAt D) ts.length ts.length).map fun f => classTo (textAt ts) (clsAt D) (clsAt D ((idxT f ts).getD 0)) ts.length) := by show _ = _; unfold classesR; rw [hts, hD]
 rw [hts] at HD hlen hdl hT
 rw [hD] at HD hdl
 obtain ⟨N, hN⟩ : ∃ N, ts.length = N := ⟨_, rfl⟩
 have HTx : Hid (∀ (i : Nat) (t : Trm), ts[i]? = some t → textAt ts i = t.text) := fun i t e => by unfold textAt; rw [e]
 have HTi : Hid (∀ i j, i < N → j < N → textAt ts i = textAt ts j → i = j) := fun i j hi' hj' e => by
  obtain ⟨t, ht⟩ : ∃ t, ts[i]? = some t := ⟨_, List.getElem?_eq_getElem (by rw [hN]; exact hi')⟩
  obtain ⟨u, hu⟩ : ∃ u, ts[j]? = some u := ⟨_, List.getElem?_eq_getElem (by rw [hN]; exact hj')⟩
  rw [HTx.out i t ht, HTx.out j u hu] at e
  have := text_inj (hT.ok t (List.mem_of_getElem? ht)) (hT.ok u (List.mem_of_getElem? hu)) e
  subst this
  exact nodup_at hT.nodup ht hu
 have HIx : Hid (∀ f ∈ firstsTo (textAt ts) (clsAt D) N N, ∃ i, i < N ∧ idxT f ts = some i) := fun f hf => by
  obtain ⟨j, a, b, _⟩ := ((firstsTo_is (C := clsAt D) HTi.out N (Nat.le_refl _)).2 f).1 hf
  obtain ⟨t, ht⟩ : ∃ t, ts[j]? = some t := ⟨_, List.getElem?_eq_getElem (by rw [hN]; exact a)⟩
  exact ⟨j, a, by rw [b, HTx.out j t ht]; exact (hT.idx (hT.ok t (List.mem_of_getElem? ht))).2 ht⟩
 have HN := hide hN
 rw [hN] at HCR hlen
 have Hdl := hide hdl
 have hrlt := h.lt
 clear h hrow hts hD hT hok hsm hN hdl
 go_enter Tryz.func65, Tryz.ntmps65
 go_wp2_with (go_at_call 76; refine HD.out.mono ?_; rintro e w2 ⟨wb, rfl, h2⟩; have H2 := hide h2; clear h2)
 obtain ⟨av, capv, au, capu, k0, k1, a1, a2, b1, b2, hwb, hrd⟩ := H2.out.reader Hdl.out
 rw [HN.out] at k0 k1 a1 b1 hrd
 have HK0 := hide k0
 have HK1 := hide k1
 have HRd := hide hrd
 unfold maxLen at a2 b2
 clear c0 HD k0 k1 hrd
 go_loopw [4, 5] (fun fv i wr => ∃ j : Nat, j ≤ N ∧ i = .int .i64 j ∧ Hid (Upd [] w2 wr ∧ StrRow wr w2.heap.size fv (firstsTo (textAt ts) (clsAt D) N j))) (fun _ i _ => N - (intOf i).toNat)
 case atStart => exact ⟨0, Nat.zero_le _, rfl, Upd.refl _ _, ⟨rfl, .inl ⟨rfl, rfl⟩⟩⟩
 case round =>
  obtain ⟨w3, hw3⟩ : ∃ w3, w3 = wr := ⟨_, rfl⟩
  rw [← hw3] at hrel ⊢
  clear hw3
  obtain ⟨j, hj, rfl, HJ⟩ := hrel
  have e0 := (HJ.out.1.cell (p := ⟨wb, 0, none⟩) hwb (by simp)).trans HK0.out
  by_cases hjn : j < N
  ·have hjI : (j : Int) < (N : Int) := by omega
   obtain ⟨gv, gu, rfl, rfl, gl1, gl2, hcell⟩ := HRd.out (by omega)
   obtain ⟨t, ht⟩ : ∃ t, ts[j]? = some t := ⟨_, List.getElem?_eq_getElem (by rw [HN.out]; exact hjn)⟩
   obtain ⟨tb, tl, y1, y2, y3⟩ := hcell j t ht
   have e1 := (HJ.out.1.cell (p := ⟨wb, 1, none⟩) hwb (by simp)).trans HK1.out
   have e2 := (HJ.out.1.cell (p := ⟨gv, j, none⟩) gl1 (by simp)).trans y1
   have e3 := (HJ.out.1.cell (p := ⟨gu, j, none⟩) gl2 (by simp)).trans y2
   have e4 := (HJ.out.1.cell (p := ⟨tb, 2, none⟩) tl (by simp)).trans y3
   rw [← HTx.out j t ht] at e4
   obtain ⟨Tj, hTj⟩ : ∃ Tj, textAt ts j = Tj := ⟨_, rfl⟩
   obtain ⟨Cj, hCj⟩ : ∃ Cj, clsAt D j = Cj := ⟨_, rfl⟩
   rw [hTj] at e4
   rw [hCj] at e3
   have HTj := hide hTj
   have HCj := hide hCj
   have Hcell : Hid (∀ q, q < N → ∃ ub, w3.cell? ⟨gv, q, none⟩ = some (.pointer (some ⟨ub, 0, none⟩)) ∧ w3.cell? ⟨gu, q, none⟩ = some (.int .i64 (clsAt D q)) ∧ w3.cell? ⟨ub, 2, none⟩ = some (.string (textAt ts q))) := fun q hq => by
    obtain ⟨u, hu⟩ : ∃ u, ts[q]? = some u := ⟨_, List.getElem?_eq_getElem (by rw [HN.out]; exact hq)⟩
    obtain ⟨ub, ul, x1, x2, x3⟩ := hcell q u hu
    refine ⟨ub, (HJ.out.1.cell (p := ⟨gv, q, none⟩) gl1 (by simp)).trans x1, (HJ.out.1.cell (p := ⟨gu, q, none⟩) gl2 (by simp)).trans x2, ?_⟩
    rw [HTx.out q u hu]
    exact (HJ.out.1.cell (p := ⟨ub, 2, none⟩) ul (by simp)).trans x3
   clear hcell y1 y2 y3 ht hTj hCj
   go_wp2
   go_loopw [6, 7] (fun f k wr => ∃ (q m : Nat) (X : ByteArray), q ≤ N ∧ k = .int .i64 q ∧ f = .string X ∧ wr = w3.drewN m ∧ Hid (minTo (textAt ts) (clsAt D) j q = X)) (fun _ k _ => N - (intOf k).toNat)
   case atStart => exact ⟨0, 0, Tj, Nat.zero_le _, rfl, rfl, rfl, HTj.out⟩
   case round =>
    obtain ⟨q, m, X, hq, rfl, rfl, rfl, HX⟩ := hrel
    by_cases hqn : q < N
    ·have hqI : (q : Int) < (N : Int) := by omega
     obtain ⟨ub, x1, x2, x3⟩ := Hcell.out q hqn
     obtain ⟨Tq, hTq⟩ : ∃ Tq, textAt ts q = Tq := ⟨_, rfl⟩
     obtain ⟨Cq, hCq⟩ : ∃ Cq, clsAt D q = Cq := ⟨_, rfl⟩
     rw [hTq] at x3
     rw [hCq] at x2
     have HM : Hid (minTo (textAt ts) (clsAt D) j (q + 1) = if Cq = Cj ∧ bLt Tq X then Tq else X) := by show _ = _; rw [minTo_succ, HX.out, hTq, hCq, HCj.out]
     clear hTq hCq
     by_cases hc : Cq = Cj
     ·have hc2 : (Cq : Int) = (Cj : Int) := by omega
      have hc3 : ((Cq : Int) == (Cj : Int)) = true := by simp [hc]
      have hls := less_is Tq X
      by_cases hb : bLt Tq X
      ·have hls2 : Op.bytesLess Tq.toList X.toList = true := by rw [hls]; simpa using hb
       have HM2 : Hid (minTo (textAt ts) (clsAt D) j (q + 1) = Tq) := by show _ = _; rw [HM.out, if_pos ⟨hc, hb⟩]
       clear hls hb hc
       go_wp2_with fail
       go_quiet (fail)
       go_wp2
       refine ⟨⟨q + 1, _, Tq, by omega, by simp, rfl, rfl, HM2.out⟩, ?_⟩
       simp [intOf]
       omega
      ·have hls2 : Op.bytesLess Tq.toList X.toList = false := by rw [hls]; simpa using hb
       have HM2 : Hid (minTo (textAt ts) (clsAt D) j (q + 1) = X) := by show _ = _; rw [HM.out, if_neg (fun e => hb e.2)]
       clear hls hb hc
       go_wp2_with fail
       go_quiet (fail)
       go_wp2
       refine ⟨⟨q + 1, _, X, by omega, by simp, rfl, rfl, HM2.out⟩, ?_⟩
       simp [intOf]
       omega
     ·have hc2 : ¬ (Cq : Int) = (Cj : Int) := by omega
      have hc3 : ((Cq : Int) == (Cj : Int)) = false := by simp; omega
      have HM2 : Hid (minTo (textAt ts) (clsAt D) j (q + 1) = X) := by show _ = _; rw [HM.out, if_neg (fun e => hc e.1)]
      clear hc
      go_wp2_with fail
      go_quiet (fail)
      go_wp2
      refine ⟨⟨q + 1, _, X, by omega, by simp, rfl, rfl, HM2.out⟩, ?_⟩
      simp [intOf]
      omega
    ·have hqI : ¬ (q : Int) < (N : Int) := by omega
     have hqe : q = N := by omega
     have HF : Hid (firstsTo (textAt ts) (clsAt D) N (j + 1) = if X = Tj then laidR (firstsTo (textAt ts) (clsAt D) N j) X else firstsTo (textAt ts) (clsAt D) N j) := by
      show _ = _
      have hx := HX.out
      rw [hqe] at hx
      rw [firstsTo_succ, hx, HTj.out]
     obtain ⟨hU3, hS3⟩ := HJ.out
     have hfl := firstsTo_len (textAt ts) (clsAt D) N j
     have hs3 := hU3.size
     by_cases he : X = Tj
     ·subst he
      rw [if_pos rfl] at HF
      have HLd := hide (refLaid_any (w3.drewN m) w2.heap.size _ _ X (hS3.later ((Upd.refl [] w3).drewN m)) (by omega))
      have HU3 := hide hU3
      clear hqe hU3 hS3 hfl HJ HX
      go_wp2_with (go_at_call 102; refine HLd.out.mono ?_; rintro e w4 ⟨v4, rfl, hu4, hs4⟩; have Hu4 := hide hu4; have Hs4 := hide hs4; clear hu4 hs4)
      refine ⟨⟨j + 1, by omega, by simp, (HU3.out.drewN m).trans Hu4.out, by rw [HF.out]; exact Hs4.out.base (by simpa using hs3)⟩, ?_⟩
      simp [intOf]
      omega
     ·have he2 := toList_ne he
      rw [if_neg he] at HF
      have HU3 := hide hU3
      have HS3 := hide hS3
      clear hqe hU3 hS3 hfl HJ HX he
      go_wp2
      refine ⟨⟨j + 1, by omega, by simp, HU3.out.drewN m, by rw [HF.out]; exact HS3.out.later ((Upd.refl [] w3).drewN m)⟩, ?_⟩
      simp [intOf]
      omega
  ·have hjI : ¬ (j : Int) < (N : Int) := by omega
   have hje : j = N := by omega
   obtain ⟨hU3, hS3⟩ := HJ.out
   rw [hje] at hS3
   obtain ⟨fs, hfs⟩ : ∃ fs, firstsTo (textAt ts) (clsAt D) N N = fs := ⟨_, rfl⟩
   have hfl := firstsTo_len (textAt ts) (clsAt D) N N
   rw [hfs] at hS3 HIx HCR hfl
   obtain ⟨af, capf, hfv, f1, f2, fform⟩ := strRow_form hS3
   subst hfv
   obtain ⟨nf, hnf⟩ : ∃ nf, fs.length = nf := ⟨_, rfl⟩
   rw [hnf] at f1 fform hfl ⊢
   have Hnf := hide hnf
   have HFf := hide fform
   have HU3 := hide hU3
   have hs3 := hU3.size
   have HCl : Hid ((classesR L).length = nf) := by show _ = _; rw [HCR.out, List.length_map]; exact hnf
   unfold maxLen at f2
   clear hje hU3 hS3 hfs hnf fform HJ hj
   go_wp2
   go_loopw [8, 9] (fun ov i wr => ∃ j : Nat, j ≤ nf ∧ i = .int .i64 j ∧ Hid (Upd [] w3 wr ∧ ∃ rs, LRead wr w3.heap.size ov rs ((classesR L).take j))) (fun _ i _ => nf - (intOf i).toNat)
   case atStart => exact ⟨0, Nat.zero_le _, rfl, Upd.refl _ _, [], LRead.empty _ _⟩
   case round =>
    clear e0
    obtain ⟨w4, hw4⟩ : ∃ w4, w4 = wr := ⟨_, rfl⟩
    rw [← hw4] at hrel ⊢
    clear hw4
    obtain ⟨p, hp, rfl, HP⟩ := hrel
    by_cases hpn : p < nf
    ·have hpI : (p : Int) < (nf : Int) := by omega
     obtain ⟨hU4, rs, hL4⟩ := HP.out
     have hU24 := HU3.out.trans hU4
     obtain ⟨F, hF⟩ : ∃ F, fs[p]? = some F := ⟨_, List.getElem?_eq_getElem (by rw [Hnf.out]; exact hpn)⟩
     obtain ⟨gf, rfl, gfl, hfc⟩ := HFf.out (by omega)
     have z0 := (hU4.cell (p := ⟨gf, p, none⟩) gfl (by simp)).trans (hfc p F hF)
     obtain ⟨ii, hiiN, hii⟩ := HIx.out F (List.mem_of_getElem? hF)
     have hiiI : (ii : Int) < (N : Int) := by omega
     obtain ⟨gv, gu, rfl, rfl, gl1, gl2, hcell⟩ := HRd.out (by omega)
     obtain ⟨t, ht⟩ : ∃ t, ts[ii]? = some t := ⟨_, List.getElem?_eq_getElem (by rw [HN.out]; exact hiiN)⟩
     obtain ⟨tb, tl, y1, y2, y3⟩ := hcell ii t ht
     have e1 := (hU24.cell (p := ⟨wb, 1, none⟩) hwb (by simp)).trans HK1.out
     have e3 := (hU24.cell (p := ⟨gu, ii, none⟩) gl2 (by simp)).trans y2
     obtain ⟨CF, hCF⟩ : ∃ CF, clsAt D ii = CF := ⟨_, rfl⟩
     rw [hCF] at e3
     have HI : Hid (∀ q, Calls Tryz.prog 103 #[.pointer (some ⟨wb, 0, none⟩), .string F] (w4.drewN q) fun e w' => e = .returned (.int .i64 (ii : Int)) ∧ w' = w4.drewN q) := fun q => by
      have := ((H2.out.later hU24).drewN q).index (by have := HN.out; omega) F
      rw [idxI_some hii] at this
      exact this
     have Hcell : Hid (∀ (w' : World), Upd [] w4 w' → w'.cell? ⟨wb, 0, none⟩ = some (.slice (some ⟨gv, 0, none⟩) N capv) ∧ w'.cell? ⟨wb, 1, none⟩ = some (.slice (some ⟨gu, 0, none⟩) N capu) ∧ ∀ q, q < N → ∃ ub, w'.cell? ⟨gv, q, none⟩ = some (.pointer (some ⟨ub, 0, none⟩)) ∧ w'.cell? ⟨gu, q, none⟩ = some (.int .i64 (clsAt D q)) ∧ w'.cell? ⟨ub, 2, none⟩ = some (.string (textAt ts q))) := fun w' hu' => by
      have U := hU24.trans hu'
      refine ⟨(U.cell (p := ⟨wb, 0, none⟩) hwb (by simp)).trans HK0.out, (U.cell (p := ⟨wb, 1, none⟩) hwb (by simp)).trans HK1.out, fun q hq => ?_⟩
      obtain ⟨u, hu⟩ : ∃ u, ts[q]? = some u := ⟨_, List.getElem?_eq_getElem (by rw [HN.out]; exact hq)⟩
      obtain ⟨ub, ul, x1, x2, x3⟩ := hcell q u hu
      refine ⟨ub, (U.cell (p := ⟨gv, q, none⟩) gl1 (by simp)).trans x1, (U.cell (p := ⟨gu, q, none⟩) gl2 (by simp)).trans x2, ?_⟩
      rw [HTx.out q u hu]
      exact (U.cell (p := ⟨ub, 2, none⟩) ul (by simp)).trans x3
     have HG : Hid ((classesR L)[p]? = some (classTo (textAt ts) (clsAt D) CF N)) := by
      show _ = _
      rw [HCR.out, List.getElem?_map, hF]
      simp [hii, hCF]
     have hs4 := hU4.size
     have HU4 := hide hU4
     have HL4 := hide hL4
     clear hU4 hL4 hU24 hF hfc hii hcell ht y1 y2 y3 hCF HP
     go_wp2_with fail
     go_quiet ((go_at_call 103; exact Calls.quiet_of_same (HI.out _)))
     go_wp2
     obtain ⟨w5, hw5⟩ : ∃ w5, w5 = w4.drewN nq := ⟨_, rfl⟩
     have hU5 : Upd [] w4 w5 := by rw [hw5]; exact (Upd.refl [] w4).drewN nq
     rw [← hw5]
     have HU5 := hide hU5
     have hs5 := hU5.size
     clear hw5 hU5 z0 e1 e3 HI
     go_loopw [11, 12] (fun lv k wr => ∃ q : Nat, q ≤ N ∧ k = .int .i64 q ∧ Hid (Upd [] w5 wr ∧ StrRow wr w5.heap.size lv (classTo (textAt ts) (clsAt D) CF q))) (fun _ k _ => N - (intOf k).toNat)
     case atStart => exact ⟨0, Nat.zero_le _, rfl, Upd.refl _ _, ⟨rfl, .inl ⟨rfl, rfl⟩⟩⟩
     case round =>
      obtain ⟨w6, hw6⟩ : ∃ w6, w6 = wr := ⟨_, rfl⟩
      rw [← hw6] at hrel ⊢
      clear hw6
      obtain ⟨q, hq, rfl, HQ⟩ := hrel
      obtain ⟨hU6, hS6⟩ := HQ.out
      obtain ⟨d0, d1, dq⟩ := Hcell.out w6 (HU5.out.trans hU6)
      have hs6 := hU6.size
      have hcl := classTo_len (textAt ts) (clsAt D) CF q
      by_cases hqn : q < N
      ·have hqI : (q : Int) < (N : Int) := by omega
       obtain ⟨ub, x1, x2, x3⟩ := dq q hqn
       obtain ⟨Tq, hTq⟩ : ∃ Tq, textAt ts q = Tq := ⟨_, rfl⟩
       obtain ⟨Cq, hCq⟩ : ∃ Cq, clsAt D q = Cq := ⟨_, rfl⟩
       rw [hTq] at x3
       rw [hCq] at x2
       have HM : Hid (classTo (textAt ts) (clsAt D) CF (q + 1) = if Cq = CF then laidR (classTo (textAt ts) (clsAt D) CF q) Tq else classTo (textAt ts) (clsAt D) CF q) := by show _ = _; rw [classTo_succ, hTq, hCq]
       have HU6 := hide hU6
       by_cases hc : Cq = CF
       ·have hc2 : (Cq : Int) = (CF : Int) := by omega
        have hc3 : ((Cq : Int) == (CF : Int)) = true := by simp [hc]
        have HLd := hide (refLaid_any w6 w5.heap.size _ _ Tq hS6 (by omega))
        have HM2 : Hid (classTo (textAt ts) (clsAt D) CF (q + 1) = laidR (classTo (textAt ts) (clsAt D) CF q) Tq) := by show _ = _; rw [HM.out, if_pos hc]
        clear hTq hCq hc hS6 hU6 hcl dq HQ
        go_wp2_with (go_at_call 102; refine HLd.out.mono ?_; rintro e w7 ⟨v7, rfl, hu7, hs7⟩; have Hu7 := hide hu7; have Hs7 := hide hs7; clear hu7 hs7)
        refine ⟨⟨q + 1, by omega, by simp, HU6.out.trans Hu7.out, by rw [HM2.out]; exact Hs7.out.base hs6⟩, ?_⟩
        simp [intOf]
        omega
       ·have hc2 : ¬ (Cq : Int) = (CF : Int) := by omega
        have hc3 : ((Cq : Int) == (CF : Int)) = false := by simp; omega
        have HM2 : Hid (classTo (textAt ts) (clsAt D) CF (q + 1) = classTo (textAt ts) (clsAt D) CF q) := by show _ = _; rw [HM.out, if_neg hc]
        have HS6 := hide hS6
        clear hTq hCq hc hS6 hU6 hcl dq HQ
        go_wp2
        refine ⟨⟨q + 1, by omega, by simp, HU6.out, by rw [HM2.out]; exact HS6.out⟩, ?_⟩
        simp [intOf]
        omega
      ·have hqI : ¬ (q : Int) < (N : Int) := by omega
       have hqe : q = N := by omega
       rw [hqe] at hS6
       obtain ⟨al, capl, hlv, _, _, _⟩ := strRow_form hS6
       obtain ⟨lc, hlc⟩ : ∃ lc, (classTo (textAt ts) (clsAt D) CF N).length = lc := ⟨_, rfl⟩
       rw [hlc] at hlv
       subst hlv
       have hone : Hid (∀ u ∈ [Value.slice al lc capl], u.oneCell' = true) := fun u hu' => by simp at hu'; rw [hu']; rfl
       have hL6 := (HL4.out.later HU5.out).later hU6
       have hlj : ((classesR L).take p).length = p := by rw [List.length_take, HCl.out]; omega
       have hrw := ((Upd.refl [] w6).alloc (.cells #[(Value.slice al lc capl)] 50)).ownsRow hL6.row (fun _ _ => by simp)
       rw [hlj] at hrw
       have Hrw := hide hrw
       have Hnews : Hid (∀ j u, [(Value.slice al lc capl)][j]? = some u → (w6.alloc (.cells #[(Value.slice al lc capl)] 50)).cell? ((⟨w6.heap.size, 0, none⟩ : Addr).add j) = some u) := World.news_of_block (heap_alloc_new _ _)
       have Hfin : Hid (∀ g cp w7, (w6.alloc (.cells #[(Value.slice al lc capl)] 50)).grownBy w7 u8.ownBlock → (u8.ownBlock = some g ∨ g = (w6.alloc (.cells #[(Value.slice al lc capl)] 50)).heap.size) → w7.ownsRow w3.heap.size 50 1 (.slice (some ⟨g, 0, none⟩) (p + 1) cp) (p + 1) (rs ++ [(Value.slice al lc capl)]) → Upd [] w3 w7 ∧ ∃ rs, LRead w7 w3.heap.size (.slice (some ⟨g, 0, none⟩) (p + 1) cp) rs ((classesR L).take (p + 1))) := fun g cp w7 hg hat hown => by
        refine ⟨(((HU4.out.trans HU5.out).trans hU6).alloc _).trans' (Upd.of_grown hg) (fun k hk hl => ?_), rs ++ [(Value.slice al lc capl)], ?_⟩
        ·have := own_geT hL6.row (show u8.ownBlock = some k by simpa using hk)
         omega
        ·rw [take_succ_get HG.out]
         have h7 := hL6.snoc (l := classTo (textAt ts) (clsAt D) CF N) hS6 (by omega) (fun k hk e => by
          have h1 := own_geT hS6 hk
          have h2 := ownsRow_lt HL4.out.row e
          omega) ((Upd.refl [] w6).alloc _) hg hat (by rw [hlj]; exact hown)
         rw [hlj] at h7
         exact h7
       have hlm : p + 1 ≤ maxLen := by unfold maxLen; omega
       have hlb : (p + 1) * 24 ≤ 140737488355328 := by omega
       clear hqe hS6 hU6 hlc hL6 hlj hrw dq HQ hcl
       go_wp2_with (at_builtin; go_must (refine wpList_append_lies _ rfl _ _ 33 rfl w3.heap.size 50 i0 (.slice none 0 0) 1 24 Tryz.underlying33 hi hz0 hz1 hz2 rfl (by decide) _ _ _ rfl Hrw.out ⟨w6.heap.size, 0, none⟩ 1 1 [(Value.slice al lc capl)] rfl rfl Hnews.out hone.out (by decide) hlm hlb (by simp; omega) _ rfl ?_); intro g7 cap7 w7 hown7 hgrow7 hat7 hlt7)
       have hF7 := Hfin.out g7 cap7 w7 hgrow7 hat7 hown7
       refine ⟨⟨p + 1, by omega, by simp, hF7⟩, ?_⟩
       simp [intOf]
       omega
    ·have hpI : ¬ (p : Int) < (nf : Int) := by omega
     have hpe : (classesR L).take p = classesR L := List.take_of_length_le (by rw [HCl.out]; omega)
     obtain ⟨hU4, rs, hL4⟩ := HP.out
     rw [hpe] at hL4
     have HU4 := hide hU4
     have HL4 := hide hL4
     clear hpe hU4 hL4 HP
     go_wp2
     go_ret
     have hL := HL4.out
     have h02 := H2.out.1.size
     exact ⟨_, rfl, (H2.out.1.trans HU3.out).trans HU4.out, rs, ownsRow_base hL.row fun k hk => by have := own_geT hL.row hk; omega, hL.len, fun a r l h1 h2 => (hL.all a r l h1 h2).base (by omega), hL.out⟩
end Go.Proofs.YtmfkpllnmmfpiaaGreatDoor

namespace Go.Proofs.YtmfkpllnmmfpiaaGreatDoor
open Go.RowKit
theorem BothAt.mono {w : World} {xb : Nat} {Z Z' : Nat → Prop} {S : WS} {L : List ST} {M : List Nat} (h : BothAt w xb Z S L M) (hm : ∀ k, Z k → Z' k) (hl : ∀ k, Z' k → 0 < k ∧ k < w.heap.size) : BothAt w xb Z' S L M := by
 obtain ⟨bb, rb, Zb, Zr, c0, c1, hb, hr, z1, z2⟩ := h.ex
 exact ⟨h.lt, hm _ h.own, hl, ⟨bb, rb, Zb, Zr, c0, c1, hb, hr, fun k hk => ⟨hm k (z1 k hk).1, (z1 k hk).2⟩, fun k hk => ⟨hm k (z2 k hk).1, (z2 k hk).2⟩⟩, h.err, h.both⟩
def Since (w0 w : World) (xb : Nat) (S : WS) (L : List ST) (M : List Nat) : Prop := BothAt w xb (fun k => w0.heap.size ≤ k ∧ k < w.heap.size) S L M ∧ Upd [] w0 w ∧ 0 < w0.heap.size
theorem Since.left {w0 w w' : World} {xb : Nat} {S S' : WS} {L L' : List ST} {M M' : List Nat} (h : Since w0 w xb S L M) (hl : Left w w' xb (fun k => w0.heap.size ≤ k ∧ k < w.heap.size) S' L' M') : Since w0 w' xb S' L' M' := by
 obtain ⟨_, hu, hp⟩ := h
 obtain ⟨h1, K, hK, u⟩ := hl
 have hs := hu.size
 refine ⟨h1.mono (fun k hk => ⟨?_, hk.2⟩) (fun k hk => ⟨by omega, hk.2⟩), hu.trans' u (fun k hk hlt => ?_), hp⟩
 ·rcases hk.1 with h2 | h2
  ·exact h2.1
  ·omega
 ·have := (hK k hk).1
  omega
theorem Since.look {w0 w w' : World} {xb : Nat} {S : WS} {L : List ST} {M : List Nat} (h : Since w0 w xb S L M) (hu : Upd [] w w') : Since w0 w' xb S L M := h.left (h.1.left hu)
theorem Since.say {w0 w : World} {xb : Nat} {S : WS} {L : List ST} {M : List Nat} (h : Since w0 w xb S L M) (s : ByteArray) (hmax : s.size ≤ maxLen) :
  Calls Tryz.prog 12 #[.pointer (some ⟨xb, 0, none⟩), .string s] w fun e w' => e = .returned (.bool true) ∧ Since w0 w' xb (sayOf S s).2 (sayR L s).2 M :=
 (sayL_any s hmax w xb _ S L M h.1).mono fun _ _ ⟨he, hl⟩ => ⟨he, h.left hl⟩
theorem Since.follows {w0 w : World} {xb : Nat} {S : WS} {L : List ST} {M : List Nat} (h : Since w0 w xb S L M) (s : ByteArray) (hmax : s.size ≤ maxLen) :
  Calls Tryz.prog 50 #[.pointer (some ⟨xb, 0, none⟩), .string s] w fun e w' => e = .returned (.bool true) ∧ Since w0 w' xb S L M :=
 (followsL_any s hmax w xb _ S L M h.1).mono fun _ _ ⟨he, hl⟩ => ⟨he, h.left hl⟩
theorem Since.said {w0 w : World} {xb : Nat} {S : WS} {L : List ST} {M : List Nat} (h : Since w0 w xb S L M) :
  Calls Tryz.prog 34 #[.pointer (some ⟨xb, 0, none⟩)] w fun e w' => ∃ v, e = .returned (.tuple #[v, .bool true]) ∧ Since w0 w' xb S L M :=
 (saidL_any w xb _ S L M h.1).mono fun _ _ ⟨v, he, hu, _⟩ => ⟨v, he, h.look hu⟩
theorem since_begun (w : World) (hE : ErrTab w) : Calls Tryz.prog 22 #[] w fun e w' => ∃ xb, e = .returned (.tuple #[.pointer (some ⟨xb, 0, none⟩), .bool true]) ∧ Since w w' xb noWS [] [] :=
 (begun_any w hE).mono fun _ _ ⟨xb, he, hb, hu⟩ => ⟨xb, he, hb, hu, hE.1⟩
end Go.Proofs.YtmfkpllnmmfpiaaGreatDoor

namespace Go.Proofs.YtmfkpllnmmfpiaaGreatDoor
open Go.RowKit
theorem Both.clash {S : WS} {L : List ST} (h : Both S L) : clashM S = clashR L := by
 rw [Bool.eq_iff_iff, h.holds.clash_iff, clashR_iff h.ok]
set_option maxHeartbeats 2000000 in
set_option maxRecDepth 100000 in
theorem clashL_any (w : World) (xb : Nat) (Z : Nat → Prop) (S : WS) (L : List ST) (M : List Nat) (h : BothAt w xb Z S L M) :
  Calls Tryz.prog 51 #[.pointer (some ⟨xb, 0, none⟩)] w fun e w' => e = .returned (.bool true) ∧ Upd [] w w' := by
 obtain ⟨bb, rb, Zb, Zr, c0, c1, hb, hr, z1, z2⟩ := h.ex
 obtain ⟨sv, cs, d0, hrow⟩ := hr.said
 have HS := hide (clash_any w bb Zb S hb)
 have HR := hide (fun (w1 : World) (U : Upd [] w w1) => refClash_any w1 L sv cs ((hrow.later U (fun _ _ => by simp)).mono fun k _ hl => hl) h.both.ok (fun s hs => by have := h.both.small s hs; omega) (by have := h.both.length; have := h.both.saids; omega))
 have hxlt := h.lt
 have hrlt := hr.lt
 rw [h.both.clash] at HS
 clear h hb hr z1 z2 hrow
 generalize clashR L = b at *
 go_enter Tryz.func51, Tryz.ntmps51
 go_wp2_with (first
  | (go_at_call 16; refine HS.out.mono ?_; rintro e w1 ⟨rfl, hu1⟩; have k1 := (hu1.cell (p := ⟨xb, 1, none⟩) hxlt (by simp)).trans c1; have k2 := (hu1.cell (p := ⟨rb, 0, none⟩) hrlt (by simp)).trans d0; have HR1 := hide (HR.out w1 hu1); have HU1 := hide hu1; clear hu1)
  | (go_at_call 92; refine HR1.out.mono ?_; rintro e w2 ⟨rfl, hu2⟩; have HU2 := hide hu2; clear hu2))
 go_ret
 exact ⟨by simp, HU1.out.trans HU2.out⟩
theorem rows_form {w : World} {B n : Nat} {v : Value} {rs : List Value} (h : w.ownsRow B 50 1 v n rs) (hl : rs.length = n) : ∃ a cap, v = .slice a n cap ∧ n ≤ cap ∧ cap ≤ maxLen ∧ (0 < n → ∃ g, a = some ⟨g, 0, none⟩ ∧ g < w.heap.size ∧ ∀ (i : Nat) (r : Value), rs[i]? = some r → w.cell? ⟨g, i, none⟩ = some r) := by
 rcases ownsRow_slice h with ⟨h1, h2⟩ | ⟨g, cap, h1, h2, h3⟩
 ·rw [h2]
  exact ⟨none, 0, h1, Nat.le_refl _, by simp [maxLen], fun h => absurd h (Nat.lt_irrefl _)⟩
 ·subst h1
  refine ⟨_, cap, rfl, h2, h3, fun _ => ⟨g, rfl, ownsRow_lt h rfl, fun i r hr => ?_⟩⟩
  have hi := (List.getElem?_eq_some_iff.1 hr).1
  have := h.cellAt i (by omega)
  rw [this, hr]
set_option maxHeartbeats 4000000 in
set_option maxRecDepth 100000 in
theorem classesL_any (w : World) (xb : Nat) (Z : Nat → Prop) (S : WS) (L : List ST) (M : List Nat) (h : BothAt w xb Z S L M) :
  Calls Tryz.prog 32 #[.pointer (some ⟨xb, 0, none⟩)] w fun e w' => ∃ v rs, e = .returned (.tuple #[v, .bool true]) ∧ Upd [] w w' ∧ ListsAt w' w.heap.size v rs (classesOf S) := by
 obtain ⟨bb, rb, Zb, Zr, c0, c1, hb, hr, z1, z2⟩ := h.ex
 have HS := hide (bookClasses_any w bb Zb S hb h.both.text)
 have HR := hide (fun (w1 : World) (U : Upd [] w w1) => refClasses_any w1 rb Zr L M (hr.later U (fun _ _ => by simp)) h.both.ok h.both.small (by have := h.both.length; have := h.both.saids; omega))
 have hxlt := h.lt
 rw [← h.both.classes] at HR
 have hlen : (classesOf S).length ≤ 1000 := by
  rw [h.both.classes]
  unfold classesR
  rw [List.length_map]
  have h1 := firstsTo_len (textAt (termsR L)) (clsAt (drawnR L)) (termsR L).length (termsR L).length
  have h2 := h.both.holds.count h.both.ok
  have h3 := h.both.terms
  omega
 clear h hb hr z1 z2
 obtain ⟨ls, hls⟩ : ∃ ls, classesOf S = ls := ⟨_, rfl⟩
 rw [hls] at HS HR hlen ⊢
 clear hls
 obtain ⟨n, hn⟩ : ∃ n, ls.length = n := ⟨_, rfl⟩
 rw [hn] at hlen
 have Hn := hide hn
 clear hn
 go_enter Tryz.func32, Tryz.ntmps32
 go_upto_region 3 with (first
  | (go_at_call 20; refine HS.out.mono ?_; rintro e w1 ⟨v1, rs1, rfl, hu1, hl1⟩; have k1 := (hu1.cell (p := ⟨xb, 1, none⟩) hxlt (by simp)).trans c1; have HR1 := hide (HR.out w1 hu1); have HU1 := hide hu1; have HL1 := hide hl1; clear hu1 hl1)
  | (go_at_call 65; refine HR1.out.mono ?_; rintro e w2 ⟨v2, rs2, rfl, hu2, hl2⟩; have HU2 := hide hu2; have HL2 := hide hl2; clear hu2 hl2))
 have hr1 := HU2.out.ownsRow HL1.out.row (fun _ _ => by simp)
 have hr2 := HL2.out.row
 rw [Hn.out] at hr1 hr2
 obtain ⟨a1, cap1, hv1, p11, p12, f1⟩ := rows_form hr1 (by rw [HL1.out.len, Hn.out])
 obtain ⟨a2, cap2, hv2, p21, p22, f2⟩ := rows_form hr2 (by rw [HL2.out.len, Hn.out])
 subst hv1 hv2
 have F1 := hide f1
 have F2 := hide f2
 unfold maxLen at p12 p22
 clear hr1 hr2 f1 f2 k1 c0 c1 HR1 HR HS
 go_wp2
 go_loopw [6] (fun i wr => ∃ j m : Nat, j ≤ n ∧ i = .int .i64 j ∧ wr = w2.drewN m) (fun i _ => n - (intOf i).toNat)
 case atStart => exact ⟨0, 0, Nat.zero_le _, rfl, rfl⟩
 case round =>
  obtain ⟨j, m, hj, rfl, rfl⟩ := hrel
  by_cases hjn : j < n
  ·have hjI : (j : Int) < (n : Int) := by omega
   obtain ⟨r1, hr1⟩ : ∃ r, rs1[j]? = some r := ⟨_, List.getElem?_eq_getElem (by rw [HL1.out.len, Hn.out]; exact hjn)⟩
   obtain ⟨r2, hr2⟩ : ∃ r, rs2[j]? = some r := ⟨_, List.getElem?_eq_getElem (by rw [HL2.out.len, Hn.out]; exact hjn)⟩
   obtain ⟨l, hl⟩ : ∃ l, ls[j]? = some l := ⟨_, List.getElem?_eq_getElem (by rw [Hn.out]; exact hjn)⟩
   obtain ⟨g1, rfl, _, q1⟩ := F1.out (by omega)
   obtain ⟨g2, rfl, _, q2⟩ := F2.out (by omega)
   have z1 := q1 j r1 hr1
   have z2 := q2 j r2 hr2
   have HT : Hid (∀ p q : Nat, Calls Tryz.prog 66 #[r1, r2] (w2.drewN (p + q)) fun e w' => e = .returned (.bool true) ∧ ∃ n, w' = w2.drewN (p + n)) := fun p q => by
    have s1 : StrRow (w2.drewN (p + q)) w.heap.size r1 l := ((HL1.out.all j r1 l hr1 hl).later HU2.out).later ((Upd.refl [] w2).drewN (p + q))
    have s2 : StrRow (w2.drewN (p + q)) w1.heap.size r2 l := (HL2.out.all j r2 l hr2 hl).later ((Upd.refl [] w2).drewN (p + q))
    have := sameTexts_any _ _ _ r1 r2 l l s1 s2
    rw [decide_eq_true rfl] at this
    exact this.mono fun e w' ⟨he, n, hw⟩ => ⟨he, q + n, by rw [hw]; simp [Nat.add_assoc]⟩
   clear q1 q2 hr1 hr2 hl
   go_wp2_with fail
   go_quiet ((go_at_call 66; exact HT.out _ _))
   go_wp2
   refine ⟨⟨j + 1, _, by omega, by simp, rfl⟩, ?_⟩
   simp [intOf]
   omega
  ·have hjI : ¬ (j : Int) < (n : Int) := by omega
   go_wp2
   go_ret2
   exact ⟨_, rfl, (HU1.out.trans HU2.out).drewN m, rs1, (HL1.out.later HU2.out (fun _ h => by cases h)).later ((Upd.refl [] w2).drewN m) (fun _ h => by cases h)⟩
end Go.Proofs.YtmfkpllnmmfpiaaGreatDoor

namespace Go.Proofs.YtmfkpllnmmfpiaaGreatDoor
open Go.RowKit
theorem Since.clash {w0 w : World} {xb : Nat} {S : WS} {L : List ST} {M : List Nat} (h : Since w0 w xb S L M) :
  Calls Tryz.prog 51 #[.pointer (some ⟨xb, 0, none⟩)] w fun e w' => e = .returned (.bool true) ∧ Since w0 w' xb S L M :=
 (clashL_any w xb _ S L M h.1).mono fun _ _ ⟨he, hu⟩ => ⟨he, h.look hu⟩
theorem Since.classes {w0 w : World} {xb : Nat} {S : WS} {L : List ST} {M : List Nat} (h : Since w0 w xb S L M) :
  Calls Tryz.prog 32 #[.pointer (some ⟨xb, 0, none⟩)] w fun e w' => ∃ v, e = .returned (.tuple #[v, .bool true]) ∧ Since w0 w' xb S L M :=
 (classesL_any w xb _ S L M h.1).mono fun _ _ ⟨v, _, he, hu, _⟩ => ⟨v, he, h.look hu⟩
set_option maxHeartbeats 2000000 in
set_option maxRecDepth 100000 in
theorem Since.whole {w0 w : World} {xb : Nat} {S : WS} {L : List ST} {M : List Nat} (h : Since w0 w xb S L M) :
  Calls Tryz.prog 24 #[.pointer (some ⟨xb, 0, none⟩)] w fun e w' => e = .returned (.bool true) ∧ Since w0 w' xb S L M := by
 have H := hide h
 clear h
 go_enter Tryz.func24, Tryz.ntmps24
 go_wp2_with (first
  | (go_at_call 34; refine H.out.said.mono ?_; rintro e w1 ⟨v1, rfl, h1⟩; have H1 := hide h1; clear h1)
  | (go_at_call 51; refine H1.out.clash.mono ?_; rintro e w2 ⟨rfl, h2⟩; have H2 := hide h2; clear h2)
  | (go_at_call 32; refine H2.out.classes.mono ?_; rintro e w3 ⟨v3, rfl, h3⟩; have H3 := hide h3; clear h3))
 go_ret
 exact ⟨rfl, H3.out⟩
def Goes1 (w0 w' : World) (xb : Nat) : Prop := ∃ S L M, Since w0 w' xb S L M
set_option maxHeartbeats 4000000 in
set_option maxRecDepth 100000 in
theorem step5_any (kd kk : Int) (s : ByteArray) (hmax : s.size ≤ maxLen) (hk : kd ≤ 5) {w0 w : World} {xb : Nat} {S : WS} {L : List ST} {M : List Nat} (h : Since w0 w xb S L M) :
  Calls Tryz.prog 23 #[.pointer (some ⟨xb, 0, none⟩), .agg #[.int .i64 kd, .int .i64 kk, .string s]] w fun e w' => e = .returned (.bool true) ∧ Goes1 w0 w' xb := by
 have H := hide (h.look ((Upd.refl [] w).alloc (.cells #[.int .i64 kd, .int .i64 kk, .string s] 41)))
 clear h
 by_cases h1 : kd = 1
 ·subst h1
  go_enter Tryz.func23, Tryz.ntmps23
  go_wp2_with (go_at_call 12; refine (H.out.say s hmax).mono ?_; rintro e w1 ⟨rfl, h1⟩; have H1 := hide h1; clear h1)
  go_ret
  exact ⟨rfl, _, _, _, H1.out⟩
 by_cases h2 : kd = 2
 ·subst h2
  go_enter Tryz.func23, Tryz.ntmps23
  go_wp2_with (go_at_call 50; refine (H.out.follows s hmax).mono ?_; rintro e w1 ⟨rfl, h1⟩; have H1 := hide h1; clear h1)
  go_ret
  exact ⟨rfl, _, _, _, H1.out⟩
 by_cases h3 : kd = 3
 ·subst h3
  go_enter Tryz.func23, Tryz.ntmps23
  go_wp2_with (go_at_call 51; refine H.out.clash.mono ?_; rintro e w1 ⟨rfl, h1⟩; have H1 := hide h1; clear h1)
  go_ret
  exact ⟨rfl, _, _, _, H1.out⟩
 by_cases h4 : kd = 4
 ·subst h4
  go_enter Tryz.func23, Tryz.ntmps23
  go_wp2_with (go_at_call 32; refine H.out.classes.mono ?_; rintro e w1 ⟨v1, rfl, h1⟩; have H1 := hide h1; clear h1)
  go_ret
  exact ⟨rfl, _, _, _, H1.out⟩
 by_cases h5 : kd = 5
 ·subst h5
  go_enter Tryz.func23, Tryz.ntmps23
  go_wp2_with (go_at_call 34; refine H.out.said.mono ?_; rintro e w1 ⟨v1, rfl, h1⟩; have H1 := hide h1; clear h1)
  go_ret
  exact ⟨rfl, _, _, _, H1.out⟩
 have h6 : ¬ kd = 6 := by omega
 have h7 : ¬ kd = 7 := by omega
 have h8 : ¬ kd = 8 := by omega
 have h9 : ¬ kd = 9 := by omega
 have b1 : (kd == 1) = false := by simpa using h1
 have b2 : (kd == 2) = false := by simpa using h2
 have b3 : (kd == 3) = false := by simpa using h3
 have b4 : (kd == 4) = false := by simpa using h4
 have b5 : (kd == 5) = false := by simpa using h5
 have b6 : (kd == 6) = false := by simpa using h6
 have b7 : (kd == 7) = false := by simpa using h7
 have b8 : (kd == 8) = false := by simpa using h8
 have b9 : (kd == 9) = false := by simpa using h9
 go_enter Tryz.func23, Tryz.ntmps23
 go_wp2
 go_ret
 exact ⟨rfl, _, _, _, H.out⟩
structure ScriptIs (w : World) (ao : Option Addr) (sc : List (Int × Int × ByteArray)) : Prop where
 cells : 0 < sc.length → ∃ b off, ao = some ⟨b, off, none⟩ ∧ b < w.heap.size ∧ ∀ (i : Nat) (o : Int × Int × ByteArray), sc[i]? = some o → w.cell? ⟨b, off + i * 3, none⟩ = some (.int .i64 o.1) ∧ w.cell? ⟨b, off + i * 3 + 1, none⟩ = some (.int .i64 o.2.1) ∧ w.cell? ⟨b, off + i * 3 + 2, none⟩ = some (.string o.2.2)
 texts : ∀ o ∈ sc, o.2.2.size ≤ maxLen
end Go.Proofs.YtmfkpllnmmfpiaaGreatDoor

namespace Go.Proofs.YtmfkpllnmmfpiaaGreatDoor
open Go.ChangeShapes Go.WideShapes Go.ChangeAt Go.RowKit
set_option maxRecDepth 100000 in
theorem script_of {H : Type} {enc : TypeId × Value → H} {W : World} {a : Option Addr} {len cap fuel : Nat} {x : DataW H × List MemPlace} (h : DataW.trod enc Tryz.prog W 0 (fun _ => true) true fuel 22 [.slice a len cap] = some x) : len ≤ cap ∧ cap ≤ maxLen ∧ ∃ sc, sc.length = len ∧ ScriptIs W a sc := by
 have ce : Tryz.prog.cellsOf 41 = 3 := by kernel_rfl
 have c3 : Tryz.prog.cellsOf 3 = 1 := by kernel_rfl
 have c9 : Tryz.prog.cellsOf 9 = 1 := by kernel_rfl
 rcases Go.Deep.open_slice Tryz.underlying22 h with ⟨hc, _⟩ | ⟨ad, l, c, m, n, D, Pl, hc, hb, hl, hm, hmm, _, hx⟩
 ·simp only [List.cons.injEq, and_true, Value.slice.injEq] at hc
  obtain ⟨rfl, rfl, rfl⟩ := hc
  exact ⟨Nat.le_refl _, by simp [maxLen], [], rfl, ⟨fun h => by simp at h, fun o ho => by cases ho⟩⟩
 ·simp only [List.cons.injEq, and_true, Value.slice.injEq] at hc
  obtain ⟨rfl, rfl, rfl⟩ := hc
  have each : ∀ i, i < len → ∃ o : Int × Int × ByteArray, W.cell? (ad.add (i * 3)) = some (.int .i64 o.1) ∧ W.cell? (ad.add (i * 3 + 1)) = some (.int .i64 o.2.1) ∧ W.cell? (ad.add (i * 3 + 2)) = some (.string o.2.2) ∧ o.2.2.size ≤ maxLen := by
   intro i hi
   obtain ⟨cs', h1, h2⟩ := hx i (by rw [hmm]; simp; omega)
   rw [ce] at h1
   obtain ⟨_, hlen, hcell⟩ := World.cells?_some h1
   obtain ⟨xs, k, hk, hxy, _, hxl, hf⟩ := DataW.trod_struct Tryz.underlying41 h2
   match cs', hlen, xs, hxl with
   | [v0, v1, v2], _, [y0, y1, y2], _ =>
    have g0 := hf 0 _ rfl
    have g1 := hf 1 _ rfl
    have g2 := hf 2 _ rfl
    simp [c3, c9] at g0 g1 g2
    have e0 := hcell 0 (by omega)
    have e1 := hcell 1 (by omega)
    have e2 := hcell 2 (by omega)
    rw [Go.Deep.add_add] at e0 e1 e2
    obtain ⟨z0, q0, _⟩ := DataW.trod_int Tryz.underlying3 g0
    obtain ⟨z1, q1, _⟩ := DataW.trod_int Tryz.underlying3 g1
    obtain ⟨s, q2, _, hs⟩ := DataW.trod_string Tryz.underlying9 g2
    simp only [List.cons.injEq, and_true] at q0 q1 q2
    subst q0 q1 q2
    exact ⟨(z0, z1, s), by simpa using e0, by simpa using e1, by simpa using e2, hs⟩
  obtain ⟨sc, hsl, hsc⟩ := choose_list (P := fun (i : Nat) (o : Int × Int × ByteArray) => W.cell? (ad.add (i * 3)) = some (.int .i64 o.1) ∧ W.cell? (ad.add (i * 3 + 1)) = some (.int .i64 o.2.1) ∧ W.cell? (ad.add (i * 3 + 2)) = some (.string o.2.2) ∧ o.2.2.size ≤ maxLen) len each
  refine ⟨hl, hm, sc, hsl, ⟨fun hp => ?_, fun o ho => ?_⟩⟩
  ·obtain ⟨b, off, spot⟩ := ad
   cases spot with
   | none =>
    obtain ⟨o, ho⟩ : ∃ o, sc[0]? = some o := ⟨_, List.getElem?_eq_getElem hp⟩
    have h0 := (hsc 0 o ho).1
    refine ⟨b, off, rfl, ?_, fun i o ho => ?_⟩
    ·rw [Addr.add_lit] at h0
     exact World.block_lt_of_cell? _ _ h0
    ·obtain ⟨k0, k1, k2, _⟩ := hsc i o ho
     rw [Addr.add_lit] at k0 k1 k2
     exact ⟨k0, by rw [Nat.add_assoc]; exact k1, by rw [Nat.add_assoc]; exact k2⟩
   | some s =>
    obtain ⟨o, ho⟩ : ∃ o, sc[0]? = some o := ⟨_, List.getElem?_eq_getElem hp⟩
    have h2 := World.cell?_spot (hsc 0 o ho).1
    unfold Addr.add at h2
    simp at h2
  ·obtain ⟨i, hi⟩ := List.getElem?_of_mem ho
   exact (hsc i o hi).2.2.2
end Go.Proofs.YtmfkpllnmmfpiaaGreatDoor
