/-
  The document's reader, walked: term.
-/
import Derived.Test.YtmfkpllnmmfpiaaGreatDoorRefHeapH
import Derived.Deep.DeepMust
import Derived.Deep.CutBlock
namespace Go.Proofs.YtmfkpllnmmfpiaaGreatDoor
open Go.RowKit

/-- A term's text ahead of its closing bracket. -/
def headText (nm : ByteArray) (acc : List Trm) : ByteArray := ⟨(nm.data.toList ++ 40 :: joinT acc).toArray⟩
theorem headText_open (nm : ByteArray) : nm ++ ⟨#[40]⟩ = headText nm [] := by
  apply ByteArray.ext
  apply Array.ext'
  simp [headText, joinT]
theorem headText_first (nm : ByteArray) (p : Trm) : headText nm [] ++ p.text = headText nm [p] := by
  apply ByteArray.ext
  simp [headText, joinT, joinR, Trm.text]
theorem headText_more (nm : ByteArray) (acc : List Trm) (p : Trm) (h : acc ≠ []) : headText nm acc ++ ⟨#[44, 32]⟩ ++ p.text = headText nm (acc ++ [p]) := by
  apply ByteArray.ext
  simp [headText, joinT_snoc acc p h, Trm.text]
theorem headText_close (nm : ByteArray) (acc : List Trm) (h : acc ≠ []) : headText nm acc ++ ⟨#[41]⟩ = (Trm.node nm acc).text := by
  apply ByteArray.ext
  simp [headText, Trm.text, txt_node nm acc h]
theorem text_leaf (nm : ByteArray) : (Trm.node nm []).text = nm := by
  apply ByteArray.ext
  simp [Trm.text, Trm.txt]
theorem headText_size (nm : ByteArray) (acc : List Trm) : (headText nm acc).size = nm.size + 1 + (joinT acc).length := by
  have : nm.data.toList.length = nm.size := by simp
  show (nm.data.toList ++ 40 :: joinT acc).toArray.size = _
  simp only [List.size_toArray, List.length_append, List.length_cons]
  omega
theorem text_size (t : Trm) : t.text.size = t.txt.length := by
  show t.txt.toArray.size = _
  simp

theorem scanIs_z (xb : Nat) (s : ByteArray) (x : Sc) (z : Int) (c : Nat) (hz : z = c) (w : World) (h : ScanAt w xb s x) (hs : s.size ≤ 1000) (hp : x.pos ≤ 100000) :
    Calls Tryz.prog 134 #[.pointer (some ⟨xb, 0, none⟩), .int .u8 z] w fun e w' => e = .returned (.bool (isR s z x)) ∧ ScanAt w' xb s (blanksR s x) ∧ Upd [xb] w w' := by
  subst hz
  exact scanIs_any xb s x c w h hs hp
theorem news_set (W : World) (a : Addr) (u x : Value) (T : TypeId) : ∀ j u', [x][j]? = some u' → ((W.setCell a u).alloc (.cells #[x] T)).cell? ((⟨W.heap.size, 0, none⟩ : Addr).add j) = some u' := by
  have h : ∀ j u', [x][j]? = some u' → ((W.setCell a u).alloc (.cells #[x] T)).cell? ((⟨(W.setCell a u).heap.size, 0, none⟩ : Addr).add j) = some u' := World.news_of_block (heap_alloc_new (W.setCell a u) (.cells #[x] T))
  have e : (W.setCell a u).heap.size = W.heap.size := by simp
  rw [e] at h
  exact h
theorem len_row {w : World} {base e size n : Nat} {v : Value} {xs : List Value} (h : w.ownsRow base e size v n xs) (ty : TypeId) (W : World) : (Builtin.len_ #[128] ty #[v]).run Tryz.prog W = .ok (.int .i64 n) W := by
  obtain ⟨g, cap, hv⟩ := slice_len h
  rw [hv]
  simp [Builtin.len_, run_underlying Tryz.underlying128]
  rfl
theorem TBld.grown {w wr w3 : World} {xb tb : Nat} {s : ByteArray} {x : Sc} {nm T : ByteArray} {acc : List Trm} {v : Value} {cs : List Nat} {X : Obj} (h : TBld w wr xb tb s x nm T acc v cs) (hg : (wr.alloc X).grownBy w3 v.ownBlock) : w3.cell? ⟨tb, 1, none⟩ = some v ∧ ∀ o, w3.frozen? ⟨tb, o, none⟩ = false := by
  have hnt : tb ∉ v.ownBlock.toList := fun hm => by have := own_geT h.row (by simpa using hm); omega
  have U : Upd v.ownBlock.toList wr w3 := ((Upd.refl _ wr).alloc X).trans (Upd.of_grown hg)
  exact ⟨(U.cell (p := ⟨tb, 1, none⟩) h.lt hnt).trans h.c1, fun o => (U.frozen (p := ⟨tb, o, none⟩) h.lt hnt).trans (h.free o)⟩
/-- What 'term' comes to. -/
def RTermOK (n : Nat) : Prop := ∀ (s : ByteArray) (xb d : Nat) (x : Sc) (z : Int) (w : World), s.size ≤ 1000 → z = d → d + n ≤ 5000 → s.size + 1 ≤ n + x.pos → x.pos ≤ 5000 → ScanAt w xb s x →
  Calls Tryz.prog 107 #[.pointer (some ⟨xb, 0, none⟩), .int .i64 z] w fun e w' => ∃ tb, e = .returned (.pointer (some ⟨tb, 0, none⟩)) ∧ IsRT w' (fun k => w.heap.size ≤ k ∧ k < w'.heap.size) (termR s n d x).1 tb ∧ ScanAt w' xb s (termR s n d x).2 ∧ Upd [xb] w w'

set_option maxHeartbeats 8000000 in
set_option maxRecDepth 100000 in
theorem scanTerm_step (n : Nat) (IH : 1 ≤ n → RTermOK n) : RTermOK (n + 1) := by
  intro s xb d x z w hs hz hdn hn hp h
  subst hz
  obtain ⟨i0, hi, hz0, hz1, hz2⟩ := info_parts info_refPtr
  have hxlt := h.lt
  have hb0 := blanksR_pos s x
  have hnm := nameR_pos s (blanksR s x)
  have hhd := headR_pos s d x
  have HB := hide (blanks_any xb s x w h hs (by omega))
  have hna := (fun (W : World) (hh : ScanAt W xb s (blanksR s x)) => name_any xb s (blanksR s x) W hh hs (by omega))
  have Hh0 := hide hhd
  obtain ⟨nm, hnmE⟩ : ∃ nm, (nameR s (blanksR s x)).1 = nm := ⟨_, rfl⟩
  obtain ⟨a0, ha0⟩ : ∃ a0, (blanksR s x).pos = a0 := ⟨_, rfl⟩
  obtain ⟨x1, hx1⟩ : ∃ x1, (nameR s (blanksR s x)).2 = x1 := ⟨_, rfl⟩
  have HnmE := hide hnmE
  have Ha0 := hide ha0
  have Hx1 := hide hx1
  rw [hnmE, hx1] at hnm hna
  have HNa := hide hna
  have hnmS : nm.size ≤ 6001 := by omega
  have hH1 : Hid ((headR s d x).1 = nm) := hnmE
  have hH2 : Hid ((headR s d x).2 = if 8 < nm.size ∨ 12 < d then farR a0 x1 else x1) := by
    show _ = _
    unfold headR
    simp only [hnmE, ha0, hx1]
  obtain ⟨x2, hx2⟩ : ∃ x2, (headR s d x).2 = x2 := ⟨_, rfl⟩
  have Hx2 := hide hx2
  rw [hx2] at hhd hH2
  have hhe : (headR s d x).1.size = nm.size := by rw [hH1.out]
  rw [hhe] at hhd
  have hdI : (d : Int) ≤ 5000 := by omega
  clear h hnmE ha0 hx1 hx2 hhe hna
  go_enter Tryz.func107, Tryz.ntmps107
  go_upto_region 5 with (first
    | (go_at_call 109; refine HB.out.mono ?_; rintro e wa ⟨rfl, hsa, hua⟩; have HSa := hide hsa; have HUa := hide hua; have ga := hsa.c1; rw [Ha0.out] at ga; clear hsa hua)
    | (go_at_call 132; refine (HNa.out _ HSa.out).mono ?_; rintro e wb ⟨rfl, hsb, hub⟩; have HSb := hide hsb; have HUb := hide (HUa.out.trans hub); clear hsb hub ga))
  have hT0 : TBld w (wb.alloc (.cells #[.string nm, .slice none 0 0, .string nm] 169)) xb wb.heap.size s x1 nm nm [] (.slice none 0 0) [] := TBld.begin_ HSb.out hxlt HUb.out rfl
  obtain ⟨W0, hW0⟩ : ∃ W, W = wb.alloc (.cells #[.string nm, .slice none 0 0, .string nm] 169) := ⟨_, rfl⟩
  rw [← hW0] at hT0
  rw [← hW0]
  obtain ⟨tb, htb⟩ : ∃ tb, tb = wb.heap.size := ⟨_, rfl⟩
  rw [← htb] at hT0
  rw [← htb]
  have HT0 := hide hT0
  have q0 := hT0.c0
  clear hW0 htb hT0 HSb HUb HB HNa
  go_cut [37] (fun c wx => c = .bool (decide (8 < nm.size ∨ 12 < d)) ∧ wx = W0)
  case first =>
    by_cases h8 : 8 < nm.size
    · have HV : Hid (decide (8 < nm.size ∨ 12 < d) = true) := by show _ = _; simp [h8]
      have h8' : (8 : Int) < (nm.size : Int) := by omega
      go_wp2_with fail
      go_meet
      case rel => exact ⟨by rw [HV.out], rfl⟩
    · by_cases h12 : 12 < d
      · have HV : Hid (decide (8 < nm.size ∨ 12 < d) = true) := by show _ = _; simp [h12]
        have h8' : ¬ (8 : Int) < (nm.size : Int) := by omega
        have h12' : (12 : Int) < (d : Int) := by omega
        go_wp2_with fail
        go_meet
        case rel => exact ⟨by rw [HV.out], rfl⟩
      · have HV : Hid (decide (8 < nm.size ∨ 12 < d) = false) := by show _ = _; simp [h8, h12]
        have h8' : ¬ (8 : Int) < (nm.size : Int) := by omega
        have h12' : ¬ (12 : Int) < (d : Int) := by omega
        go_wp2_with fail
        go_meet
        case rel => exact ⟨by rw [HV.out], rfl⟩
  case rest =>
    obtain ⟨rfl, rfl⟩ := hcut
    go_upto_if 37 with fail
    go_cut [] (fun wx => Hid (TBld w wx xb tb s x2 nm nm [] (.slice none 0 0) []))
    case first =>
      by_cases hf : 8 < nm.size ∨ 12 < d
      · have HV : decide (8 < nm.size ∨ 12 < d) = true := by simp [hf]
        have HX : Hid (x2 = farR a0 x1) := by show _ = _; rw [hH2.out, if_pos hf]
        rw [HV]
        go_wp2_with (go_at_call 133; refine (scanFar_any xb s x1 a0 _ HT0.out.scan).mono ?_; rintro e wf ⟨rfl, hsf, huf⟩; have HSf := hide hsf; have HUf := hide huf; clear hsf huf)
        go_meet
        case rel => show TBld _ _ _ _ _ _ _ _ _ _ _; rw [HX.out]; exact HT0.out.scanned HSf.out HUf.out
      · have HV : decide (8 < nm.size ∨ 12 < d) = false := by simp [hf]
        have HX : Hid (x2 = x1) := by show _ = _; rw [hH2.out, if_neg hf]
        rw [HV]
        go_wp2_with fail
        go_meet
        case rel => show TBld _ _ _ _ _ _ _ _ _ _ _; rw [HX.out]; exact HT0.out
    case rest =>
      clear HT0 q0 hnmS Hh0 HSa HUa
      have hx2p : x2.pos ≤ 100000 := by omega
      have HIs := hide (scanIs_z xb s x2 40 40 rfl wc hcut.out.scan hs hx2p)
      by_cases hop : isR s 40 x2 = true
      · obtain ⟨hop1, hop2⟩ := isR_pos hop
        have hq := blanksR_pos s x2
        have hn1 : 1 ≤ n := by omega
        have hIH := hide (IH hn1)
        obtain ⟨X0, hX0⟩ : ∃ X0, (blanksR s x2).next = X0 := ⟨_, rfl⟩
        have hX0p : X0.pos = (blanksR s x2).pos + 1 := by rw [← hX0]; rfl
        have hX0b : X0.bad < 0 := by rw [← hX0]; exact hop2
        obtain ⟨P, hP⟩ : ∃ P, partsR s (termR s n (d + 1)) (s.size + 1) X0 = P := ⟨_, rfl⟩
        have HR : Hid (termR s (n + 1) d x = (.node nm P.1, closeR s a0 P)) := by show _ = _; unfold termR; rw [Hx2.out, if_pos hop, hH1.out, hX0, hP, Ha0.out]
        have HP := hide hP
        have HX0 := hide hX0
        have hxt : xb ≠ tb := by have := hcut.out.tge; omega
        have hA1 : ∀ w, (Op.stringOp .add nm ⟨#[40]⟩).run Tryz.prog w = .ok (.string (nm ++ ⟨#[40]⟩)) w := fun w => run_string_add_sum w _ _ (by show nm.size + 1 ≤ _; omega)
        obtain ⟨bp, hbp⟩ : ∃ bp, (blanksR s x2).pos = bp := ⟨_, rfl⟩
        have Hbp := hide hbp
        rw [hbp] at hX0p hop1 hq
        clear hP hX0 hbp
        go_upto_block 0 with ((go_at_call 134; refine HIs.out.mono ?_; rintro e wi ⟨rfl, hsi, hui⟩; rw [hop]; have HTi := hide (hcut.out.scanned hsi hui); have g1 := hsi.c1; have gf := hsi.free; have q2 := HTi.out.c2; have qf := HTi.out.free; rw [Hbp.out] at g1; clear hsi hui))
        have HL : Hid (TBld w ((wi.setCell ⟨xb, 1, none⟩ (.int .i64 (bp + 1))).setCell ⟨tb, 2, none⟩ (.string (nm ++ ⟨#[40]⟩))) xb tb s X0 nm (headText nm []) [] (.slice none 0 0) []) := by
          have h1 := (HTi.out.next (z := bp + 1) (by rw [Hbp.out])).texted (nm ++ ⟨#[40]⟩)
          rw [HX0.out, headText_open] at h1
          rw [headText_open]
          exact h1
        clear HTi g1 gf q2 qf
        go_cut [8, 9] (fun _ _ wx => ∃ v cs, Hid (P.1 ≠ [] ∧ P.1.length ≤ 2000 ∧ (headText nm P.1).size ≤ 20000 ∧ P.2.pos ≤ 20000) ∧ Hid (TBld w wx xb tb s P.2 nm (headText nm P.1) P.1 v cs))
        case first =>
          go_wp2_with fail
          go_loopw [8, 9] (fun _ _ wr => ∃ m acc x' v cs, x'.bad < 0 ∧ x'.pos ≤ s.size ∧ s.size + 1 ≤ m + x'.pos ∧ x.pos < x'.pos ∧ (headText nm acc).size ≤ 2 * x'.pos ∧ acc.length ≤ x'.pos ∧ Hid (acc ++ (partsR s (termR s n (d + 1)) m x').1 = P.1 ∧ (partsR s (termR s n (d + 1)) m x').2 = P.2) ∧ Hid (TBld w wr xb tb s x' nm (headText nm acc) acc v cs)) (fun _ _ wr => s.size + 1 - natAt wr ⟨xb, 1, none⟩)
          case atStart =>
            refine ⟨s.size + 1, [], X0, _, _, hX0b, by omega, by omega, by omega, ?_, by simp, ⟨by rw [HP.out]; rfl, by rw [HP.out]⟩, HL⟩
            rw [headText_size]
            simp only [joinT, List.length_nil]
            omega
          case round =>
            obtain ⟨m, acc, x', v, cs, hbad, hpos, hm, hxx, hln, hal, HPm, HT⟩ := hrel
            clear HL HIs hA1
            have hRp := hide (term_pos s n (d + 1) x')
            have hc := hIH.out s xb (d + 1) x' (d + 1) wr hs (by omega) (by omega) (by omega) (by omega) HT.out.scan
            obtain ⟨p, hpE⟩ : ∃ p, (termR s n (d + 1) x').1 = p := ⟨_, rfl⟩
            obtain ⟨x3, hx3⟩ : ∃ x3, (termR s n (d + 1) x').2 = x3 := ⟨_, rfl⟩
            have hR1 := hRp.out
            rw [hpE, hx3] at hR1 hc
            obtain ⟨t1, t2, t3⟩ := hR1
            rw [← text_size] at t3
            have HC := hide hc
            obtain ⟨m', rfl⟩ : ∃ m', m = m' + 1 := ⟨m - 1, by omega⟩
            have HPs : Hid (partsR s (termR s n (d + 1)) (m' + 1) x' = if isR s 44 x3 then (p :: (partsR s (termR s n (d + 1)) m' (blanksR s x3).next).1, (partsR s (termR s n (d + 1)) m' (blanksR s x3).next).2) else ([p], blanksR s x3)) := by
              show _ = _
              conv => lhs; unfold partsR
              rw [hpE, hx3]
            have y1 := HT.out.scan.c1
            have y2 := HT.out.scan.c2
            have hB : tb < wr.heap.size := HT.out.lt
            have HVl : Hid (∀ q, v.ownBlock = some q → q < wr.heap.size) := fun q hq => ownsRow_lt HT.out.row hq
            clear hc hpE hx3 hRp hX0p hX0b hop hop2 hq hop1
            by_cases hacc : acc = []
            · subst hacc
              have hlen : ∀ ty (W : World), (Builtin.len_ #[128] ty #[v]).run Tryz.prog W = .ok (.int .i64 0) W := len_row HT.out.row
              have hTx : (headText nm []).size + p.text.size ≤ 9223372036854775807 := by omega
              have hA2 : ∀ w, (Op.stringOp .add (headText nm []) p.text).run Tryz.prog w = .ok (.string (headText nm [] ++ p.text)) w := fun w => run_string_add_sum w _ _ (by omega)
              have Hfin : Hid (headText nm [] ++ p.text = headText nm ([] ++ [p])) := headText_first nm p
              have hlm : 0 + 1 ≤ maxLen := by unfold maxLen; omega
              have hlb : (0 + 1) * 8 ≤ 140737488355328 := by omega
              go_upto_region 17 with (first
                | (go_at_call 107; refine HC.out.mono ?_; rintro e w2 ⟨c, rfl, hrt, hs2, hu2⟩; have HT2 := hide (HT.out.scanned hs2 hu2); have HRT := hide (hrt.mono (Z' := fun k => wr.heap.size ≤ k) fun k hk _ => hk.1); have HU2 := hide hu2.size; have q1 := HT2.out.c1; have q2 := HT2.out.c2; have qf := HT2.out.free; have q3 := HT2.out.lt; have hrw := ((Upd.refl [] w2).alloc (.cells #[.pointer (some ⟨c, 0, none⟩)] 170)).ownsRow HT2.out.row (fun _ _ => by simp); have Hrow := hide hrw; have hnews : Hid (∀ j u, [Value.pointer (some ⟨c, 0, none⟩)][j]? = some u → (w2.alloc (.cells #[.pointer (some ⟨c, 0, none⟩)] 170)).cell? ((⟨w2.heap.size, 0, none⟩ : Addr).add j) = some u) := World.news_of_block (heap_alloc_new _ _); have hone : Hid (∀ u ∈ [Value.pointer (some ⟨c, 0, none⟩)], u.oneCell' = true) := (fun u hu' => by simp at hu'; subst hu'; rfl); clear hrt hs2 hu2 hrw)
                | (at_builtin; go_must (refine wpList_append_lies _ rfl _ _ 128 rfl (tb + 1) 170 i0 (.pointer none) 1 8 Tryz.underlying128 hi hz0 hz1 hz2 rfl (by decide) _ _ _ rfl Hrow.out ⟨w2.heap.size, 0, none⟩ 1 1 [.pointer (some ⟨c, 0, none⟩)] rfl rfl hnews.out hone.out (by decide) hlm hlb (by simp; omega) _ rfl ?_); intro g1 cap1 w3 hown3 hgrow3 hat3 hlt3; have HK := hide (TBld.kid HT2.out (B := wr.heap.size) HRT.out HT.out.lt HVl.out hgrow3 hat3 hown3); obtain ⟨r1, rf⟩ := TBld.grown HT2.out hgrow3))
              have hK : TBld w (w3.setCell ⟨tb, 1, none⟩ (.slice (some ⟨g1, 0, none⟩) 1 cap1)) xb tb s x3 nm (headText nm []) ([] ++ [p]) (.slice (some ⟨g1, 0, none⟩) 1 cap1) (cs ++ [c]) := HK.out
              obtain ⟨W, hW⟩ : ∃ W, W = w3.setCell ⟨tb, 1, none⟩ (.slice (some ⟨g1, 0, none⟩) 1 cap1) := ⟨_, rfl⟩
              rw [← hW] at hK
              rw [← hW]
              have z2 := hK.c2
              have zf := hK.free
              have hcl : cs.length = [].length := HT.out.len
              have zc := (hK.kids [].length c p (by rw [← hcl, List.getElem?_concat_length]) (by rw [List.getElem?_concat_length])).text
              have HKK := hide hK
              have hx3p : x3.pos ≤ 100000 := by omega
              clear hW hK HK r1 rf hown3 hgrow3 hat3 hlt3 Hrow hnews hone HC q1 q2 qf q3 HT2 HRT HU2 hlm hlb y2 hcl
              go_region
              obtain ⟨W4, hW4⟩ : ∃ W4, W4 = (W.setCell ⟨tb, 2, none⟩ (.string (headText nm [] ++ p.text))).drew := ⟨_, rfl⟩
              have h4 := (HKK.out.texted (headText nm [] ++ p.text)).scanned ((HKK.out.texted (headText nm [] ++ p.text)).scan.later ((Upd.refl [] _).drew) (by simp)) ((Upd.refl [xb] _).drew)
              rw [← hW4, Hfin.out] at h4
              rw [← hW4]
              have HT4 := hide h4
              have HIs := hide (scanIs_z xb s x3 44 44 rfl W4 h4.scan hs hx3p)
              clear hW4 h4 HKK z2 zf zc
              have hb3 := blanksR_pos s x3
              obtain ⟨bq, hbq⟩ : ∃ bq, (blanksR s x3).pos = bq := ⟨_, rfl⟩
              have Hbq := hide hbq
              rw [hbq] at hb3
              clear hbq
              have Hsz : Hid ((headText nm ([] ++ [p])).size ≤ 2 * x3.pos + 2) := by
                show _ ≤ _
                rw [← Hfin.out]
                simp only [ByteArray.size_append]
                omega
              by_cases hmore : isR s 44 x3 = true
              · obtain ⟨hm1, hm2⟩ := isR_pos hmore
                rw [Hbq.out] at hm1
                have HPn : Hid (([] ++ [p]) ++ (partsR s (termR s n (d + 1)) m' (blanksR s x3).next).1 = P.1 ∧ (partsR s (termR s n (d + 1)) m' (blanksR s x3).next).2 = P.2) := by
                  have h := HPm.out
                  rw [HPs.out, if_pos hmore] at h
                  exact ⟨by rw [← h.1]; simp, h.2⟩
                go_wp2_with (go_at_call 134; refine HIs.out.mono ?_; rintro e w5 ⟨rfl, hs5, hu5⟩; rw [hmore]; have HT5 := hide (HT4.out.scanned hs5 hu5); have g51 := hs5.c1; have gf5 := hs5.free; rw [Hbq.out] at g51; clear hs5 hu5)
                have HN := HT5.out.next (z := bq + 1) (by rw [Hbq.out])
                have hnp : (blanksR s x3).next.pos = bq + 1 := by show (blanksR s x3).pos + 1 = _; rw [Hbq.out]
                refine ⟨⟨m', [] ++ [p], (blanksR s x3).next, _, _, hm2, by rw [hnp]; omega, by rw [hnp]; omega, by rw [hnp]; omega, by rw [hnp]; have := Hsz.out; omega, by rw [hnp]; simp only [List.length_append, List.length_cons, List.length_nil]; omega, HPn, HN⟩, ?_⟩
                have hc1 := HN.scan.c1
                rw [hnp] at hc1
                rw [natAt_eq y1, natAt_eq (n := bq + 1) hc1]
                omega
              · have hmore' : isR s 44 x3 = false := by simpa using hmore
                have HE : Hid ([] ++ [p] = P.1 ∧ blanksR s x3 = P.2) := by
                  have h := HPm.out
                  rw [HPs.out, if_neg hmore] at h
                  exact h
                go_wp2_with (go_at_call 134; refine HIs.out.mono ?_; rintro e w5 ⟨rfl, hs5, hu5⟩; rw [hmore']; have HT5 := hide (HT4.out.scanned hs5 hu5); clear hs5 hu5)
                go_meet
                case rel =>
                  refine ⟨_, _, ⟨by rw [← HE.out.1]; simp, by rw [← HE.out.1]; simp only [List.length_append, List.length_cons, List.length_nil]; omega, by rw [← HE.out.1]; have := Hsz.out; omega, by rw [← HE.out.2, Hbq.out]; omega⟩, by show TBld _ _ _ _ _ _ _ _ _ _ _; rw [← HE.out.1, ← HE.out.2]; exact HT5.out⟩
            · obtain ⟨k, hk⟩ : ∃ k, acc.length = k := ⟨_, rfl⟩
              have hk0 : 0 < k := by
                rw [← hk]
                exact List.length_pos_iff.2 hacc
              have hk0I : (0 : Int) < (k : Int) := by omega
              have hlen := len_row HT.out.row
              rw [hk] at hlen hal
              have hszT : (headText nm acc ++ (⟨#[44, 32]⟩ : ByteArray)).size = (headText nm acc).size + 2 := by simp only [ByteArray.size_append]; rfl
              have hA1 : ∀ w, (Op.stringOp .add (headText nm acc) ⟨#[44, 32]⟩).run Tryz.prog w = .ok (.string (headText nm acc ++ ⟨#[44, 32]⟩)) w := fun w => run_string_add_sum w _ _ (by show (headText nm acc).size + 2 ≤ _; omega)
              have hA2 : ∀ w, (Op.stringOp .add (headText nm acc ++ ⟨#[44, 32]⟩) p.text).run Tryz.prog w = .ok (.string (headText nm acc ++ ⟨#[44, 32]⟩ ++ p.text)) w := fun w => run_string_add_sum w _ _ (by omega)
              have Hfin : Hid (headText nm acc ++ ⟨#[44, 32]⟩ ++ p.text = headText nm (acc ++ [p])) := headText_more nm acc p hacc
              have Hk := hide hk
              clear hk hszT hacc
              have hlm : k + 1 ≤ maxLen := by unfold maxLen; omega
              have hlb : (k + 1) * 8 ≤ 140737488355328 := by omega
              go_upto_region 17 with (first
                | (go_at_call 107; refine HC.out.mono ?_; rintro e w2 ⟨c, rfl, hrt, hs2, hu2⟩; have HT2 := hide (HT.out.scanned hs2 hu2); have HRT : Hid (IsRT (w2.setCell ⟨tb, 2, none⟩ (.string (headText nm acc ++ (⟨#[44, 32]⟩ : ByteArray)))) (fun k => wr.heap.size ≤ k) p c) := (hrt.mono (Z' := fun k => wr.heap.size ≤ k) fun k hk _ => hk.1).later ((Upd.refl [tb] w2).setCell (by simp) _) (fun k hk hm => by simp at hm; omega); have HU2 := hide hu2.size; have q1 := HT2.out.c1; have q2 := HT2.out.c2; have qf := HT2.out.free; have q3 := HT2.out.lt; have hrw := ((Upd.refl [] (w2.setCell ⟨tb, 2, none⟩ (.string (headText nm acc ++ (⟨#[44, 32]⟩ : ByteArray))))).alloc (.cells #[.pointer (some ⟨c, 0, none⟩)] 170)).ownsRow (HT2.out.texted (headText nm acc ++ (⟨#[44, 32]⟩ : ByteArray))).row (fun _ _ => by simp); rw [Hk.out] at hrw; have Hrow := hide hrw; have hnews := hide (news_set w2 ⟨tb, 2, none⟩ (.string (headText nm acc ++ ⟨#[44, 32]⟩)) (.pointer (some ⟨c, 0, none⟩)) 170); have hone : Hid (∀ u ∈ [Value.pointer (some ⟨c, 0, none⟩)], u.oneCell' = true) := (fun u hu' => by simp at hu'; subst hu'; rfl); clear hrt hs2 hu2 hrw)
                | (at_builtin; go_must (refine wpList_append_lies _ rfl _ _ 128 rfl (tb + 1) 170 i0 (.pointer none) 1 8 Tryz.underlying128 hi hz0 hz1 hz2 rfl (by decide) _ _ _ rfl Hrow.out ⟨w2.heap.size, 0, none⟩ 1 1 [.pointer (some ⟨c, 0, none⟩)] rfl rfl hnews.out hone.out (by decide) hlm hlb (by simp; omega) _ rfl ?_); intro g1 cap1 w3 hown3 hgrow3 hat3 hlt3; rw [← Hk.out] at hown3; have hkk := TBld.kid (HT2.out.texted (headText nm acc ++ (⟨#[44, 32]⟩ : ByteArray))) (B := wr.heap.size) HRT.out HT.out.lt HVl.out hgrow3 hat3 hown3; rw [Hk.out] at hkk; have HK := hide hkk; clear hkk; obtain ⟨r1, rf⟩ := TBld.grown (HT2.out.texted (headText nm acc ++ (⟨#[44, 32]⟩ : ByteArray))) hgrow3))
              have hK : TBld w (w3.setCell ⟨tb, 1, none⟩ (.slice (some ⟨g1, 0, none⟩) (k + 1) cap1)) xb tb s x3 nm (headText nm acc ++ (⟨#[44, 32]⟩ : ByteArray)) (acc ++ [p]) (.slice (some ⟨g1, 0, none⟩) (k + 1) cap1) (cs ++ [c]) := HK.out
              obtain ⟨W, hW⟩ : ∃ W, W = w3.setCell ⟨tb, 1, none⟩ (.slice (some ⟨g1, 0, none⟩) (k + 1) cap1) := ⟨_, rfl⟩
              rw [← hW] at hK
              rw [← hW]
              have z2 := hK.c2
              have zf := hK.free
              have hcl : cs.length = acc.length := HT.out.len
              have zc := (hK.kids acc.length c p (by rw [← hcl, List.getElem?_concat_length]) (by rw [List.getElem?_concat_length])).text
              have HKK := hide hK
              have hx3p : x3.pos ≤ 100000 := by omega
              clear hW hK HK r1 rf hown3 hgrow3 hat3 hlt3 Hrow hnews hone HC q1 q2 qf q3 HT2 HRT HU2 hlm hlb y2 hcl
              go_region
              obtain ⟨W4, hW4⟩ : ∃ W4, W4 = (W.setCell ⟨tb, 2, none⟩ (.string ((headText nm acc ++ (⟨#[44, 32]⟩ : ByteArray) ++ p.text)))).drew := ⟨_, rfl⟩
              have h4 := (HKK.out.texted ((headText nm acc ++ (⟨#[44, 32]⟩ : ByteArray) ++ p.text))).scanned ((HKK.out.texted ((headText nm acc ++ (⟨#[44, 32]⟩ : ByteArray) ++ p.text))).scan.later ((Upd.refl [] _).drew) (by simp)) ((Upd.refl [xb] _).drew)
              rw [← hW4, Hfin.out] at h4
              rw [← hW4]
              have HT4 := hide h4
              have HIs := hide (scanIs_z xb s x3 44 44 rfl W4 h4.scan hs hx3p)
              clear hW4 h4 HKK z2 zf zc
              have hb3 := blanksR_pos s x3
              obtain ⟨bq, hbq⟩ : ∃ bq, (blanksR s x3).pos = bq := ⟨_, rfl⟩
              have Hbq := hide hbq
              rw [hbq] at hb3
              clear hbq
              have Hsz : Hid ((headText nm (acc ++ [p])).size ≤ 2 * x3.pos + 2) := by
                show _ ≤ _
                rw [← Hfin.out]
                have e2 : (⟨#[44, 32]⟩ : ByteArray).size = 2 := rfl
                simp only [ByteArray.size_append, e2]
                omega
              by_cases hmore : isR s 44 x3 = true
              · obtain ⟨hm1, hm2⟩ := isR_pos hmore
                rw [Hbq.out] at hm1
                have HPn : Hid ((acc ++ [p]) ++ (partsR s (termR s n (d + 1)) m' (blanksR s x3).next).1 = P.1 ∧ (partsR s (termR s n (d + 1)) m' (blanksR s x3).next).2 = P.2) := by
                  have h := HPm.out
                  rw [HPs.out, if_pos hmore] at h
                  exact ⟨by rw [← h.1]; simp, h.2⟩
                go_wp2_with (go_at_call 134; refine HIs.out.mono ?_; rintro e w5 ⟨rfl, hs5, hu5⟩; rw [hmore]; have HT5 := hide (HT4.out.scanned hs5 hu5); have g51 := hs5.c1; have gf5 := hs5.free; rw [Hbq.out] at g51; clear hs5 hu5)
                have HN := HT5.out.next (z := bq + 1) (by rw [Hbq.out])
                have hnp : (blanksR s x3).next.pos = bq + 1 := by show (blanksR s x3).pos + 1 = _; rw [Hbq.out]
                refine ⟨⟨m', acc ++ [p], (blanksR s x3).next, _, _, hm2, by rw [hnp]; omega, by rw [hnp]; omega, by rw [hnp]; omega, by rw [hnp]; have := Hsz.out; omega, by rw [hnp]; simp only [List.length_append, List.length_cons, List.length_nil]; rw [Hk.out]; omega, HPn, HN⟩, ?_⟩
                have hc1 := HN.scan.c1
                rw [hnp] at hc1
                rw [natAt_eq y1, natAt_eq (n := bq + 1) hc1]
                omega
              · have hmore' : isR s 44 x3 = false := by simpa using hmore
                have HE : Hid (acc ++ [p] = P.1 ∧ blanksR s x3 = P.2) := by
                  have h := HPm.out
                  rw [HPs.out, if_neg hmore] at h
                  exact h
                go_wp2_with (go_at_call 134; refine HIs.out.mono ?_; rintro e w5 ⟨rfl, hs5, hu5⟩; rw [hmore']; have HT5 := hide (HT4.out.scanned hs5 hu5); clear hs5 hu5)
                go_meet
                case rel =>
                  refine ⟨_, _, ⟨by rw [← HE.out.1]; simp, by rw [← HE.out.1]; simp only [List.length_append, List.length_cons, List.length_nil]; rw [Hk.out]; omega, by rw [← HE.out.1]; have := Hsz.out; omega, by rw [← HE.out.2, Hbq.out]; omega⟩, by show TBld _ _ _ _ _ _ _ _ _ _ _; rw [← HE.out.1, ← HE.out.2]; exact HT5.out⟩
        case rest =>
          have hcut2 := hcut
          obtain ⟨v, cs, Hb, HT⟩ := hcut2
          obtain ⟨b1, b2, b3, b4⟩ := Hb.out
          obtain ⟨L, hL⟩ : ∃ L, P.1.length = L := ⟨_, rfl⟩
          have hlen := len_row HT.out.row
          rw [hL] at hlen b2
          have HL3 := hide hL
          have hA : ∀ w, (Op.stringOp .add (headText nm P.1) ⟨#[41]⟩).run Tryz.prog w = .ok (.string (headText nm P.1 ++ ⟨#[41]⟩)) w := fun w => run_string_add_sum w _ _ (by show (headText nm P.1).size + 1 ≤ _; omega)
          have Hdone : Hid (headText nm P.1 ++ ⟨#[41]⟩ = (Trm.node nm P.1).text) := headText_close nm P.1 b1
          have HIs := hide (scanIs_z xb s P.2 41 41 rfl _ HT.out.scan hs (by omega))
          have hbp := blanksR_pos s P.2
          obtain ⟨bq, hbq⟩ : ∃ bq, (blanksR s P.2).pos = bq := ⟨_, rfl⟩
          have Hbq := hide hbq
          rw [hbq] at hbp
          have hxt : xb ≠ tb := by have := HT.out.tge; omega
          clear hbq hL b1 HL
          cases h41 : isR s 41 P.2
          · by_cases h3 : 3 < L
            · skip
              have HCl : Hid (closeR s a0 P = farR a0 (noR (blanksR s P.2)).next) := by show _ = _; unfold closeR; simp only [h41]; rw [if_pos (by rw [HL3.out]; omega)]; rfl
              have h3I : (3 : Int) < (L : Int) := by omega
              go_wp2_with (first
                | (go_at_call 134; refine HIs.out.mono ?_; rintro e w6 ⟨rfl, hs6, hu6⟩; rw [h41]; have HT6 := hide (HT.out.scanned hs6 hu6); clear hs6 hu6)
                | (go_at_call 110; refine (scanNo_any xb s (blanksR s P.2) _ HT6.out.scan).mono ?_; rintro e w7 ⟨rfl, hs7, hu7⟩; have HT6n := hide (HT6.out.scanned hs7 hu7); have g1 := HT6n.out.scan.c1; have gf := HT6n.out.scan.free; have q1 := HT6n.out.c1; have q2 := HT6n.out.c2; have qf := HT6n.out.free; rw [noR_pos, Hbq.out] at g1; have HT7 : Hid (TBld w ((w7.setCell ⟨xb, 1, none⟩ (.int .i64 (bq + 1))).setCell ⟨tb, 2, none⟩ (.string (headText nm P.1 ++ ⟨#[41]⟩))) xb tb s (noR (blanksR s P.2)).next nm (headText nm P.1 ++ ⟨#[41]⟩) P.1 v cs) := (HT6n.out.next (z := bq + 1) (by rw [noR_pos, Hbq.out])).texted _; clear hs7 hu7)
                | (go_at_call 133; refine (scanFar_any xb s (noR (blanksR s P.2)).next a0 _ HT7.out.scan).mono ?_; rintro e w8 ⟨rfl, hs8, hu8⟩; have HT8 := hide (HT7.out.scanned hs8 hu8); clear hs8 hu8))
              go_ret
              have hT := HT8.out
              exact ⟨tb, rfl, by rw [HR.out]; exact hT.done Hdone.out, by rw [HR.out]; show ScanAt _ _ _ (closeR s a0 P); rw [HCl.out]; exact hT.scan, hT.upd⟩
            · skip
              have HCl : Hid (closeR s a0 P = (noR (blanksR s P.2)).next) := by show _ = _; unfold closeR; simp only [h41]; rw [if_neg (by rw [HL3.out]; omega)]; rfl
              have h3I : ¬ (3 : Int) < (L : Int) := by omega
              go_wp2_with (first
                | (go_at_call 134; refine HIs.out.mono ?_; rintro e w6 ⟨rfl, hs6, hu6⟩; rw [h41]; have HT6 := hide (HT.out.scanned hs6 hu6); clear hs6 hu6)
                | (go_at_call 110; refine (scanNo_any xb s (blanksR s P.2) _ HT6.out.scan).mono ?_; rintro e w7 ⟨rfl, hs7, hu7⟩; have HT6n := hide (HT6.out.scanned hs7 hu7); have g1 := HT6n.out.scan.c1; have gf := HT6n.out.scan.free; have q1 := HT6n.out.c1; have q2 := HT6n.out.c2; have qf := HT6n.out.free; rw [noR_pos, Hbq.out] at g1; have HT7 : Hid (TBld w ((w7.setCell ⟨xb, 1, none⟩ (.int .i64 (bq + 1))).setCell ⟨tb, 2, none⟩ (.string (headText nm P.1 ++ ⟨#[41]⟩))) xb tb s (noR (blanksR s P.2)).next nm (headText nm P.1 ++ ⟨#[41]⟩) P.1 v cs) := (HT6n.out.next (z := bq + 1) (by rw [noR_pos, Hbq.out])).texted _; clear hs7 hu7))
              go_ret
              have hT := HT7.out
              exact ⟨tb, rfl, by rw [HR.out]; exact hT.done Hdone.out, by rw [HR.out]; show ScanAt _ _ _ (closeR s a0 P); rw [HCl.out]; exact hT.scan, hT.upd⟩
          · by_cases h3 : 3 < L
            · skip
              have HCl : Hid (closeR s a0 P = farR a0 (blanksR s P.2).next) := by show _ = _; unfold closeR; simp only [h41]; rw [if_pos (by rw [HL3.out]; omega)]; rfl
              have h3I : (3 : Int) < (L : Int) := by omega
              go_wp2_with (first
                | (go_at_call 134; refine HIs.out.mono ?_; rintro e w6 ⟨rfl, hs6, hu6⟩; rw [h41]; have HT6 := hide (HT.out.scanned hs6 hu6); have g1 := HT6.out.scan.c1; have gf := HT6.out.scan.free; have q1 := HT6.out.c1; have q2 := HT6.out.c2; have qf := HT6.out.free; rw [Hbq.out] at g1; have HT7 : Hid (TBld w ((w6.setCell ⟨xb, 1, none⟩ (.int .i64 (bq + 1))).setCell ⟨tb, 2, none⟩ (.string (headText nm P.1 ++ ⟨#[41]⟩))) xb tb s (blanksR s P.2).next nm (headText nm P.1 ++ ⟨#[41]⟩) P.1 v cs) := (HT6.out.next (z := bq + 1) (by rw [Hbq.out])).texted _; clear hs6 hu6)
                | (go_at_call 133; refine (scanFar_any xb s (blanksR s P.2).next a0 _ HT7.out.scan).mono ?_; rintro e w8 ⟨rfl, hs8, hu8⟩; have HT8 := hide (HT7.out.scanned hs8 hu8); clear hs8 hu8))
              go_ret
              have hT := HT8.out
              exact ⟨tb, rfl, by rw [HR.out]; exact hT.done Hdone.out, by rw [HR.out]; show ScanAt _ _ _ (closeR s a0 P); rw [HCl.out]; exact hT.scan, hT.upd⟩
            · skip
              have HCl : Hid (closeR s a0 P = (blanksR s P.2).next) := by show _ = _; unfold closeR; simp only [h41]; rw [if_neg (by rw [HL3.out]; omega)]; rfl
              have h3I : ¬ (3 : Int) < (L : Int) := by omega
              go_wp2_with (first
                | (go_at_call 134; refine HIs.out.mono ?_; rintro e w6 ⟨rfl, hs6, hu6⟩; rw [h41]; have HT6 := hide (HT.out.scanned hs6 hu6); have g1 := HT6.out.scan.c1; have gf := HT6.out.scan.free; have q1 := HT6.out.c1; have q2 := HT6.out.c2; have qf := HT6.out.free; rw [Hbq.out] at g1; have HT7 : Hid (TBld w ((w6.setCell ⟨xb, 1, none⟩ (.int .i64 (bq + 1))).setCell ⟨tb, 2, none⟩ (.string (headText nm P.1 ++ ⟨#[41]⟩))) xb tb s (blanksR s P.2).next nm (headText nm P.1 ++ ⟨#[41]⟩) P.1 v cs) := (HT6.out.next (z := bq + 1) (by rw [Hbq.out])).texted _; clear hs6 hu6))
              go_ret
              have hT := HT7.out
              exact ⟨tb, rfl, by rw [HR.out]; exact hT.done Hdone.out, by rw [HR.out]; show ScanAt _ _ _ (closeR s a0 P); rw [HCl.out]; exact hT.scan, hT.upd⟩
      · have hop' : isR s 40 x2 = false := by simpa using hop
        have HR : Hid (termR s (n + 1) d x = (.node nm [], blanksR s x2)) := by show _ = _; unfold termR; rw [Hx2.out, if_neg hop, hH1.out]
        go_wp2_with (go_at_call 134; refine HIs.out.mono ?_; rintro e wi ⟨rfl, hsi, hui⟩; rw [hop']; have HTi := hide (hcut.out.scanned hsi hui); clear hsi hui)
        go_ret
        have hT := HTi.out
        exact ⟨tb, rfl, by rw [HR.out]; exact hT.done (text_leaf nm).symm, by rw [HR.out]; exact hT.scan, hT.upd⟩
end Go.Proofs.YtmfkpllnmmfpiaaGreatDoor

/-
  The document's reader, walked: sign.
-/
namespace Go.Proofs.YtmfkpllnmmfpiaaGreatDoor
open Go.RowKit

theorem scanTerm_any : ∀ n, 1 ≤ n → RTermOK n
  | 0, h => absurd h (by omega)
  | n + 1, _ => scanTerm_step n (scanTerm_any n)
theorem blanksR_again (s : ByteArray) (x : Sc) : blanksR s (blanksR s x) = blanksR s x := by
  unfold blanksR
  simp only
  rw [blank_again]
theorem isR_again (s : ByteArray) (c : Int) (x : Sc) : isR s c (blanksR s x) = isR s c x := by
  unfold isR blanksR
  simp only
  rw [blank_again]
theorem isR_other {s : ByteArray} {c e : Int} {x : Sc} (h : isR s c x = true) (he : c ≠ e) : isR s e x = false := by
  unfold isR at h ⊢
  simp only [Bool.and_eq_true, decide_eq_true_eq] at h
  simp [h.2, he]
theorem isR_byte {s : ByteArray} {c : Int} {x : Sc} (h : isR s c x = true) : byteAt s (blanksR s x).pos = c := by
  unfold isR at h
  simp only [Bool.and_eq_true, decide_eq_true_eq] at h
  exact h.2

set_option maxHeartbeats 4000000 in
set_option maxRecDepth 100000 in
theorem scanSign_any (xb : Nat) (s : ByteArray) (x : Sc) (w : World) (h : ScanAt w xb s x) (hs : s.size ≤ 1000) (hp : x.pos ≤ 90000) :
    Calls Tryz.prog 108 #[.pointer (some ⟨xb, 0, none⟩)] w fun e w' => e = .returned (.bool (signR s x).1) ∧ ScanAt w' xb s (signR s x).2 ∧ Upd [xb] w w' := by
  have HI := hide (scanIs_z xb s x 61 61 rfl w h hs (by omega))
  have hbp := blanksR_pos s x
  obtain ⟨y, hy⟩ : ∃ y, blanksR s x = y := ⟨_, rfl⟩
  have hyy : blanksR s y = y := by rw [← hy, blanksR_again]
  have hyi : ∀ c, isR s c y = isR s c x := fun c => by rw [← hy, isR_again]
  rw [hy] at hbp
  have HJ := hide (fun (W : World) (hh : ScanAt W xb s y) => scanIs_z xb s y 33 33 rfl W hh hs (by omega))
  have Hy := hide hy
  have Hyy := hide hyy
  have Hyi := hide hyi
  have hyp : y.pos ≤ 91000 := by omega
  clear h hyy hyi hy
  cases h61 : isR s 61 x
  · cases h33 : isR s 33 x
    · have HR : Hid (signR s x = (false, noR y)) := by show _ = _; unfold signR; rw [h61, h33, Hy.out]; rfl
      go_enter Tryz.func108, Tryz.ntmps108
      go_wp2_with (first
        | (go_at_call_of 134 (Value.int .u8 61); refine HI.out.mono ?_; rintro e w2 ⟨rfl, hs2, hu2⟩; rw [h61]; rw [Hy.out] at hs2; have HS2 := hide hs2; have HU2 := hide hu2; clear hs2 hu2)
        | (go_at_call_of 134 (Value.int .u8 33); refine (HJ.out _ HS2.out).mono ?_; rintro e w3 ⟨rfl, hs3, hu3⟩; rw [Hyi.out, h33]; rw [Hyy.out] at hs3; have HS3 := hide hs3; have HU3 := hide (HU2.out.trans hu3); clear hs3 hu3)
        | (go_at_call 110; refine (scanNo_any xb s y _ HS3.out).mono ?_; rintro e w4 ⟨rfl, hs4, hu4⟩; have HS4 := hide hs4; have HU4 := hide (HU3.out.trans hu4); clear hs4 hu4))
      go_ret
      exact ⟨by rw [HR.out]; rfl, by rw [HR.out]; exact HS4.out, HU4.out⟩
    · have hlt := (isR_pos h33).1
      rw [Hy.out] at hlt
      obtain ⟨p, hpE⟩ : ∃ p, y.pos = p := ⟨_, rfl⟩
      have HpE := hide hpE
      rw [hpE] at hlt hyp
      have hnp : Hid (y.next.pos = p + 1) := by show y.pos + 1 = _; rw [hpE]
      clear hpE
      obtain ⟨q, hqE⟩ : ∃ q, p + 1 = q := ⟨_, rfl⟩
      have HqE := hide hqE
      have hqb : q ≤ 92000 := by omega
      clear hqE
      by_cases he : q < s.size
      · have hbt := byteAt_get s q he
        have hltI : (q : Int) < (s.size : Int) := by omega
        by_cases hb : byteAt s q = 61
        · have HR : Hid (signR s x = (false, y.next.next)) := by
            show _ = _
            unfold signR
            rw [h61, h33, Hy.out, if_neg (by decide), if_pos rfl, if_neg (by rw [hnp.out, HqE.out]; simp only [hb]; omega)]
          go_enter Tryz.func108, Tryz.ntmps108
          go_wp2_with (first
            | (go_at_call_of 134 (Value.int .u8 61); refine HI.out.mono ?_; rintro e w2 ⟨rfl, hs2, hu2⟩; rw [h61]; rw [Hy.out] at hs2; have HS2 := hide hs2; have HU2 := hide hu2; clear hs2 hu2)
            | (go_at_call_of 134 (Value.int .u8 33); refine (HJ.out _ HS2.out).mono ?_; rintro e w3 ⟨rfl, hs3, hu3⟩; rw [Hyi.out, h33]; rw [Hyy.out] at hs3; have HS3 := hide hs3; have HU3 := hide (HU2.out.trans hu3); have g0 := hs3.c0; have g1 := hs3.c1; have gf := hs3.free; rw [HpE.out] at g1; clear hs3 hu3))
          have hS : ScanAt (w3.setCell ⟨xb, 1, none⟩ (.int .i64 (p + 1))) xb s y.next := HS3.out.set1 (p := y.pos + 1) (v := p + 1) (by rw [HpE.out]; omega)
          have hU : Upd [xb] w (w3.setCell ⟨xb, 1, none⟩ (.int .i64 (p + 1))) := HU3.out.setCell (by simp) _
          obtain ⟨W, hW⟩ : ∃ W, W = w3.setCell ⟨xb, 1, none⟩ (.int .i64 (p + 1)) := ⟨_, rfl⟩
          rw [← hW] at hS hU
          rw [← hW]
          have k0 := hS.c0
          have k1 := hS.c1
          have kf := hS.free
          rw [hnp.out, HqE.out] at k1
          have HSW := hide hS
          have HUW := hide hU
          clear hS hU hW g0 g1 gf HS3 HU3 HS2 HU2
          have hb' : (byteAt s q != 61) = false := by simp [hb]
          have hge : decide ((s.size : Int) ≤ (q : Int)) = false := by simp; omega
          have hge' : ¬ (s.size : Int) ≤ (q : Int) := by omega
          go_quiet (fail)
          go_wp2
          go_ret
          exact ⟨by rw [HR.out]; rfl, by rw [HR.out]; exact (HSW.out.drewN _).set1 (p := y.next.pos + 1) (by rw [hnp.out, HqE.out]; omega), (HUW.out.drewN _).setCell (by simp) _⟩
        · have HR : Hid (signR s x = (false, (noR y.next).next)) := by
            show _ = _
            unfold signR
            rw [h61, h33, Hy.out, if_neg (by decide), if_pos rfl, if_pos (by rw [hnp.out, HqE.out]; exact .inr hb)]
          go_enter Tryz.func108, Tryz.ntmps108
          go_wp2_with (first
            | (go_at_call_of 134 (Value.int .u8 61); refine HI.out.mono ?_; rintro e w2 ⟨rfl, hs2, hu2⟩; rw [h61]; rw [Hy.out] at hs2; have HS2 := hide hs2; have HU2 := hide hu2; clear hs2 hu2)
            | (go_at_call_of 134 (Value.int .u8 33); refine (HJ.out _ HS2.out).mono ?_; rintro e w3 ⟨rfl, hs3, hu3⟩; rw [Hyi.out, h33]; rw [Hyy.out] at hs3; have HS3 := hide hs3; have HU3 := hide (HU2.out.trans hu3); have g0 := hs3.c0; have g1 := hs3.c1; have gf := hs3.free; rw [HpE.out] at g1; clear hs3 hu3))
          have hS : ScanAt (w3.setCell ⟨xb, 1, none⟩ (.int .i64 (p + 1))) xb s y.next := HS3.out.set1 (p := y.pos + 1) (v := p + 1) (by rw [HpE.out]; omega)
          have hU : Upd [xb] w (w3.setCell ⟨xb, 1, none⟩ (.int .i64 (p + 1))) := HU3.out.setCell (by simp) _
          obtain ⟨W, hW⟩ : ∃ W, W = w3.setCell ⟨xb, 1, none⟩ (.int .i64 (p + 1)) := ⟨_, rfl⟩
          rw [← hW] at hS hU
          rw [← hW]
          have k0 := hS.c0
          have k1 := hS.c1
          have kf := hS.free
          rw [hnp.out, HqE.out] at k1
          have HSW := hide hS
          have HUW := hide hU
          clear hS hU hW g0 g1 gf HS3 HU3 HS2 HU2
          have hb' : (byteAt s q != 61) = true := by simp [hb]
          have hge : decide ((s.size : Int) ≤ (q : Int)) = false := by simp; omega
          have hge' : ¬ (s.size : Int) ≤ (q : Int) := by omega
          go_quiet (fail)
          go_wp2_with (go_at_call 110; refine (scanNo_any xb s y.next _ (HSW.out.drewN _)).mono ?_; rintro e w5 ⟨rfl, hs5, hu5⟩; have g51 := hs5.c1; have gf5 := hs5.free; rw [noR_pos, hnp.out, HqE.out] at g51; have HS5 := hide hs5; have HU5 := hide ((HUW.out.drewN _).trans hu5); clear hs5 hu5)
          go_ret
          exact ⟨by rw [HR.out]; rfl, by rw [HR.out]; exact HS5.out.set1 (p := (noR y.next).pos + 1) (by rw [noR_pos, hnp.out, HqE.out]; omega), HU5.out.setCell (by simp) _⟩
      · have HR : Hid (signR s x = (false, (noR y.next).next)) := by
          show _ = _
          unfold signR
          rw [h61, h33, Hy.out, if_neg (by decide), if_pos rfl, if_pos (by rw [hnp.out, HqE.out]; exact .inl (by omega))]
        go_enter Tryz.func108, Tryz.ntmps108
        go_wp2_with (first
          | (go_at_call_of 134 (Value.int .u8 61); refine HI.out.mono ?_; rintro e w2 ⟨rfl, hs2, hu2⟩; rw [h61]; rw [Hy.out] at hs2; have HS2 := hide hs2; have HU2 := hide hu2; clear hs2 hu2)
          | (go_at_call_of 134 (Value.int .u8 33); refine (HJ.out _ HS2.out).mono ?_; rintro e w3 ⟨rfl, hs3, hu3⟩; rw [Hyi.out, h33]; rw [Hyy.out] at hs3; have HS3 := hide hs3; have HU3 := hide (HU2.out.trans hu3); have g0 := hs3.c0; have g1 := hs3.c1; have gf := hs3.free; rw [HpE.out] at g1; clear hs3 hu3))
        have hS : ScanAt (w3.setCell ⟨xb, 1, none⟩ (.int .i64 (p + 1))) xb s y.next := HS3.out.set1 (p := y.pos + 1) (v := p + 1) (by rw [HpE.out]; omega)
        have hU : Upd [xb] w (w3.setCell ⟨xb, 1, none⟩ (.int .i64 (p + 1))) := HU3.out.setCell (by simp) _
        obtain ⟨W, hW⟩ : ∃ W, W = w3.setCell ⟨xb, 1, none⟩ (.int .i64 (p + 1)) := ⟨_, rfl⟩
        rw [← hW] at hS hU
        rw [← hW]
        have k0 := hS.c0
        have k1 := hS.c1
        have kf := hS.free
        rw [hnp.out, HqE.out] at k1
        have HSW := hide hS
        have HUW := hide hU
        clear hS hU hW g0 g1 gf HS3 HU3 HS2 HU2
        have hge : decide ((s.size : Int) ≤ (q : Int)) = true := by simp; omega
        have hge' : (s.size : Int) ≤ (q : Int) := by omega
        go_quiet (fail)
        go_wp2_with (go_at_call 110; refine (scanNo_any xb s y.next _ (HSW.out.drewN _)).mono ?_; rintro e w5 ⟨rfl, hs5, hu5⟩; have g51 := hs5.c1; have gf5 := hs5.free; rw [noR_pos, hnp.out, HqE.out] at g51; have HS5 := hide hs5; have HU5 := hide ((HUW.out.drewN _).trans hu5); clear hs5 hu5)
        go_ret
        exact ⟨by rw [HR.out]; rfl, by rw [HR.out]; exact HS5.out.set1 (p := (noR y.next).pos + 1) (by rw [noR_pos, hnp.out, HqE.out]; omega), HU5.out.setCell (by simp) _⟩
  · have h33 := isR_other (e := 33) h61 (by decide)
    have HR : Hid (signR s x = (true, y.next)) := by show _ = _; unfold signR; rw [h61, Hy.out]; rfl
    obtain ⟨p, hpE⟩ : ∃ p, y.pos = p := ⟨_, rfl⟩
    have HpE := hide hpE
    rw [hpE] at hyp
    clear hpE
    go_enter Tryz.func108, Tryz.ntmps108
    go_wp2_with (first
      | (go_at_call_of 134 (Value.int .u8 61); refine HI.out.mono ?_; rintro e w2 ⟨rfl, hs2, hu2⟩; rw [h61]; rw [Hy.out] at hs2; have HS2 := hide hs2; have HU2 := hide hu2; clear hs2 hu2)
      | (go_at_call_of 134 (Value.int .u8 33); refine (HJ.out _ HS2.out).mono ?_; rintro e w3 ⟨rfl, hs3, hu3⟩; rw [Hyi.out, h33]; rw [Hyy.out] at hs3; have HS3 := hide hs3; have HU3 := hide (HU2.out.trans hu3); have g0 := hs3.c0; have g1 := hs3.c1; have gf := hs3.free; rw [HpE.out] at g1; clear hs3 hu3))
    go_quiet (fail)
    go_wp2
    go_ret
    have hS := (HS3.out.set1 (p := y.pos + 1) (v := p + 1) (by rw [HpE.out]; omega)).drewN nq
    exact ⟨by rw [HR.out]; rfl, by rw [HR.out]; exact hS, (HU3.out.setCell (by simp) _).drewN nq⟩
end Go.Proofs.YtmfkpllnmmfpiaaGreatDoor

/-
  The document's reader, walked: Read.
-/
namespace Go.Proofs.YtmfkpllnmmfpiaaGreatDoor
open Go.RowKit

theorem signR_pos (s : ByteArray) (x : Sc) : x.pos ≤ (signR s x).2.pos ∧ (signR s x).2.pos ≤ max x.pos s.size + 2 := by
  have h := blanksR_pos s x
  unfold signR
  split
  · show _ ≤ (blanksR s x).pos + 1 ∧ (blanksR s x).pos + 1 ≤ _
    omega
  · split
    · have e : ∀ (c : Prop) [Decidable c] (z : Sc), (if c then noR z else z).next.pos = z.pos + 1 := fun c _ z => by
        split
        · show (noR z).pos + 1 = _
          rw [noR_pos]
        · rfl
      dsimp only
      have e2 := e (s.size ≤ (blanksR s x).next.pos ∨ byteAt s (blanksR s x).next.pos ≠ 61) (blanksR s x).next
      have e3 : (blanksR s x).next.pos = (blanksR s x).pos + 1 := rfl
      omega
    · rw [noR_pos]
      omega
/-- A sentence of the document in block b. -/
structure IsRS (w : World) (Z : Nat → Prop) (x : ST) (b : Nat) : Prop where
  lt : b < w.heap.size
  inZ : Z b
  eq : w.cell? ⟨b, 0, none⟩ = some (.bool x.eq)
  sides : ∃ lb rb, w.cell? ⟨b, 1, none⟩ = some (.pointer (some ⟨lb, 0, none⟩)) ∧ w.cell? ⟨b, 2, none⟩ = some (.pointer (some ⟨rb, 0, none⟩)) ∧ IsRT w Z x.l lb ∧ IsRT w Z x.r rb
theorem IsRS.later {w w' : World} {L : List Nat} {Z : Nat → Prop} {x : ST} {b : Nat} (h : IsRS w Z x b) (hu : Upd L w w') (hL : ∀ k, Z k → k ∉ L) : IsRS w' Z x b := by
  obtain ⟨lb, rb, h1, h2, h3, h4⟩ := h.sides
  exact ⟨Nat.lt_of_lt_of_le h.lt hu.size, h.inZ, (hu.cell h.lt (hL _ h.inZ)).trans h.eq, lb, rb, (hu.cell h.lt (hL _ h.inZ)).trans h1, (hu.cell h.lt (hL _ h.inZ)).trans h2, h3.later hu hL, h4.later hu hL⟩
theorem IsRS.mono {w : World} {Z Z' : Nat → Prop} {x : ST} {b : Nat} (h : IsRS w Z x b) (hm : ∀ k, Z k → k < w.heap.size → Z' k) : IsRS w Z' x b := by
  obtain ⟨lb, rb, h1, h2, h3, h4⟩ := h.sides
  exact ⟨h.lt, hm _ h.inZ h.lt, h.eq, lb, rb, h1, h2, h3.mono hm, h4.mono hm⟩
/-- Reading under way. -/
structure RSt (w wr : World) (xb yb : Nat) (s : ByteArray) (x : Sc) (e : Bool) (L R : Value) : Prop where
  scan : ScanAt wr xb s x
  xge : w.heap.size ≤ xb
  xy : xb < yb
  lt : yb < wr.heap.size
  free : ∀ o, wr.frozen? ⟨yb, o, none⟩ = false
  c0 : wr.cell? ⟨yb, 0, none⟩ = some (.bool e)
  c1 : wr.cell? ⟨yb, 1, none⟩ = some L
  c2 : wr.cell? ⟨yb, 2, none⟩ = some R
  upd : Upd [] w wr
section
variable {w wr w2 : World} {xb yb : Nat} {s : ByteArray} {x x2 : Sc} {e : Bool} {L R : Value}
theorem RSt.scanned (h : RSt w wr xb yb s x e L R) (hs : ScanAt w2 xb s x2) (hu : Upd [xb] wr w2) : RSt w w2 xb yb s x2 e L R := by
  have h1 := h.xge
  have h2 := h.xy
  have hn : yb ∉ [xb] := by simp; omega
  exact ⟨hs, h1, h2, Nat.lt_of_lt_of_le h.lt hu.size, fun o => (hu.frozen (p := ⟨yb, o, none⟩) h.lt hn).trans (h.free o), (hu.cell h.lt hn).trans h.c0, (hu.cell h.lt hn).trans h.c1, (hu.cell h.lt hn).trans h.c2, h.upd.trans' hu (fun k hk hl => by simp at hk; omega)⟩
theorem RSt.set0 (h : RSt w wr xb yb s x e L R) (b : Bool) : RSt w (wr.setCell ⟨yb, 0, none⟩ (.bool b)) xb yb s x b L R := by
  have h1 := h.xge
  have h2 := h.xy
  have h0 := h.lt
  have hu : Upd [yb] wr (wr.setCell ⟨yb, 0, none⟩ (.bool b)) := (Upd.refl [yb] wr).setCell (by simp) _
  have g0 := h.c0
  have g1 := h.c1
  have g2 := h.c2
  have gf := h.free
  exact ⟨h.scan.later hu (by simp; omega), h1, h2, by simpa using h0, fun o => by simpa using gf o, by go_simp, by go_simp, by go_simp, h.upd.setCell (.inr (by show _ ≤ yb; omega)) _⟩
theorem RSt.set1 (h : RSt w wr xb yb s x e L R) (v : Value) : RSt w (wr.setCell ⟨yb, 1, none⟩ v) xb yb s x e v R := by
  have h1 := h.xge
  have h2 := h.xy
  have h0 := h.lt
  have hu : Upd [yb] wr (wr.setCell ⟨yb, 1, none⟩ v) := (Upd.refl [yb] wr).setCell (by simp) _
  have g0 := h.c0
  have g1 := h.c1
  have g2 := h.c2
  have gf := h.free
  exact ⟨h.scan.later hu (by simp; omega), h1, h2, by simpa using h0, fun o => by simpa using gf o, by go_simp, by go_simp, by go_simp, h.upd.setCell (.inr (by show _ ≤ yb; omega)) _⟩
theorem RSt.set2 (h : RSt w wr xb yb s x e L R) (v : Value) : RSt w (wr.setCell ⟨yb, 2, none⟩ v) xb yb s x e L v := by
  have h1 := h.xge
  have h2 := h.xy
  have h0 := h.lt
  have hu : Upd [yb] wr (wr.setCell ⟨yb, 2, none⟩ v) := (Upd.refl [yb] wr).setCell (by simp) _
  have g0 := h.c0
  have g1 := h.c1
  have g2 := h.c2
  have gf := h.free
  exact ⟨h.scan.later hu (by simp; omega), h1, h2, by simpa using h0, fun o => by simpa using gf o, by go_simp, by go_simp, by go_simp, h.upd.setCell (.inr (by show _ ≤ yb; omega)) _⟩
end
theorem RSt.begin_ (w : World) (s : ByteArray) : RSt w ((w.alloc (.cells #[.string s, .int .i64 0, .int .i64 (-1), .int .i64 (-1)] 181)).alloc (.cells #[.bool false, .pointer none, .pointer none] 174)) w.heap.size (w.heap.size + 1) s ⟨0, -1, -1⟩ false (.pointer none) (.pointer none) := by
  refine ⟨⟨by simp; omega, by go_simp, by go_simp, by go_simp, by go_simp, fun o => by go_simp⟩, Nat.le_refl _, by omega, by simp, fun o => by go_simp, by go_simp, by go_simp, by go_simp, ((Upd.refl [] w).alloc _).alloc _⟩

/-- What Read comes to. -/
def RefReadDone (w : World) (s : ByteArray) (e : Ending) (w' : World) : Prop :=
  Upd [] w w' ∧ match refRead s with
    | (none, k, p) => e = .returned (.tuple #[.pointer none, .int .i64 k, .int .i64 p])
    | (some x, _, _) => ∃ yb, e = .returned (.tuple #[.pointer (some ⟨yb, 0, none⟩), .int .i64 0, .int .i64 0]) ∧ IsRS w' (fun k => w.heap.size ≤ k ∧ k < w'.heap.size) x yb

set_option maxHeartbeats 8000000 in
set_option maxRecDepth 100000 in
theorem refRead_any (s : ByteArray) (w : World) : Calls Tryz.prog 75 #[.string s] w (RefReadDone w s) := by
  by_cases hs : s.size ≤ 200
  · obtain ⟨l, hl⟩ : ∃ l, (termR s (s.size + 1) 0 ⟨0, -1, -1⟩).1 = l := ⟨_, rfl⟩
    obtain ⟨x1, hx1⟩ : ∃ x1, (termR s (s.size + 1) 0 ⟨0, -1, -1⟩).2 = x1 := ⟨_, rfl⟩
    obtain ⟨eq, heq⟩ : ∃ eq, (signR s x1).1 = eq := ⟨_, rfl⟩
    obtain ⟨x2, hx2⟩ : ∃ x2, (signR s x1).2 = x2 := ⟨_, rfl⟩
    obtain ⟨r, hr⟩ : ∃ r, (termR s (s.size + 1) 0 x2).1 = r := ⟨_, rfl⟩
    obtain ⟨x3, hx3⟩ : ∃ x3, (termR s (s.size + 1) 0 x2).2 = x3 := ⟨_, rfl⟩
    obtain ⟨x4, hx4⟩ : ∃ x4, blanksR s x3 = x4 := ⟨_, rfl⟩
    have HX : Hid (scanR s = ⟨l, eq, r, if x4.bad < 0 ∧ x4.pos < s.size then noR x4 else x4⟩) := by
      show _ = _
      unfold scanR
      simp only [hl, hx1, heq, hx2, hr, hx3, hx4]
    have p1 := (term_pos s (s.size + 1) 0 ⟨0, -1, -1⟩).far
    have p2 := (signR_pos s x1).2
    have p3 := (term_pos s (s.size + 1) 0 x2).far
    have p4 := (blanksR_pos s x3).2
    rw [hx1] at p1
    rw [hx2] at p2
    rw [hx3] at p3
    rw [hx4] at p4
    simp only at p1
    have b1 : x1.pos ≤ 1000 := by omega
    have b2 : x2.pos ≤ 1000 := by omega
    have b3 : x3.pos ≤ 2000 := by omega
    have b4 : x4.pos ≤ 2000 := by omega
    have HT : Hid (∀ xb x W, x.pos ≤ 1000 → ScanAt W xb s x → _) := fun xb x W hx hh => scanTerm_any (s.size + 1) (by omega) s xb 0 x 0 W (by omega) rfl (by omega) (by omega) (by omega) hh
    have HSg : Hid (∀ xb W, ScanAt W xb s x1 → _) := fun xb W hh => scanSign_any xb s x1 W hh (by omega) (by omega)
    have HBl : Hid (∀ xb W, ScanAt W xb s x3 → _) := fun xb W hh => blanks_any xb s x3 W hh (by omega) (by omega)
    have H0 := hide (RSt.begin_ w s)
    have Hl := hide hl
    have Hx1 := hide hx1
    have Heq := hide heq
    have Hx2 := hide hx2
    have Hr := hide hr
    have Hx3 := hide hx3
    have Hx4 := hide hx4
    clear hl hx1 heq hx2 hr hx3 hx4 p1 p2 p3 p4
    have hsI : ¬ (200 : Int) < (s.size : Int) := by omega
    go_enter Tryz.func75, Tryz.ntmps75
    go_upto_region 5 with fail
    have h0 := H0.out
    obtain ⟨W0, hW0⟩ : ∃ W, W = (w.alloc (.cells #[.string s, .int .i64 0, .int .i64 (-1), .int .i64 (-1)] 181)).alloc (.cells #[.bool false, .pointer none, .pointer none] 174) := ⟨_, rfl⟩
    rw [← hW0] at h0
    rw [← hW0]
    obtain ⟨yb, hyb⟩ : ∃ yb, yb = w.heap.size + 1 := ⟨_, rfl⟩
    rw [← hyb] at h0
    rw [← hyb]
    obtain ⟨xb, hxb⟩ : ∃ xb, xb = w.heap.size := ⟨_, rfl⟩
    rw [← hxb] at h0
    rw [← hxb]
    have HS0 := hide h0
    clear h0 H0 hW0 hyb hxb hsI
    go_upto_region 6 with ((go_at_call 107; refine (HT.out xb ⟨0, -1, -1⟩ _ (by simp) HS0.out.scan).mono ?_; rintro e wa ⟨lb, rfl, hra, hsa, hua⟩; rw [Hl.out] at hra; rw [Hx1.out] at hsa; have HSa := hide (HS0.out.scanned hsa hua); have HRa := hide hra; have qa := HSa.out.c1; have qf := HSa.out.free; have qs := hua.size; clear hra hsa hua))
    have h1 := HSa.out.set1 (.pointer (some ⟨lb, 0, none⟩))
    have r1 := HRa.out.later ((Upd.refl [yb] wa).setCell (p := ⟨yb, 1, none⟩) (by simp) (.pointer (some ⟨lb, 0, none⟩))) (fun k hk hm => by have := HS0.out.lt; simp at hm; omega)
    have r1 := r1.mono (Z' := fun k => yb < k) (fun k hk _ => by have := HS0.out.lt; omega)
    obtain ⟨W1, hW1⟩ : ∃ W, W = wa.setCell ⟨yb, 1, none⟩ (.pointer (some ⟨lb, 0, none⟩)) := ⟨_, rfl⟩
    rw [← hW1] at h1 r1
    rw [← hW1]
    have HS1 := hide h1
    have HR1 := hide r1
    clear h1 r1 hW1 HSa HRa qa qf qs HS0
    go_upto_region 7 with ((go_at_call 108; refine (HSg.out xb _ HS1.out.scan).mono ?_; rintro e wb ⟨rfl, hsb, hub⟩; rw [Hx2.out] at hsb; rw [Heq.out]; have HSb := hide (HS1.out.scanned hsb hub); have HRb := hide (HR1.out.later hub (fun k hk hm => by have := HS1.out.xy; simp at hm; omega)); have qa := HSb.out.c0; have qf := HSb.out.free; clear hsb hub))
    have h2 := HSb.out.set0 eq
    have r2 := HRb.out.later ((Upd.refl [yb] wb).setCell (p := ⟨yb, 0, none⟩) (by simp) (.bool eq)) (fun k hk hm => by simp at hm; omega)
    obtain ⟨W2, hW2⟩ : ∃ W, W = wb.setCell ⟨yb, 0, none⟩ (.bool eq) := ⟨_, rfl⟩
    rw [← hW2] at h2 r2
    rw [← hW2]
    have HS2 := hide h2
    have HR2 := hide r2
    clear h2 r2 hW2 HSb HRb qa qf HS1 HR1
    go_upto_region 8 with ((go_at_call 107; refine (HT.out xb x2 _ b2 HS2.out.scan).mono ?_; rintro e wc ⟨rb, rfl, hrc, hsc, huc⟩; rw [Hr.out] at hrc; rw [Hx3.out] at hsc; have HSc := hide (HS2.out.scanned hsc huc); have HRc := hide hrc; have HLc := hide (HR2.out.later huc (fun k hk hm => by have := HS2.out.xy; simp at hm; omega)); have qa := HSc.out.c2; have qf := HSc.out.free; clear hrc hsc huc))
    have h3 := HSc.out.set2 (.pointer (some ⟨rb, 0, none⟩))
    have l3 := HLc.out.later ((Upd.refl [yb] wc).setCell (p := ⟨yb, 2, none⟩) (by simp) (.pointer (some ⟨rb, 0, none⟩))) (fun k hk hm => by simp at hm; omega)
    have r3 := HRc.out.later ((Upd.refl [yb] wc).setCell (p := ⟨yb, 2, none⟩) (by simp) (.pointer (some ⟨rb, 0, none⟩))) (fun k hk hm => by have := HS2.out.lt; simp at hm; omega)
    have r3 := r3.mono (Z' := fun k => yb < k) (fun k hk _ => by have := HS2.out.lt; omega)
    obtain ⟨W3, hW3⟩ : ∃ W, W = wc.setCell ⟨yb, 2, none⟩ (.pointer (some ⟨rb, 0, none⟩)) := ⟨_, rfl⟩
    rw [← hW3] at h3 l3 r3
    rw [← hW3]
    have HS3 := hide h3
    have HL3 := hide l3
    have HR3 := hide r3
    clear h3 l3 r3 hW3 HSc HRc HLc qa qf HS2 HR2
    by_cases hb : x4.bad < 0
    · by_cases hl4 : x4.pos < s.size
      · have HN : Hid ((noR x4).bad = x4.pos) := by show _ = _; unfold noR; rw [if_pos hb]
        have HF : Hid (refRead s = (none, 2, (x4.pos : Int))) := by
          show _ = _
          have hx := HX.out
          rw [if_pos ⟨hb, hl4⟩] at hx
          unfold refRead
          rw [hx]
          dsimp only
          rw [HN.out, if_neg (show ¬ 200 < s.size by omega), if_pos (show (0 : Int) ≤ (x4.pos : Int) by omega)]
        have hl4I : (x4.pos : Int) < (s.size : Int) := by omega
        have hge : (0 : Int) ≤ (x4.pos : Int) := by omega
        go_wp2_with (first
          | (go_at_call 109; refine (HBl.out xb _ HS3.out.scan).mono ?_; rintro e w4 ⟨rfl, hs4, hu4⟩; rw [Hx4.out] at hs4; have HS4 := hide (HS3.out.scanned hs4 hu4); have HU4 := hide hu4; have g1 := hs4.c1; have g2 := hs4.c2; have g3 := hs4.c3; clear hs4 hu4)
          | (go_at_call 110; refine (scanNo_any xb s x4 _ HS4.out.scan).mono ?_; rintro e w5 ⟨rfl, hs5, hu5⟩; have HS5 := hide (HS4.out.scanned hs5 hu5); have k2 := hs5.c2; rw [HN.out] at k2; clear hs5 hu5 g1 g2 g3))
        go_quiet (fail)
        go_wp2
        go_ret3
        exact ⟨HS5.out.upd.drewN _, by rw [HF.out]; rfl⟩
      · have hl4I : ¬ (x4.pos : Int) < (s.size : Int) := by omega
        by_cases ho : x4.out < 0
        · have HF : Hid (refRead s = (some ⟨eq, l, r⟩, 0, 0)) := by
            show _ = _
            have hx := HX.out
            rw [if_neg (fun h => hl4 h.2)] at hx
            unfold refRead
            rw [hx]
            dsimp only
            rw [if_neg (show ¬ 200 < s.size by omega), if_neg (show ¬ 0 ≤ x4.bad by omega), if_neg (show ¬ 0 ≤ x4.out by omega)]
          go_wp2_with (go_at_call 109; refine (HBl.out xb _ HS3.out.scan).mono ?_; rintro e w4 ⟨rfl, hs4, hu4⟩; rw [Hx4.out] at hs4; have HS4 := hide (HS3.out.scanned hs4 hu4); have HU4 := hide hu4; have g1 := hs4.c1; have g2 := hs4.c2; have g3 := hs4.c3; clear hs4 hu4)
          go_ret3
          have hS := HS4.out
          have h1 := hS.xge
          have h2 := hS.xy
          have tl := HL3.out.later HU4.out (fun k hk hm => by simp at hm; omega)
          have tr := HR3.out.later HU4.out (fun k hk hm => by simp at hm; omega)
          exact ⟨hS.upd, by rw [HF.out]; exact ⟨yb, rfl, hS.lt, ⟨by omega, hS.lt⟩, hS.c0, lb, rb, hS.c1, hS.c2, tl.mono (fun k hk hl => ⟨by omega, hl⟩), tr.mono (fun k hk hl => ⟨by omega, hl⟩)⟩⟩
        · have HF : Hid (refRead s = (none, 3, x4.out)) := by
            show _ = _
            have hx := HX.out
            rw [if_neg (fun h => hl4 h.2)] at hx
            unfold refRead
            rw [hx]
            dsimp only
            rw [if_neg (show ¬ 200 < s.size by omega), if_neg (show ¬ 0 ≤ x4.bad by omega), if_pos (show 0 ≤ x4.out by omega)]
          have ho' : (0 : Int) ≤ x4.out := by omega
          go_wp2_with (go_at_call 109; refine (HBl.out xb _ HS3.out.scan).mono ?_; rintro e w4 ⟨rfl, hs4, hu4⟩; rw [Hx4.out] at hs4; have HS4 := hide (HS3.out.scanned hs4 hu4); have HU4 := hide hu4; have g1 := hs4.c1; have g2 := hs4.c2; have g3 := hs4.c3; clear hs4 hu4)
          go_quiet (fail)
          go_wp2
          go_ret3
          exact ⟨HS4.out.upd.drewN _, by rw [HF.out]; rfl⟩
    · have HF : Hid (refRead s = (none, 2, x4.bad)) := by
        show _ = _
        have hx := HX.out
        rw [if_neg (fun h => hb h.1)] at hx
        unfold refRead
        rw [hx]
        dsimp only
        rw [if_neg (show ¬ 200 < s.size by omega), if_pos (show 0 ≤ x4.bad by omega)]
      have hb' : (0 : Int) ≤ x4.bad := by omega
      go_wp2_with (go_at_call 109; refine (HBl.out xb _ HS3.out.scan).mono ?_; rintro e w4 ⟨rfl, hs4, hu4⟩; rw [Hx4.out] at hs4; have HS4 := hide (HS3.out.scanned hs4 hu4); have HU4 := hide hu4; have g1 := hs4.c1; have g2 := hs4.c2; have g3 := hs4.c3; clear hs4 hu4)
      go_quiet (fail)
      go_wp2
      go_ret3
      exact ⟨HS4.out.upd.drewN _, by rw [HF.out]; rfl⟩
  · have HR : Hid (refRead s = (none, 1, 0)) := by show _ = _; unfold refRead; rw [if_pos (by omega)]
    have hsI : (200 : Int) < (s.size : Int) := by omega
    go_enter Tryz.func75, Tryz.ntmps75
    go_wp2
    go_ret3
    exact ⟨Upd.refl _ _, by rw [HR.out]; rfl⟩
end Go.Proofs.YtmfkpllnmmfpiaaGreatDoor
