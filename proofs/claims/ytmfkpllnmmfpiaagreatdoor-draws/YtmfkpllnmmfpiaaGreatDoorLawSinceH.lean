/-
  A Book of the program beside the document's: said, walked.
-/
import Derived.Test.YtmfkpllnmmfpiaaGreatDoorLawBothH
namespace Go.Proofs.YtmfkpllnmmfpiaaGreatDoor
open Go.RowKit

/-- A text in a row of texts that lies. -/
theorem strRow_form {w : World} {base : Nat} {v : Value} {l : List ByteArray} (h : StrRow w base v l) : ∃ a cap, v = .slice a l.length cap ∧ l.length ≤ cap ∧ cap ≤ maxLen ∧ (0 < l.length → ∃ g, a = some ⟨g, 0, none⟩ ∧ g < w.heap.size ∧ ∀ (i : Nat) (t : ByteArray), l[i]? = some t → w.cell? ⟨g, i, none⟩ = some (.string t)) := by
  rcases ownsRow_slice h with ⟨h1, h2⟩ | ⟨g, cap, h1, h2, h3⟩
  · rw [h2]
    exact ⟨none, 0, h1, Nat.le_refl _, by simp [maxLen], fun h => absurd h (Nat.lt_irrefl _)⟩
  · subst h1
    refine ⟨_, cap, rfl, h2, h3, fun _ => ⟨g, rfl, ownsRow_lt h rfl, fun i t ht => ?_⟩⟩
    have hi := (List.getElem?_eq_some_iff.1 ht).1
    have := h.cellAt i (by omega)
    rw [this]
    simp [ht]
set_option maxHeartbeats 2000000 in
set_option maxRecDepth 100000 in
theorem sameTexts_any (w : World) (B1 B2 : Nat) (v1 v2 : Value) (l1 l2 : List ByteArray) (h1 : StrRow w B1 v1 l1) (h2 : StrRow w B2 v2 l2) :
    Calls Tryz.prog 66 #[v1, v2] w fun e w' => e = .returned (.bool (decide (l1 = l2))) ∧ ∃ n, w' = w.drewN n := by
  obtain ⟨a1, cap1, hv1, c11, c12, f1⟩ := strRow_form h1
  obtain ⟨a2, cap2, hv2, c21, c22, f2⟩ := strRow_form h2
  subst hv1 hv2
  unfold maxLen at c12 c22
  by_cases hl : l1.length = l2.length
  · obtain ⟨n, hn⟩ : ∃ n, l1.length = n := ⟨_, rfl⟩
    have hn2 : l2.length = n := by rw [← hl, hn]
    rw [hn] at c11 f1 ⊢
    rw [hn2] at c21 f2 ⊢
    have F1 := hide f1
    have F2 := hide f2
    have Hn := hide hn
    have Hn2 := hide hn2
    clear f1 f2 hn hn2 hl h1 h2
    go_enter Tryz.func66, Tryz.ntmps66
    go_wp2
    go_loopw [5] (fun i wr => ∃ j m : Nat, j ≤ n ∧ i = .int .i64 j ∧ wr = w.drewN m ∧ Hid (∀ q, q < j → l1[q]? = l2[q]?)) (fun i _ => n - (intOf i).toNat)
    case atStart => exact ⟨0, 0, Nat.zero_le _, rfl, rfl, fun q hq => by omega⟩
    case round =>
      obtain ⟨j, m, hj, rfl, rfl, HJ⟩ := hrel
      by_cases hjn : j < n
      · have hjI : (j : Int) < (n : Int) := by omega
        obtain ⟨x, hx⟩ : ∃ x, l1[j]? = some x := ⟨_, List.getElem?_eq_getElem (by rw [Hn.out]; exact hjn)⟩
        obtain ⟨y, hy⟩ : ∃ y, l2[j]? = some y := ⟨_, List.getElem?_eq_getElem (by rw [Hn2.out]; exact hjn)⟩
        obtain ⟨g1, rfl, _, k1⟩ := F1.out (by omega)
        obtain ⟨g2, rfl, _, k2⟩ := F2.out (by omega)
        have q1 := k1 j x hx
        have q2 := k2 j y hy
        have Hx := hide hx
        have Hy := hide hy
        clear k1 k2 hx hy
        by_cases he : x = y
        · subst he
          go_wp2_with fail
          go_quiet (fail)
          go_wp2
          refine ⟨⟨j + 1, _, by omega, by simp, rfl, fun q hq => ?_⟩, by simp [intOf]; omega⟩
          by_cases e : q < j
          · exact HJ.out q e
          · obtain rfl : q = j := by omega
            rw [Hx.out, Hy.out]
        · have he2 := toList_ne he
          have HF : Hid (decide (l1 = l2) = false) := by
            show _ = _
            rw [decide_eq_false_iff_not]
            rintro rfl
            have := Hx.out
            rw [Hy.out] at this
            exact he (Option.some.inj this).symm
          go_wp2_with fail
          go_quiet (fail)
          go_wp2
          go_ret
          exact ⟨by rw [HF.out]; rfl, m + nq, by simp⟩
      · have hjI : ¬ (j : Int) < (n : Int) := by omega
        have HF : Hid (decide (l1 = l2) = true) := by
          show _ = _
          rw [decide_eq_true_eq]
          refine List.ext_getElem? fun q => ?_
          by_cases e : q < j
          · exact HJ.out q e
          · rw [List.getElem?_eq_none (by rw [Hn.out]; omega), List.getElem?_eq_none (by rw [Hn2.out]; omega)]
        go_wp2
        go_ret
        exact ⟨by rw [HF.out]; rfl, m, rfl⟩
  · have hl2 : ¬ (l1.length : Int) = (l2.length : Int) := by omega
    have hl3 : ((l1.length : Int) == (l2.length : Int)) = false := by simp; omega
    have HF : Hid (decide (l1 = l2) = false) := by
      show _ = _
      rw [decide_eq_false_iff_not]
      rintro rfl
      exact hl rfl
    clear f1 f2 h1 h2 hl
    go_enter Tryz.func66, Tryz.ntmps66
    go_wp2
    go_ret
    exact ⟨by rw [HF.out]; rfl, 0, rfl⟩

set_option maxHeartbeats 2000000 in
set_option maxRecDepth 100000 in
/-- A sentence's plain text, told by the document. -/
theorem refText_any (w : World) (Z : Nat → Prop) (x : ST) (b : Nat) (h : IsRS w Z x b) (hl : x.l.text.size ≤ 100000) (hr : x.r.text.size ≤ 100000) :
    Calls Tryz.prog 68 #[.pointer (some ⟨b, 0, none⟩)] w fun e w' => e = .returned (.string x.text) ∧ ∃ n, w' = w.drewN n := by
  obtain ⟨lb, rb, s1, s2, s3, s4⟩ := h.sides
  have x0 := h.eq
  have t1 := s3.text
  have t2 := s4.text
  obtain ⟨TL, hTL⟩ : ∃ TL, x.l.text = TL := ⟨_, rfl⟩
  obtain ⟨TR, hTR⟩ : ∃ TR, x.r.text = TR := ⟨_, rfl⟩
  rw [hTL] at t1 hl
  rw [hTR] at t2 hr
  cases hxe : x.eq with
  | true =>
    rw [hxe] at x0
    have HF : Hid (x.text = TL ++ (⟨#[32, 61, 32]⟩ : ByteArray) ++ TR) := by show _ = _; unfold ST.text; rw [hxe, hTL, hTR]; rfl
    have hA1 : ∀ w, (Op.stringOp .add TL ⟨#[32, 61, 32]⟩).run Tryz.prog w = .ok (.string (TL ++ ⟨#[32, 61, 32]⟩)) w := fun w => run_string_add_sum w _ _ (by show TL.size + 3 ≤ _; omega)
    have hsz : (TL ++ (⟨#[32, 61, 32]⟩ : ByteArray)).size = TL.size + 3 := by simp only [ByteArray.size_append]; rfl
    have hA2 : ∀ w, (Op.stringOp .add (TL ++ ⟨#[32, 61, 32]⟩) TR).run Tryz.prog w = .ok (.string (TL ++ ⟨#[32, 61, 32]⟩ ++ TR)) w := fun w => run_string_add_sum w _ _ (by omega)
    clear h s3 s4 hxe hTL hTR hsz
    go_enter Tryz.func68, Tryz.ntmps68
    go_wp2_with fail
    go_quiet (fail)
    go_wp2
    go_ret
    exact ⟨by rw [HF.out]; rfl, _, rfl⟩
  | false =>
    rw [hxe] at x0
    have HF : Hid (x.text = TL ++ (⟨#[32, 33, 61, 32]⟩ : ByteArray) ++ TR) := by show _ = _; unfold ST.text; rw [hxe, hTL, hTR]; rfl
    have hA1 : ∀ w, (Op.stringOp .add TL ⟨#[32, 33, 61, 32]⟩).run Tryz.prog w = .ok (.string (TL ++ ⟨#[32, 33, 61, 32]⟩)) w := fun w => run_string_add_sum w _ _ (by show TL.size + 4 ≤ _; omega)
    have hsz : (TL ++ (⟨#[32, 33, 61, 32]⟩ : ByteArray)).size = TL.size + 4 := by simp only [ByteArray.size_append]; rfl
    have hA2 : ∀ w, (Op.stringOp .add (TL ++ ⟨#[32, 33, 61, 32]⟩) TR).run Tryz.prog w = .ok (.string (TL ++ ⟨#[32, 33, 61, 32]⟩ ++ TR)) w := fun w => run_string_add_sum w _ _ (by omega)
    clear h s3 s4 hxe hTL hTR hsz
    go_enter Tryz.func68, Tryz.ntmps68
    go_wp2_with fail
    go_quiet (fail)
    go_wp2
    go_ret
    exact ⟨by rw [HF.out]; rfl, _, rfl⟩
theorem Both.sides {S : WS} {L : List ST} (h : Both S L) {x : ST} (hx : x ∈ L) : x.l.text.size ≤ 1000 ∧ x.r.text.size ≤ 1000 := by
  obtain ⟨y, _, _, d1, d2⟩ := h.holds.said.fromR x hx
  have k : ∀ (t : Trm) (i : Nat), DenE S t i → t.text.size ≤ 1000 := fun t i d => by
    have := h.text.short (i + 1) i
    rw [den_plain h.holds.fine.web.base d (i + 1) (by omega)] at this
    rw [text_size]
    exact this
  exact ⟨k _ _ d1, k _ _ d2⟩
set_option maxHeartbeats 4000000 in
set_option maxRecDepth 100000 in
theorem saidL_any (w : World) (xb : Nat) (Z : Nat → Prop) (S : WS) (L : List ST) (M : List Nat) (h : BothAt w xb Z S L M) :
    Calls Tryz.prog 34 #[.pointer (some ⟨xb, 0, none⟩)] w fun e w' => ∃ v, e = .returned (.tuple #[v, .bool true]) ∧ Upd [] w w' ∧ StrRow w' w.heap.size v (saidOf S) := by
  obtain ⟨bb, rb, Zb, Zr, c0, c1, hb, hr, z1, z2⟩ := h.ex
  obtain ⟨i0, hi, hz0, hz1, hz2⟩ := info_parts info_str
  have HS := hide (bookSaid_any w bb Zb S hb h.both.holds.tags h.both.text)
  obtain ⟨sv, cs, d0, hrow⟩ := hr.said
  obtain ⟨a, cap, hv, hc1, hc2, hform⟩ := hrow.row.form
  subst hv
  obtain ⟨n, hn⟩ : ∃ n, L.length = n := ⟨_, rfl⟩
  have hcs : cs.length = n := by rw [hrow.len, hn]
  rw [hcs] at hc1 hform d0
  have hn40 : n ≤ 40 := by rw [← hn, ← h.both.length]; exact h.both.saids
  have Hn := hide hn
  have Hcs := hide hcs
  have Hform := hide hform
  have Hkids := hide hrow.kids
  have Hsides := hide (fun (x : ST) (hx : x ∈ L) => h.both.sides hx)
  have HE : Hid (saidOf S = L.map ST.text) := h.both.holds.texts
  have hxlt := h.lt
  have hrlt := hr.lt
  have HC1 := hide c1
  have HD0 := hide d0
  unfold maxLen at hc2
  clear h hb hr z1 z2 hrow hform hn hcs c1 d0
  go_enter Tryz.func34, Tryz.ntmps34
  go_wp2_with (go_at_call 17; refine HS.out.mono ?_; rintro e w2 ⟨lv, rfl, hu2, hr2⟩; have HU2 := hide hu2; have HR2 := hide hr2; have hs2 := hu2.size; clear hu2 hr2)
  go_loopw [5, 6] (fun mv i wr => ∃ j : Nat, j ≤ n ∧ i = .int .i64 j ∧ Hid (Upd [] w2 wr ∧ StrRow wr w2.heap.size mv ((L.map ST.text).take j))) (fun _ i _ => n - (intOf i).toNat)
  case atStart => exact ⟨0, Nat.zero_le _, rfl, Upd.refl _ _, ⟨rfl, .inl ⟨rfl, rfl⟩⟩⟩
  case round =>
    obtain ⟨j, hj, rfl, HJ⟩ := hrel
    obtain ⟨hU, hT⟩ := HJ.out
    have hUw := HU2.out.trans hU
    have k1 := (hUw.cell (p := ⟨xb, 1, none⟩) hxlt (by simp)).trans HC1.out
    have k2 := (hUw.cell (p := ⟨rb, 0, none⟩) hrlt (by simp)).trans HD0.out
    clear c0
    by_cases hjn : j < n
    · have hjI : (j : Int) < (n : Int) := by omega
      obtain ⟨x, hx⟩ : ∃ x, L[j]? = some x := ⟨_, List.getElem?_eq_getElem (by rw [Hn.out]; exact hjn)⟩
      obtain ⟨c, hc⟩ : ∃ c, cs[j]? = some c := ⟨_, List.getElem?_eq_getElem (by rw [Hcs.out]; exact hjn)⟩
      obtain ⟨g, rfl, hg1, _, hg3⟩ := Hform.out (by omega)
      have q0 := (hUw.cell (p := ⟨g, j, none⟩) hg1 (by simp)).trans (hg3 j c hc)
      obtain ⟨sz1, sz2⟩ := Hsides.out x (List.mem_of_getElem? hx)
      have HT := hide (refText_any wr _ x c ((Hkids.out j c x hc hx).later hUw (fun _ _ => by simp)) (by omega) (by omega))
      have hxm : (L.map ST.text)[j]? = some x.text := by rw [List.getElem?_map, hx]; rfl
      have hlj : ((L.map ST.text).take j).length = j := by rw [List.length_take, List.length_map, Hn.out]; omega
      obtain ⟨X, hX⟩ : ∃ X, x.text = X := ⟨_, rfl⟩
      rw [hX] at HT hxm
      have Hxm := hide hxm
      have HTk := hide hT
      have Hlj := hide hlj
      have HUr := hide hU
      have hsr := hU.size
      have hone : Hid (∀ u ∈ [Value.string X], u.oneCell' = true) := (fun u hu' => by simp at hu'; subst hu'; rfl)
      have hlm : j + 1 ≤ maxLen := by unfold maxLen; omega
      have hlb : (j + 1) * 16 ≤ 140737488355328 := by omega
      clear hX hx hc hg1 hg3 hxm hlj hT hU hUw sz1 sz2 HJ
      go_wp2_with (first
        | (go_at_call 68; refine HT.out.mono ?_; rintro e w4 ⟨rfl, m, hw4⟩; rw [hw4]; clear hw4 w4; have hrw := (((Upd.refl [] wr).drewN m).alloc (.cells #[.string X] 9)).ownsRow HTk.out (fun _ _ => by simp); rw [Hlj.out] at hrw; have Hrw := hide hrw; have Hnews : Hid (∀ j u, [Value.string X][j]? = some u → ((wr.drewN m).alloc (.cells #[.string X] 9)).cell? ((⟨(wr.drewN m).heap.size, 0, none⟩ : Addr).add j) = some u) := World.news_of_block (heap_alloc_new _ _); clear hrw)
        | (at_builtin; go_must (refine wpList_append_lies _ rfl _ _ 50 rfl w2.heap.size 9 i0 (.string ⟨#[]⟩) 1 16 Tryz.underlying50 hi hz0 hz1 hz2 rfl (by decide) _ _ _ rfl Hrw.out ⟨wr.heap.size, 0, none⟩ 1 1 [.string X] rfl rfl Hnews.out hone.out (by decide) hlm hlb (by simp; omega) _ rfl ?_); intro g1 cap1 w5 hown5 hgrow5 hat5 hlt5))
      refine ⟨⟨j + 1, by omega, by simp, ?_, ?_⟩, by simp [intOf]; omega⟩
      · exact ((HUr.out.drewN m).alloc _).trans' (show Upd u5.ownBlock.toList _ w5 from Upd.of_grown hgrow5) (fun k hk hl => by
          have := own_geT HTk.out (show u5.ownBlock = some k by simpa using hk)
          omega)
      · unfold StrRow
        rw [take_succ_get Hxm.out, List.map_append, List.length_append, Hlj.out]
        exact hown5
    · have hjI : ¬ (j : Int) < (n : Int) := by omega
      have hje : (L.map ST.text).take j = L.map ST.text := List.take_of_length_le (by rw [List.length_map, Hn.out]; omega)
      rw [hje] at hT
      have HSt := hide (sameTexts_any wr _ _ lv _ (saidOf S) (L.map ST.text) (show StrRow wr w.heap.size lv (saidOf S) from hU.ownsRow HR2.out (fun _ _ => by simp)) hT)
      have HD : Hid (decide (saidOf S = L.map ST.text) = true) := by show _ = _; rw [decide_eq_true_eq]; exact HE.out
      rw [HD.out] at HSt
      have HUw := hide hUw
      have HUr := hide hU
      clear hje hT hU hUw HJ
      go_wp2_with (go_at_call 66; refine HSt.out.mono ?_; rintro e w4 ⟨rfl, m, hw4⟩; rw [hw4]; clear hw4 w4)
      go_ret2
      exact ⟨_, rfl, HUw.out.drewN _, (HUr.out.drewN m).ownsRow HR2.out (fun _ _ => by simp)⟩
end Go.Proofs.YtmfkpllnmmfpiaaGreatDoor

/-
  Both Books, made since a world.
-/
namespace Go.Proofs.YtmfkpllnmmfpiaaGreatDoor
open Go.RowKit

theorem BothAt.mono {w : World} {xb : Nat} {Z Z' : Nat → Prop} {S : WS} {L : List ST} {M : List Nat} (h : BothAt w xb Z S L M) (hm : ∀ k, Z k → Z' k) (hl : ∀ k, Z' k → 0 < k ∧ k < w.heap.size) : BothAt w xb Z' S L M := by
  obtain ⟨bb, rb, Zb, Zr, c0, c1, hb, hr, z1, z2⟩ := h.ex
  exact ⟨h.lt, hm _ h.own, hl, ⟨bb, rb, Zb, Zr, c0, c1, hb, hr, fun k hk => ⟨hm k (z1 k hk).1, (z1 k hk).2⟩, fun k hk => ⟨hm k (z2 k hk).1, (z2 k hk).2⟩⟩, h.err, h.both⟩
/-- Both Books, all their blocks later than w0. -/
def Since (w0 w : World) (xb : Nat) (S : WS) (L : List ST) (M : List Nat) : Prop := BothAt w xb (fun k => w0.heap.size ≤ k ∧ k < w.heap.size) S L M ∧ Upd [] w0 w ∧ 0 < w0.heap.size
theorem Since.left {w0 w w' : World} {xb : Nat} {S S' : WS} {L L' : List ST} {M M' : List Nat} (h : Since w0 w xb S L M) (hl : Left w w' xb (fun k => w0.heap.size ≤ k ∧ k < w.heap.size) S' L' M') : Since w0 w' xb S' L' M' := by
  obtain ⟨_, hu, hp⟩ := h
  obtain ⟨h1, K, hK, u⟩ := hl
  have hs := hu.size
  refine ⟨h1.mono (fun k hk => ⟨?_, hk.2⟩) (fun k hk => ⟨by omega, hk.2⟩), hu.trans' u (fun k hk hlt => ?_), hp⟩
  · rcases hk.1 with h2 | h2
    · exact h2.1
    · omega
  · have := (hK k hk).1
    omega
theorem Since.look {w0 w w' : World} {xb : Nat} {S : WS} {L : List ST} {M : List Nat} (h : Since w0 w xb S L M) (hu : Upd [] w w') : Since w0 w' xb S L M := h.left (h.1.left hu)
theorem Since.say {w0 w : World} {xb : Nat} {S : WS} {L : List ST} {M : List Nat} (h : Since w0 w xb S L M) (s : ByteArray) (hmax : s.size ≤ maxLen) :
    Calls Tryz.prog 12 #[.pointer (some ⟨xb, 0, none⟩), .string s] w fun e w' => e = .returned (.bool true) ∧ Since w0 w' xb (sayOf S s).2 (sayR L s).2 M :=
  (sayL_any s hmax w xb _ S L M h.1).mono fun _ _ ⟨he, hl⟩ => ⟨he, h.left hl⟩
theorem Since.follows {w0 w : World} {xb : Nat} {S : WS} {L : List ST} {M : List Nat} (h : Since w0 w xb S L M) (s : ByteArray) (hmax : s.size ≤ maxLen) :
    Calls Tryz.prog 50 #[.pointer (some ⟨xb, 0, none⟩), .string s] w fun e w' => e = .returned (.bool true) ∧ Since w0 w' xb S L M :=
  (followsL_any s hmax w xb _ S L M h.1).mono fun _ _ ⟨he, hl⟩ => ⟨he, h.left hl⟩
theorem Since.said {w0 w : World} {xb : Nat} {S : WS} {L : List ST} {M : List Nat} (h : Since w0 w xb S L M) :
    Calls Tryz.prog 34 #[.pointer (some ⟨xb, 0, none⟩)] w fun e w' => ∃ v, e = .returned (.tuple #[v, .bool true]) ∧ Since w0 w' xb S L M :=
  (saidL_any w xb _ S L M h.1).mono fun _ _ ⟨v, he, hu, _⟩ => ⟨v, he, h.look hu⟩
theorem since_begun (w : World) (hE : ErrTab w) : Calls Tryz.prog 22 #[] w fun e w' => ∃ xb, e = .returned (.tuple #[.pointer (some ⟨xb, 0, none⟩), .bool true]) ∧ Since w w' xb noWS [] [] :=
  (begun_any w hE).mono fun _ _ ⟨xb, he, hb, hu⟩ => ⟨xb, he, hb, hu, hE.1⟩
end Go.Proofs.YtmfkpllnmmfpiaaGreatDoor
