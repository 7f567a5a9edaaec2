/-
  The reader's terms: 'term' and 'parts' read what the plain functions say, into new memory.
-/
import Derived.Test.YtmfkpllnmmfpiaaDoorNextH
import Derived.Test.YtmfkpllnmmfpiaaDoorCloneH
import Derived.Test.YtmfkpllnmmfpiaaDoorTermHeapH
namespace Go.Proofs.YtmfkpllnmmfpiaaDoor
open Go.RowKit

theorem info_term : (Tryd.prog.info? 71).map (fun i => (i.zero, i.size, i.bytes)) = some (some (.agg #[.string ⟨#[]⟩, .int .i64 0, .slice none 0 0]), 3, 48) := by kernel_rfl

/-- What 'term' leaves. -/
def TermDone (n : Nat) (s : ByteArray) (r : Nat) (st : Wd) (w : World) (e : Ending) (w' : World) : Prop :=
  ∃ (a : ByteArray) (p : Int) (g : Option Addr) (l c : Nat) (b : Bool), e = .returned (.tuple #[.agg #[.string a, .int .i64 p, .slice g l c], .bool b]) ∧
    Rd w' r s (termOf s n st).2.1 (termOf s n st).2.2.1 (termOf s n st).2.2.2 ∧ Upd [r] w w' ∧ b = (termOf s n st).1.isSome ∧
    ∀ t, (termOf s n st).1 = some t → IsTm w' (fun k => w.heap.size ≤ k) n (.string a, .int .i64 p, .slice g l c) t
def TermOK (n : Nat) : Prop := ∀ (s : ByteArray) (r : Nat) (st : Wd) (w : World), s.size ≤ 200 → Rd w r s st.1 st.2.1 st.2.2 → Fit s st → s.size < n + st.2.1 →
  Calls Tryd.prog 97 #[.pointer (some ⟨r, 0, none⟩)] w (TermDone n s r st w)
/-- What 'parts' leaves. -/
def PartsDone (n : Nat) (s : ByteArray) (r : Nat) (st : Wd) (w : World) (e : Ending) (w' : World) : Prop :=
  ∃ (g : Option Addr) (l c : Nat) (b : Bool), e = .returned (.tuple #[.slice g l c, .bool b]) ∧
    Rd w' r s (partsOf s (termOf s n) (s.size + 1) st).2.1 (partsOf s (termOf s n) (s.size + 1) st).2.2.1 (partsOf s (termOf s n) (s.size + 1) st).2.2.2 ∧ Upd [r] w w' ∧ b = (partsOf s (termOf s n) (s.size + 1) st).1.isSome ∧
    ∀ ps, (partsOf s (termOf s n) (s.size + 1) st).1 = some ps → ∃ cs : List V3, w'.ownsRow 0 71 3 (.slice g l c) ps.length (flat3 cs) ∧ (∀ k, (Value.slice g l c).ownBlock = some k → w.heap.size ≤ k) ∧ AllIs (IsTm w' (fun k => w.heap.size ≤ k) n) cs ps
def PartsOK (n : Nat) : Prop := ∀ (s : ByteArray) (r : Nat) (st : Wd) (w : World), s.size ≤ 200 → Rd w r s st.1 st.2.1 st.2.2 → Fit s st → st.2.1 < st.2.2 → s.size < n + 1 + st.2.1 →
  Calls Tryd.prog 111 #[.pointer (some ⟨r, 0, none⟩)] w (PartsDone n s r st w)

theorem allIs_grown {w wr w1 w2 w3 : World} {r n g : Nat} {v : Value} {X Y : Obj} {cs : List V3} {acc : List (Tm n)} {c : V3} {x : Tm n} (hrlt : r < w.heap.size) (hu : Upd [r] w wr) (hu1 : Upd [r] wr w1) (hu2 : Upd [r] w1 w2)
    (HO : wr.ownsRow w.heap.size 71 3 v acc.length (flat3 cs)) (HA : AllIs (IsTm wr (fun k => w.heap.size ≤ k ∧ some k ≠ v.ownBlock) n) cs acc)
    (hx : IsTm w2 (fun k => w1.heap.size ≤ k) n c x) (hgrow : ((w2.alloc X).alloc Y).grownBy w3 v.ownBlock) (hat : v.ownBlock = some g ∨ g = ((w2.alloc X).alloc Y).heap.size) :
    AllIs (IsTm w3 (fun k => w.heap.size ≤ k ∧ some k ≠ some g) n) (cs ++ [c]) (acc ++ [x]) := by
  have hs1 := hu.size
  have hs2 := hu1.size
  have hs3 := hu2.size
  have hend : ((w2.alloc X).alloc Y).heap.size = w2.heap.size + 2 := by simp
  have step : ∀ (c' : V3) (t : Tm n), IsTm w2 (fun k => w.heap.size ≤ k ∧ some k ≠ v.ownBlock ∧ k < w2.heap.size) n c' t → IsTm w3 (fun k => w.heap.size ≤ k ∧ some k ≠ some g) n c' t := by
    intro c' t h
    have h1 := h.later (((Upd.refl [] w2).alloc X).alloc Y) (fun _ _ => by simp)
    have h2 := h1.later (Upd.of_grown hgrow) (fun k hk hm => hk.2.1 (by simpa [eq_comm] using hm))
    refine h2.mono fun k hk _ => ⟨hk.1, fun e => ?_⟩
    obtain rfl := Option.some.inj e
    rcases hat with hat | hat
    · exact hk.2.1 hat.symm
    · omega
  refine AllIs.snoc (step _ _ (hx.mono fun k hk hlt => ⟨by omega, fun e => ?_, hlt⟩)) (HA.mono fun a b h => step _ _ ?_)
  · have := (HO.lt k e.symm).2
    omega
  · have h1 := h.later (hu1.trans hu2) (fun k hk hm => by simp at hm; omega)
    exact h1.mono fun k hk hlt => ⟨hk.1, hk.2, hlt⟩

theorem news3 (w : World) (X : Obj) (a b c : Value) (t : TypeId) : ∀ j u, [a, b, c][j]? = some u → ((w.alloc X).alloc (.cells #[a, b, c] t)).cell? ((⟨w.heap.size + 1, 0, none⟩ : Addr).add j) = some u := by
  have hb : ((w.alloc X).alloc (.cells #[a, b, c] t)).heap[w.heap.size + 1]? = some (.cells #[a, b, c] t (0, 0)) := by
    have := heap_alloc_new (w.alloc X) (.cells #[a, b, c] t)
    simpa using this
  exact World.news_of_block hb

set_option maxHeartbeats 2000000 in
set_option maxRecDepth 100000 in
theorem parts_of_term (n : Nat) (hT : TermOK n) : PartsOK n := by
  intro s r st w hs hrd hfit hlt hn
  have hrlt := hrd.lt
  go_enter Tryd.func111, Tryd.ntmps111
  go_wp2
  go_loopw [4] (fun v wr => ∃ (m : Nat) (st' : Wd) (acc : List (Tm n)) (cs : List V3), Fit s st' ∧ st.2.1 < st'.2.2 ∧ s.size < m + st'.2.2 ∧ acc.length ≤ st'.2.2 ∧
      Hid (partsOf s (termOf s n) (s.size + 1) st = aheadOf acc (partsOf s (termOf s n) m st')) ∧ Rd wr r s st'.1 st'.2.1 st'.2.2 ∧ Upd [r] w wr ∧
      Hid (wr.ownsRow w.heap.size 71 3 v acc.length (flat3 cs)) ∧ Hid (AllIs (IsTm wr (fun k => w.heap.size ≤ k ∧ some k ≠ v.ownBlock) n) cs acc))
    (fun _ wr => s.size - natAt wr ⟨r, 3, none⟩)
  case atStart =>
    exact ⟨s.size + 1, st, [], [], hfit, hlt, by omega, Nat.zero_le _, (aheadOf_nil _).symm, hrd, Upd.refl _ _, World.ownsRow_nil _ _ _ _, trivial⟩
  case round =>
    obtain ⟨m, st', acc, cs, hfit', hlt', hm, hacc, HP, hrd', hu, HO, HA⟩ := hrel
    obtain ⟨m, rfl⟩ : ∃ m', m = m' + 1 := ⟨m - 1, by have := hfit'.size; omega⟩
    have hsz := hfit'.size
    have hrt := hrd'.till
    go_wp2_with fail
    refine (next_any r s _ _ _ _ hrd' (by omega) hsz).mono ?_
    rintro e w1 ⟨rfl, hrd1, hu1⟩
    have hfit1 := Fit.next s st'.2.2 hsz
    have hw1 := wordAt_le s st'.2.2 hsz
    go_wp2_with fail
    refine (hT s r (wordAt s st'.2.2) w1 hs hrd1 hfit1 (by omega)).mono ?_
    rintro e w2 ⟨a, p, g, l, c, b, rfl, hrd2, hu2, hb, ht⟩
    have hu3 := (hu.trans hu1).trans hu2
    cases hres : termOf s n (wordAt s st'.2.2) with
    | mk o st2 =>
      rw [hres] at hrd2 hb ht
      simp only at hrd2 hb ht
      cases o with
      | none =>
        obtain rfl : b = false := hb
        have HE : Hid (partsOf s (termOf s n) (s.size + 1) st = (none, st2)) := HP.out.trans (partsOf_none hres)
        clear hres HP HO HA ht hT hrd hrd' hrd1 hu hu1 hu2
        go_wp2
        go_ret2
        exact ⟨none, 0, 0, false, rfl, by rw [HE.out]; exact hrd2.later ((Upd.refl [] _).alloc _) (by simp), hu3.alloc _, by rw [HE.out]; rfl, fun ps hps => by rw [HE.out] at hps; cases hps⟩
      | some x =>
        obtain rfl : b = true := hb
        have hx := ht x rfl
        have hfit2 := (termOf_fit n (wordAt s st'.2.2) hfit1).1
        have hle2 := (termOf_fit n (wordAt s st'.2.2) hfit1).2
        rw [hres] at hfit2 hle2
        simp only at hfit2 hle2
        clear ht hT hrd hrd' hrd1
        have hsz2 := hfit2.size
        have hle3 := hfit2.le
        have hbase := hu3.size
        obtain ⟨i0, hi, hz0, hz1, hz2⟩ := info_parts info_term
        have hown2 : ((w2.alloc (.cells #[.string a, .int .i64 p, .slice g l c] 71)).alloc (.cells #[.string a, .int .i64 p, .slice g l c] 71)).ownsRow w.heap.size 71 3 u4 acc.length (flat3 cs) :=
          (((Upd.refl [] _).alloc _).alloc _).ownsRow ((hu1.trans hu2).ownsRow HO.out (fun k hk hm => by have := (HO.out.lt k hk).1; simp at hm; omega)) (fun _ _ => by simp)
        have hnews := news3 w2 (.cells #[.string a, .int .i64 p, .slice g l c] 71) (.string a) (.int .i64 p) (.slice g l c) 71
        have hone : ∀ u ∈ [Value.string a, .int .i64 p, .slice g l c], u.oneCell' = true := by intro u hu'; simp at hu'; rcases hu' with rfl | rfl | rfl <;> rfl
        have Hrd3 : Hid (∀ w3, ((w2.alloc (.cells #[.string a, .int .i64 p, .slice g l c] 71)).alloc (.cells #[.string a, .int .i64 p, .slice g l c] 71)).grownBy w3 u4.ownBlock → Rd w3 r s st2.1 st2.2.1 st2.2.2) := fun w3 hg =>
          (hrd2.later (((Upd.refl [] _).alloc _).alloc _) (by simp)).later (Upd.of_grown hg) (fun hm => by have := (HO.out.lt r (by simpa using hm)).1; omega)
        have Hu3 : Hid (∀ w3, ((w2.alloc (.cells #[.string a, .int .i64 p, .slice g l c] 71)).alloc (.cells #[.string a, .int .i64 p, .slice g l c] 71)).grownBy w3 u4.ownBlock → Upd [r] w w3) := fun w3 hg =>
          ((hu3.alloc _).alloc _).grown hg (fun k hk => .inr (HO.out.lt k hk).1)
        have HA3 : Hid (∀ w3 g', ((w2.alloc (.cells #[.string a, .int .i64 p, .slice g l c] 71)).alloc (.cells #[.string a, .int .i64 p, .slice g l c] 71)).grownBy w3 u4.ownBlock → (u4.ownBlock = some g' ∨ g' = ((w2.alloc (.cells #[.string a, .int .i64 p, .slice g l c] 71)).alloc (.cells #[.string a, .int .i64 p, .slice g l c] 71)).heap.size) → AllIs (IsTm w3 (fun k => w.heap.size ≤ k ∧ some k ≠ some g') n) (cs ++ [(.string a, .int .i64 p, .slice g l c)]) (acc ++ [x])) :=
          fun w3 g' hg hat => allIs_grown hrlt hu hu1 hu2 HO.out HA.out hx hg hat
        have Hfl : Hid (flat3 cs ++ [.string a, .int .i64 p, .slice g l c] = flat3 (cs ++ [(.string a, .int .i64 p, .slice g l c)])) := by show _ = _; rw [flat3_append]; rfl
        clear HO HA hx hu hu1 hu2 hu3 hrd2
        by_cases hk2 : st2.1 = 2
        · have HE : Hid (partsOf s (termOf s n) (s.size + 1) st = (some (acc ++ [x]), wordAt s st2.2.2)) := HP.out.trans (partsOf_close hres hk2)
          have hk2' : (st2.1 == 2) = true := by simpa using hk2
          clear hk2 hres HP
          go_wp2_with (at_builtin; refine wpList_append_lies _ rfl _ _ 69 rfl w.heap.size 71 i0 (.agg #[.string ⟨#[]⟩, .int .i64 0, .slice none 0 0]) 3 48 Tryd.underlying69 hi hz0 hz1 hz2 rfl (by decide) _ _ _ rfl hown2 ⟨w2.heap.size + 1, 0, none⟩ 1 1 [.string a, .int .i64 p, .slice g l c] rfl rfl hnews hone (by decide) (by unfold maxLen; omega) (by omega) (by simp; omega) _ rfl ?_; intro g' cap w3 hown' hgrow hat hlt3; obtain ⟨y0, y1, y2, y3, y4, y5⟩ := Hrd3.out w3 hgrow)
          refine (next_any r s _ _ _ _ (Hrd3.out w3 hgrow) (by omega) hsz2).mono ?_
          rintro e w4 ⟨rfl, hrd4, hu4⟩
          have hlo := (hown'.lt g' rfl).1
          have hrg : ∀ k, (Value.slice (some ⟨g', 0, none⟩) (acc.length + 1) cap).ownBlock = some k → k ∉ [r] := fun k hk hm => by simp [Value.ownBlock] at hk hm; omega
          have hA4 := (HA3.out w3 g' hgrow hat).mono fun _ _ h => (h.later hu4 (fun k hk hm => by simp at hm; omega)).mono fun k hk _ => hk.1
          have hO4 : w4.ownsRow 0 71 3 (.slice (some ⟨g', 0, none⟩) (acc.length + 1) cap) (acc ++ [x]).length (flat3 (cs ++ [(.string a, .int .i64 p, .slice g l c)])) := by
            rw [← Hfl.out]; simpa using hu4.ownsRow (ownsRow_base hown' (fun _ _ => Nat.zero_le _)) hrg
          have hU4 := (Hu3.out w3 hgrow).trans hu4
          clear hown' hgrow hat hnews hone hown2 Hrd3 Hu3 HA3 Hfl hu4 y0 y1 y2 y3 y4 y5
          go_wp2
          go_ret2
          exact ⟨_, _, _, true, rfl, by rw [HE.out]; exact hrd4, hU4, by rw [HE.out]; rfl, fun ps hps => by
            rw [HE.out] at hps
            obtain rfl := Option.some.inj hps
            exact ⟨_, hO4, fun k hk => by simp [Value.ownBlock] at hk; omega, hA4⟩⟩
        · have hk2' : (st2.1 == 2) = false := by simpa using hk2
          by_cases hk3 : st2.1 = 3
          · have HE : Hid (partsOf s (termOf s n) (s.size + 1) st = aheadOf (acc ++ [x]) (partsOf s (termOf s n) m st2)) := HP.out.trans (partsOf_comma hres hk3)
            have hk3' : (st2.1 != 3) = false := by simp [hk3]
            have hlt2 := hfit2.lt (by omega)
            clear hk2 hk3 hres HP
            go_wp2_with (at_builtin; refine wpList_append_lies _ rfl _ _ 69 rfl w.heap.size 71 i0 (.agg #[.string ⟨#[]⟩, .int .i64 0, .slice none 0 0]) 3 48 Tryd.underlying69 hi hz0 hz1 hz2 rfl (by decide) _ _ _ rfl hown2 ⟨w2.heap.size + 1, 0, none⟩ 1 1 [.string a, .int .i64 p, .slice g l c] rfl rfl hnews hone (by decide) (by unfold maxLen; omega) (by omega) (by simp; omega) _ rfl ?_; intro g' cap w3 hown' hgrow hat hlt3; obtain ⟨y0, y1, y2, y3, y4, y5⟩ := Hrd3.out w3 hgrow)
            have hw3 := Hrd3.out w3 hgrow
            refine ⟨⟨m, st2, acc ++ [x], cs ++ [((Value.string a, Value.int .i64 p, Value.slice g l c) : V3)], hfit2, by omega, by omega, by simp; omega, HE, hw3, Hu3.out w3 hgrow, ?_, HA3.out w3 g' hgrow hat⟩, ?_⟩
            · show World.ownsRow _ _ _ _ _ _ _
              rw [← Hfl.out]; simpa using hown'
            · rw [natAt_eq hw3.till, natAt_eq hrt]; omega
          · have HE : Hid (partsOf s (termOf s n) (s.size + 1) st = (none, st2)) := HP.out.trans (partsOf_other hres hk2 hk3)
            have hk3' : (st2.1 != 3) = true := by simp [hk3]
            clear hk2 hk3 hres HP
            go_wp2_with (at_builtin; refine wpList_append_lies _ rfl _ _ 69 rfl w.heap.size 71 i0 (.agg #[.string ⟨#[]⟩, .int .i64 0, .slice none 0 0]) 3 48 Tryd.underlying69 hi hz0 hz1 hz2 rfl (by decide) _ _ _ rfl hown2 ⟨w2.heap.size + 1, 0, none⟩ 1 1 [.string a, .int .i64 p, .slice g l c] rfl rfl hnews hone (by decide) (by unfold maxLen; omega) (by omega) (by simp; omega) _ rfl ?_; intro g' cap w3 hown' hgrow hat hlt3; obtain ⟨y0, y1, y2, y3, y4, y5⟩ := Hrd3.out w3 hgrow)
            go_ret2
            exact ⟨none, 0, 0, false, rfl, by rw [HE.out]; exact Hrd3.out w3 hgrow, Hu3.out w3 hgrow, by rw [HE.out]; rfl, fun ps hps => by rw [HE.out] at hps; cases hps⟩
end Go.Proofs.YtmfkpllnmmfpiaaDoor
