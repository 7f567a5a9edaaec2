/-
  A Book's Why, walked.
-/
import Derived.Test.YtmfkpllnmmfpiaaDoorWebWhyH
import Derived.Test.YtmfkpllnmmfpiaaDoorPairH
namespace Go.Proofs.YtmfkpllnmmfpiaaDoor
open Go.RowKit

set_option maxHeartbeats 2000000 in
set_option maxRecDepth 100000 in
theorem webWhy_no (w : World) (wb n : Nat) (H : Hd) (Z F : Nat → Prop) (S : WS) (l r : V3) (k : Int) (x : Snt n) (h : WebAt w wb H Z S) (hs : IsSnt w F n l k r x) (hFZ : ∀ k, F k → ¬ Z k) (hZ : ∀ k, Z k → k < w.heap.size)
    (hF : Fine S) (hx : NarrowS x) (hn : S.shapes.length + sizeS x ≤ 400) (hsd : S.said.length + 1 ≤ 900) (hfo : followsM S x = false) :
    Calls Tryd.prog 43 #[.pointer (some ⟨wb, 0, none⟩), .agg #[l.1, l.2.1, l.2.2, .int .i64 k, r.1, r.2.1, r.2.2]] w fun e w' => e = .returned (.tuple #[.slice none 0 0, .bool false]) ∧ ∃ H', WebAt w' wb H' (fun k => Z k ∨ w.heap.size ≤ k) S ∧ Upd (H.blocks wb) w w' ∧ ∀ k ∈ H'.blocks wb, k ∈ H.blocks wb ∨ w.heap.size ≤ k := by
  obtain ⟨hl, hk, hr⟩ := hs
  obtain ⟨a, p, g, ll, cap, rfl⟩ := hl.form
  obtain ⟨a', p', g', ll', cap', rfl⟩ := hr.form
  simp only
  subst hk
  have HFo := hide (fun (X : Obj) => webFollows_any (w.alloc X) wb n H Z (fun k => F k ∧ k < w.heap.size) S (.string a, .int .i64 p, .slice g ll cap) (.string a', .int .i64 p', .slice g' ll' cap') (signInt x.eq) x (h.later ((Upd.refl [] w).alloc X) (fun _ _ => by simp)) ⟨(hl.mono (F' := fun k => F k ∧ k < w.heap.size) fun k hk hl => ⟨hk, hl⟩).later ((Upd.refl [] w).alloc X) (fun _ _ => by simp), rfl, (hr.mono (F' := fun k => F k ∧ k < w.heap.size) fun k hk hl => ⟨hk, hl⟩).later ((Upd.refl [] w).alloc X) (fun _ _ => by simp)⟩ (fun k hk => hFZ k hk.1) (fun k hk => by have := hZ k hk; simp; omega) hF hx hn hsd)
  rw [hfo] at HFo
  clear h hl hr hF hx hfo hFZ hZ
  simp only at HFo
  go_enter Tryd.func43, Tryd.ntmps43
  go_wp2_with (go_at_call 47; refine (HFo.out _).mono ?_; rintro e w2 ⟨rfl, H2, hw2, hu2, hH2⟩; have Hw2 := hide hw2; have Hu2 := hide hu2; have HH2 := hide hH2; clear hw2 hu2 hH2)
  go_ret2
  exact ⟨rfl, H2, Hw2.out.mono (fun k hk _ => hk.imp id (fun h => by simp at h; omega)), (((Upd.refl [] w).alloc _).mono (fun x hx _ => by cases hx)).trans Hu2.out, fun k hk => (HH2.out k hk).imp id (fun h => by simp at h; omega)⟩

/-- What Why answers where it is no error: numbers in a new row. -/
def WhyDone (w : World) (bb : Nat) (Z : Nat → Prop) (S : WS) (l : List Nat) (e : Ending) (w' : World) : Prop :=
  ∃ v m, e = .returned (.tuple #[v, .int .i64 0, .int .i64 0]) ∧ w.heap.size ≤ m ∧ BookAt w' bb (fun k => (Z k ∨ w.heap.size ≤ k) ∧ k < m ∧ k < w'.heap.size) S ∧ (∃ L, (∀ k ∈ L, Z k) ∧ Upd L w w') ∧ w'.ownsRow m 3 1 v l.length (intsOf l)

/-- All that a Book holds besides. -/
structure BookOK (S : WS) (L : List ST) : Prop where
  holds : Holds S L
  small : SmallL L
  tag : TagOK S

set_option maxHeartbeats 4000000 in
set_option maxRecDepth 100000 in
theorem bookWhy_yes (s : ByteArray) (w : World) (bb : Nat) (Z : Nat → Prop) (S : WS) (L : List ST) (hmax : s.size ≤ maxLen) (h : BookAt w bb Z S) (hE : ErrTab w) (hK : BookOK S L) {x : Snt (fuelOf s)} (hr : (readOf s).1 = some x) (hfo : followsM S x = true) :
    Calls Tryd.prog 22 #[.pointer (some ⟨bb, 0, none⟩), .string s] w (WhyDone w bb Z S (whyL (otherM ⟨_, contra x⟩ (sentsX S)) (sentsX S))) := by
  obtain ⟨hnar, hsz, _⟩ := readOf_small hr
  have HRd := hide (bookRead_fine s w bb hmax h.self hE hr)
  obtain ⟨wb, H, hc1, hw⟩ := h.ex
  have hlt := h.lt
  have ht := h.terms
  have hs := h.saids
  have Hh := hide h
  have Hw := hide hw
  obtain ⟨hu, hsub⟩ := hK.holds.under hnar hsz ht
  have hO := hu.other hsub (hK.holds.subs hK.small (fun t ht => known_append.2 (.inl ht)))
  have HC := hide (fun (w2 : World) (X : Obj) (hu : Upd [] w w2) a p g l c k a' p' g' l' c' (hx2 : IsSnt w2 (fun k => w.heap.size ≤ k) (fuelOf s) (.string a, .int .i64 p, .slice g l c) k (.string a', .int .i64 p', .slice g' l' c') x) =>
    webWhy_yes (w2.alloc X).drew wb (fuelOf s) H (fun k => Z k ∧ k ≠ bb) (fun k => w.heap.size ≤ k) S (.string a, .int .i64 p, .slice g l c) (.string a', .int .i64 p', .slice g' l' c') k x (hw.later (hu.alloc X).drew (fun _ _ => by simp))
      ⟨hx2.1.later ((Upd.refl [] w2).alloc X).drew (fun _ _ => by simp), hx2.2.1, hx2.2.2.later ((Upd.refl [] w2).alloc X).drew (fun _ _ => by simp)⟩ (fun k hk hz => by have := h.low k hz.1; omega) (fun k hk => Nat.lt_of_lt_of_le (h.low k hk.1) (hu.alloc X).size) h.fine hnar hsz ht hs hK.tag hO hfo)
  clear h hE hr hw hnar hK hO hu hsub hfo
  generalize whyL (otherM ⟨_, contra x⟩ (sentsX S)) (sentsX S) = l at *
  go_enter Tryd.func22, Tryd.ntmps22
  go_wp2_with (go_at_call 34; refine HRd.out.mono ?_; rintro e w2 ⟨a, p, g, l, c, k, a', p', g', l', c', rfl, hu2, hx2⟩; have Hu2 := hide hu2; have Hx2 := hide hx2; clear hu2 hx2)
  have U := Hu2.out.alloc (.cells #[.string a, .int .i64 p, .slice g l c, .int .i64 k, .string a', .int .i64 p', .slice g' l' c'] 74)
  have c1 := (U.cell (p := ⟨bb, 1, none⟩) hlt (by simp)).trans hc1
  have HU := hide U
  clear U
  go_region_with (go_at_call 43; refine (HC.out w2 _ Hu2.out a p g l c k a' p' g' l' c' Hx2.out).mono ?_; rintro e w3 ⟨v3, m3, H3, rfl, hm3, hw3, hu3, hH3, hr3⟩; have Hm3 := hide hm3; have Hw3 := hide hw3; have Hu3 := hide hu3; have HH3 := hide hH3; have Hr3 := hide hr3; clear hm3 hw3 hu3 hH3 hr3)
  all_goals (
    go_wp2
    go_ret3
    have U3 := (HU.out.drew.mono (L' := H.blocks wb) (fun x hx _ => by cases hx)).trans Hu3.out
    have s2 := HU.out.size
    have s3 : w.heap.size ≤ m3 := Nat.le_trans s2 Hm3.out
    have hb : bb ∉ H.blocks wb := fun hm => (Hw.out.inZ bb hm).2 rfl
    have s4 := U3.size
    refine ⟨v3, m3, rfl, s3, ⟨by omega, (U3.cell (p := ⟨bb, 0, none⟩) hlt hb).trans Hh.out.self, ⟨wb, H3, (U3.cell (p := ⟨bb, 1, none⟩) hlt hb).trans hc1, Hw3.out.mono (fun k hk hl => ?_)⟩, ⟨.inl Hh.out.own, by omega, by omega⟩, fun k hk => hk.2.2, Hh.out.fine, ht, hs⟩, ⟨H.blocks wb, fun k hk => (Hw.out.inZ k hk).1, U3⟩, Hr3.out⟩
    rcases hk with hk | hk
    · have := Hh.out.low k hk.1
      exact ⟨⟨.inl hk.1, by omega, hl⟩, hk.2⟩
    · have h9 : w.heap.size ≤ k := Nat.le_trans s2 hk.1
      exact ⟨⟨.inr h9, hk.2, hl⟩, by omega⟩)
set_option maxHeartbeats 4000000 in
set_option maxRecDepth 100000 in
theorem bookWhy_no (s : ByteArray) (w : World) (bb : Nat) (Z : Nat → Prop) (S : WS) (hmax : s.size ≤ maxLen) (h : BookAt w bb Z S) (hE : ErrTab w) {x : Snt (fuelOf s)} (hr : (readOf s).1 = some x) (hfo : followsM S x = false) :
    Calls Tryd.prog 22 #[.pointer (some ⟨bb, 0, none⟩), .string s] w fun e w' => e = .returned (.tuple #[.slice none 0 0, .int .i64 5, .int .i64 0]) ∧ BookAt w' bb (fun k => (Z k ∨ w.heap.size ≤ k) ∧ k < w'.heap.size) S ∧ ∃ L, (∀ k ∈ L, Z k) ∧ Upd L w w' := by
  obtain ⟨hnar, hsz, _⟩ := readOf_small hr
  have HRd := hide (bookRead_fine s w bb hmax h.self hE hr)
  obtain ⟨wb, H, hc1, hw⟩ := h.ex
  have hlt := h.lt
  have ht := h.terms
  have hs := h.saids
  have Hh := hide h
  have Hw := hide hw
  have HC := hide (fun (w2 : World) (X : Obj) (hu : Upd [] w w2) a p g l c k a' p' g' l' c' (hx2 : IsSnt w2 (fun k => w.heap.size ≤ k) (fuelOf s) (.string a, .int .i64 p, .slice g l c) k (.string a', .int .i64 p', .slice g' l' c') x) =>
    webWhy_no (w2.alloc X).drew wb (fuelOf s) H (fun k => Z k ∧ k ≠ bb) (fun k => w.heap.size ≤ k) S (.string a, .int .i64 p, .slice g l c) (.string a', .int .i64 p', .slice g' l' c') k x (hw.later (hu.alloc X).drew (fun _ _ => by simp))
      ⟨hx2.1.later ((Upd.refl [] w2).alloc X).drew (fun _ _ => by simp), hx2.2.1, hx2.2.2.later ((Upd.refl [] w2).alloc X).drew (fun _ _ => by simp)⟩ (fun k hk hz => by have := h.low k hz.1; omega) (fun k hk => Nat.lt_of_lt_of_le (h.low k hk.1) (hu.alloc X).size) h.fine hnar (by omega) (by omega) hfo)
  clear h hE hr hw hnar hfo
  go_enter Tryd.func22, Tryd.ntmps22
  go_wp2_with (go_at_call 34; refine HRd.out.mono ?_; rintro e w2 ⟨a, p, g, l, c, k, a', p', g', l', c', rfl, hu2, hx2⟩; have Hu2 := hide hu2; have Hx2 := hide hx2; clear hu2 hx2)
  have U := Hu2.out.alloc (.cells #[.string a, .int .i64 p, .slice g l c, .int .i64 k, .string a', .int .i64 p', .slice g' l' c'] 74)
  have c1 := (U.cell (p := ⟨bb, 1, none⟩) hlt (by simp)).trans hc1
  have HU := hide U
  clear U
  go_region_with (go_at_call 43; refine (HC.out w2 _ Hu2.out a p g l c k a' p' g' l' c' Hx2.out).mono ?_; rintro e w3 ⟨rfl, H3, hw3, hu3, hH3⟩; have Hw3 := hide hw3; have Hu3 := hide hu3; clear hw3 hu3 hH3)
  all_goals (
    go_wp2
    go_ret3
    have U3 := (HU.out.drew.mono (L' := H.blocks wb) (fun x hx _ => by cases hx)).trans Hu3.out
    have s2 := HU.out.size
    refine ⟨rfl, ?_, H.blocks wb, fun k hk => (Hw.out.inZ k hk).1, U3⟩
    exact WebAt.book Hh.out hc1 Hw.out.inZ U3 (Hw3.out.mono (fun k hk _ => hk.imp id (fun h => Nat.le_trans s2 h))) Hh.out.fine ht hs)
/-- What Why answers to a text that is no sentence. -/
theorem bookWhy_bad (s : ByteArray) (w : World) (bb : Nat) (Z : Nat → Prop) (S : WS) (hmax : s.size ≤ maxLen) (h : BookAt w bb Z S) (hE : ErrTab w) (hr : (readOf s).1 = none) :
    Calls Tryd.prog 22 #[.pointer (some ⟨bb, 0, none⟩), .string s] w fun e w' => e = .returned (.tuple #[.slice none 0 0, .int .i64 (errOf (readOf s).2.1), .int .i64 (readOf s).2.2]) ∧ BookAt w' bb (fun k => (Z k ∨ w.heap.size ≤ k) ∧ k < w'.heap.size) S ∧ ∃ L, (∀ k ∈ L, Z k) ∧ Upd L w w' := by
  have HRd := hide (bookRead_any s w bb hmax h.self hE)
  have HB := hide (fun (w' : World) (U : Upd [] w w') => h.wider U)
  have hne : (errOf (readOf s).2.1 != 0) = true := errOf_ne hr
  clear h hE hr
  go_enter Tryd.func22, Tryd.ntmps22
  go_wp2_with (go_at_call 34; refine HRd.out.mono ?_; rintro e w2 ⟨a, p, g, l, c, k, a', p', g', l', c', rfl, hu2, _⟩; have Hu2 := hide hu2; clear hu2)
  go_ret3
  have U := Hu2.out.alloc (.cells #[.string a, .int .i64 p, .slice g l c, .int .i64 k, .string a', .int .i64 p', .slice g' l' c'] 74)
  exact ⟨rfl, HB.out _ U, [], fun k hk => (by cases hk), U⟩
end Go.Proofs.YtmfkpllnmmfpiaaDoor

/-
  Plain: of small sentences: what Why tells is enough, and none too many.
-/
namespace Go.Proofs.YtmfkpllnmmfpiaaDoor
open Go.RowKit

def trmOf : T3 → Trm
  | .v i => .node ⟨#[UInt8.ofNat (97 + i)]⟩ []
  | .f u => .node ⟨#[102]⟩ [trmOf u]
  | .g u i => .node ⟨#[103]⟩ [trmOf u, .node ⟨#[UInt8.ofNat (97 + i)]⟩ []]
theorem erase_T3 : ∀ (n : Nat) (x : Tm n) (t : T3), isT3 n x t → erase n x = trmOf t
  | 0, _, _, h => h.elim
  | n + 1, x, .v i, h => by
    show Trm.node x.name (x.parts.map (erase n)) = _
    rw [h.1, h.2]
    rfl
  | n + 1, x, .f u, h => by
    obtain ⟨h1, p, h2, h3⟩ := h
    show Trm.node x.name (x.parts.map (erase n)) = _
    rw [h1, h2]
    simp only [List.map_cons, List.map_nil, trmOf, erase_T3 n p u h3]
  | n + 1, x, .g u i, h => by
    obtain ⟨h1, p, q, h2, h3, h4⟩ := h
    show Trm.node x.name (x.parts.map (erase n)) = _
    rw [h1, h2]
    simp only [List.map_cons, List.map_nil, trmOf, erase_T3 n p u h3, erase_T3 n q (.v i) h4]
/-- The sentence of a raw number. -/
def stOf (c : Int) : ST := ⟨(s3Of c).b, trmOf (s3Of c).l, trmOf (s3Of c).r⟩
theorem stOf_read (c : Int) : ∃ x, (readOf (s3Of c).text).1 = some x ∧ eraseS x = stOf c ∧ NarrowS x ∧ sizeS x ≤ 10 := by
  have hs := s3Of_ok c
  obtain ⟨x, hx, h1, h2, h3⟩ := S3.read hs
  have z1 := isT3_size _ _ _ h1
  have z2 := isT3_size _ _ _ h3
  have d1 := hs.dl
  have d2 := hs.dr
  refine ⟨x, hx, ?_, (readOf_small hx).1, by unfold sizeS; omega⟩
  show (⟨x.eq, erase _ x.left, erase _ x.right⟩ : ST) = _
  rw [h2, erase_T3 _ _ _ h1, erase_T3 _ _ _ h3]
  rfl
theorem stOf_size (c : Int) : (stOf c).size ≤ 10 := by
  obtain ⟨x, _, h, _, hz⟩ := stOf_read c
  rw [← h, sizeS_erase]
  exact hz
theorem Good.holds_say {S : WS} {k : Nat} {m : List Nat} (h : Good S k m) (hk : k ≤ 23) {L : List ST} (hL : Holds S L) (c : Int) : Holds (sayOf S (s3Of c).text).2 (L ++ [stOf c]) := by
  obtain ⟨x, hx, he, hn, hz⟩ := stOf_read c
  have h1 := (h.say hk (s3Of_ok c)).1
  have hl := h.w3.len
  have h2 := hL.say hn (by omega)
  rw [he] at h2
  have hsd := h.w3.said
  unfold sayOf at h1 ⊢
  rw [hx] at h1 ⊢
  simp only at h1 ⊢
  rw [if_neg (by omega)] at h1 ⊢
  split at h1
  · simp at h1
  · rename_i h3
    rw [if_neg h3]
    exact h2
theorem fill_holds : ∀ (l : List Int) (S : WS) (k : Nat) (m : List Nat) (L : List ST), Good S k m → k + l.length ≤ 24 → Holds S L → Holds (fillM S l) (L ++ l.map stOf)
  | [], S, _, _, L, _, _, h => by simpa [fillM] using h
  | c :: l, S, k, m, L, hg, hk, h => by
    simp only [List.length_cons] at hk
    obtain ⟨_, h1, _⟩ := hg.say (by omega) (s3Of_ok c)
    have h2 := hg.holds_say (by omega) h c
    have h3 := fill_holds l _ _ _ _ h1 (by omega) h2
    have e : L ++ (c :: l).map stOf = L ++ [stOf c] ++ l.map stOf := by simp
    rw [e]
    exact h3
theorem fill_ok (l : List Int) (hl : l.length ≤ 24) : BookOK (fillM noWS l) (l.map stOf) ∧ Good (fillM noWS l) l.length [] := by
  have hg := (Good.fill l noWS 0 [] Good.none (by omega)).1
  have h := fill_holds l noWS 0 [] [] Good.none (by omega) Holds.none
  rw [Nat.zero_add] at hg
  rw [List.nil_append] at h
  exact ⟨⟨h, fun s hs => by
    obtain ⟨c, _, rfl⟩ := List.mem_map.1 hs
    have := stOf_size c
    omega, hg.tag⟩, hg⟩
theorem fill_follows (l : List Int) (hl : l.length ≤ 24) (c : Int) : ∃ x, (readOf (s3Of c).text).1 = some x ∧ eraseS x = stOf c ∧ followsOf (fillM noWS l) (s3Of c).text = (followsM (fillM noWS l) x, 0, 0) ∧ (followsM (fillM noWS l) x = true ↔ ClashT (l.map stOf ++ [contraT (stOf c)])) ∧ NarrowS x ∧ sizeS x ≤ 10 := by
  obtain ⟨x, hx, he, hn, hz⟩ := stOf_read c
  obtain ⟨hb, hg⟩ := fill_ok l hl
  have hlen := hg.w3.len
  refine ⟨x, hx, he, by unfold followsOf; rw [hx], ?_, hn, hz⟩
  rw [hb.holds.follows_iff hn (by omega), he]

/-- Those told, but for one, so far. -/
def pickL (N : List Nat) (out : Int) (i : Nat) : List Nat := ((List.range i).filter (fun p => decide (((p : Nat) : Int) ≠ out))).map (fun p => N.getD p 0)
theorem pickL_zero (N : List Nat) (out : Int) : pickL N out 0 = [] := rfl
theorem pickL_skip {N : List Nat} {out : Int} {i : Nat} (h : (i : Int) = out) : pickL N out (i + 1) = pickL N out i := by
  unfold pickL
  rw [List.range_succ, List.filter_append]
  simp [h]
theorem pickL_take {N : List Nat} {out : Int} {i : Nat} (h : (i : Int) ≠ out) : pickL N out (i + 1) = pickL N out i ++ [N.getD i 0] := by
  unfold pickL
  rw [List.range_succ, List.filter_append]
  simp [h]
theorem pickL_length (N : List Nat) (out : Int) (i : Nat) : (pickL N out i).length ≤ i := by
  unfold pickL
  rw [List.length_map]
  have := List.length_filter_le (fun p => decide (((p : Nat) : Int) ≠ out)) (List.range i)
  simpa using this
theorem pickL_mem {N : List Nat} {out : Int} {j : Nat} : j ∈ pickL N out N.length ↔ ∃ p, p < N.length ∧ (p : Int) ≠ out ∧ N.getD p 0 = j := by
  unfold pickL
  simp only [List.mem_map, List.mem_filter, List.mem_range, decide_eq_true_eq]
  constructor
  · rintro ⟨p, ⟨h1, h2⟩, h3⟩
    exact ⟨p, h1, h2, h3⟩
  · rintro ⟨p, h1, h2, h3⟩
    exact ⟨p, ⟨h1, h2⟩, h3⟩
theorem getD_mem {N : List Nat} {p : Nat} (h : p < N.length) : N.getD p 0 ∈ N := by
  rw [List.getD_eq_getElem?_getD, List.getElem?_eq_getElem h]
  exact List.getElem_mem h
theorem rise_inj {N : List Nat} (h : N.Pairwise (· < ·)) {p q : Nat} (hp : p < N.length) (hq : q < N.length) (e : N.getD p 0 = N.getD q 0) : p = q := by
  rw [List.getD_eq_getElem?_getD, List.getElem?_eq_getElem hp, List.getD_eq_getElem?_getD, List.getElem?_eq_getElem hq] at e
  simp only [Option.getD_some] at e
  rw [List.pairwise_iff_getElem] at h
  rcases Nat.lt_trichotomy p q with h1 | h1 | h1
  · have := h p q hp hq h1; omega
  · exact h1
  · have := h q p hq hp h1; omega
theorem rise_step {N : List Nat} (h : N.Pairwise (· < ·)) {p : Nat} (hp : p + 1 < N.length) : N.getD p 0 < N.getD (p + 1) 0 := by
  rw [List.getD_eq_getElem?_getD, List.getElem?_eq_getElem (by omega), List.getD_eq_getElem?_getD, List.getElem?_eq_getElem hp]
  rw [List.pairwise_iff_getElem] at h
  exact h p (p + 1) (by omega) hp (by omega)
/-- What the second Book is asked. -/
theorem sound_out {zs : List Int} {N : List Nat} {c : ST} (hW : WhyIs c ((zs.take 12).map stOf) N) (hf : ClashT ((zs.take 12).map stOf ++ [c])) (out : Int) (hlo : -1 ≤ out) (hhi : out < N.length) :
    ClashT (((pickL N out N.length).map (fun j => zs.getD j 0)).map stOf ++ [c]) ↔ out < 0 := by
  have hget : ∀ j, j ∈ N → ((zs.take 12).map stOf)[j]? = some (stOf (zs.getD j 0)) := fun j hj => by
    have hl := hW.lt j hj
    simp only [List.length_map, List.length_take] at hl
    rw [List.getElem?_map, List.getElem?_take, if_pos (by omega), List.getD_eq_getElem?_getD, List.getElem?_eq_getElem (by omega)]
    rfl
  have hon : ClashT (((pickL N out N.length).map (fun j => zs.getD j 0)).map stOf ++ [c]) ↔ ClashOn c ((zs.take 12).map stOf) (fun j => j ∈ pickL N out N.length) := by
    refine clashOn_iff (fun s hs => ?_) (by simp) (fun j s hj e => ?_)
    · simp only [List.mem_append, List.mem_map, List.mem_singleton] at hs
      rcases hs with ⟨z, ⟨j, hj, rfl⟩, rfl⟩ | rfl
      · refine .inr ⟨j, hj, hget j ?_⟩
        obtain ⟨p, h1, _, h3⟩ := pickL_mem.1 hj
        rw [← h3]
        exact getD_mem h1
      · exact .inl rfl
    · have hjN : j ∈ N := by
        obtain ⟨p, h1, _, h3⟩ := pickL_mem.1 hj
        rw [← h3]
        exact getD_mem h1
      rw [hget j hjN] at e
      simp only [List.mem_append, List.mem_map, List.mem_singleton]
      exact .inl ⟨zs.getD j 0, ⟨j, hj, rfl⟩, Option.some.inj e⟩
  rw [hon]
  by_cases h0 : out < 0
  · refine ⟨fun _ => h0, fun _ => ?_⟩
    have h1 : ClashOn c ((zs.take 12).map stOf) (fun _ => True) := by
      refine ⟨_, fun s hs => ?_, hf⟩
      simp only [List.mem_append, List.mem_singleton] at hs
      rcases hs with hs | rfl
      · obtain ⟨j, hj⟩ := List.getElem?_of_mem hs
        exact .inr ⟨j, trivial, hj⟩
      · exact .inl rfl
    refine (hW.enough h1).mono fun j _ hj => ?_
    obtain ⟨p, hp⟩ := List.getElem?_of_mem hj
    have hpl := (List.getElem?_eq_some_iff.1 hp).1
    exact pickL_mem.2 ⟨p, hpl, by omega, by rw [List.getD_eq_getElem?_getD, hp]; rfl⟩
  · refine ⟨fun hc => ?_, fun h => absurd h h0⟩
    obtain ⟨q, rfl⟩ : ∃ q : Nat, out = (q : Int) := ⟨out.toNat, by omega⟩
    have hq : q < N.length := by omega
    refine absurd (hc.mono fun j _ hj => ?_) (hW.needed (getD_mem hq))
    obtain ⟨p, h1, h2, h3⟩ := pickL_mem.1 hj
    rw [← h3]
    refine ⟨getD_mem h1, fun e => h2 ?_⟩
    have := rise_inj hW.rise h1 hq e
    omega
end Go.Proofs.YtmfkpllnmmfpiaaDoor
