/- LawMark -/
import Derived.Test.YtmfkpllnmmfpiaaGreatDoorRefMarkH
import Derived.Test.YtmfkpllnmmfpiaaGreatDoorS3CountH
import Derived.Deep.RegionHeld3
namespace Go.Proofs.YtmfkpllnmmfpiaaGreatDoor
open Go.RowKit
theorem Both.marks {S : WS} {L : List ST} (h : Both S L) (m : List Nat) : Both { S with marks := m } L := by
 have hd : ∀ {t : Trm} {i : Nat}, DenE S t i → DenE { S with marks := m } t i := fun d => DenE.mono (S := S) (T := { S with marks := m }) (fun _ _ e => e) d
 refine ⟨⟨h.holds.fine.marks m, fun t kt => ?_, fun i hi => ?_, h.holds.said.mono fun x s ⟨a, b, c⟩ => ⟨a, hd b, hd c⟩⟩, h.ok, h.small, h.text.marks m, h.terms, h.saids⟩
 ·obtain ⟨i, d⟩ := h.holds.num t kt
  exact ⟨i, hd d⟩
 ·obtain ⟨t, kt, d⟩ := h.holds.term i hi
  exact ⟨t, kt, hd d⟩
theorem Both.goes {S : WS} {L : List ST} (h : Both S L) (s : ByteArray) : ∀ S0, Goes S0 S → Goes S0 (sayOf S s).2 := by
 unfold sayOf
 cases hr : (readOf s).1 with
 | none => exact fun S0 h0 => h0
 | some x =>
  obtain ⟨hn, hz, _⟩ := readOf_small hr
  have ht := h.terms
  have E := sayM_end h.holds.fine.web hn (by omega)
  simp only
  split
  ·exact fun S0 h0 => h0
  ·split
   ·exact fun S0 h0 => h0
   ·exact E.goes
theorem sayR_prefix (L : List ST) (s : ByteArray) : ∃ R, (sayR L s).2 = L ++ R := by
 unfold sayR
 cases (refRead s).1 with
 | none => exact ⟨[], by simp⟩
 | some x =>
  simp only
  split
  ·exact ⟨[], by simp⟩
  ·exact ⟨[x], rfl⟩
def Stk : WS → List ST → List Nat → List (WS × List ST) → Prop
 | S, _, M, [] => S.marks = [] ∧ M = []
 | S, L, M, (S0, L0) :: K => ∃ M0, Goes (markM S0) S ∧ (∃ R, L = L0 ++ R) ∧ M = M0 ++ [L0.length] ∧ Both S0 L0 ∧ Stk S0 L0 M0 K
theorem Stk.len : ∀ {K : List (WS × List ST)} {S : WS} {L : List ST} {M : List Nat}, Stk S L M K → S.marks.length = M.length
 | [], S, L, M, h => by rw [h.1, h.2]
 | (S0, L0) :: K, S, L, M, ⟨M0, h1, h2, h3, h4, h5⟩ => by
  rw [h1.marks, h3]
  have := Stk.len h5
  simp [markM, this]
theorem Stk.say {K : List (WS × List ST)} {S : WS} {L : List ST} {M : List Nat} (h : Stk S L M K) (hB : Both S L) (s : ByteArray) : Stk (sayOf S s).2 (sayR L s).2 M K := by
 cases K with
 | nil =>
  have := (hB.goes s S (Goes.refl S)).marks
  exact ⟨by rw [this]; exact h.1, h.2⟩
 | cons p K =>
  obtain ⟨S0, L0⟩ := p
  obtain ⟨M0, h1, ⟨R, h2⟩, h3, h4, h5⟩ := h
  obtain ⟨R', hR'⟩ := sayR_prefix L s
  exact ⟨M0, hB.goes s _ h1, ⟨R ++ R', by rw [hR', h2, List.append_assoc]⟩, h3, h4, h5⟩
theorem Stk.mark {K : List (WS × List ST)} {S : WS} {L : List ST} {M : List Nat} (h : Stk S L M K) (hB : Both S L) : Stk (markM S) L (M ++ [L.length]) ((S, L) :: K) :=
 ⟨M, Goes.refl _, ⟨[], by simp⟩, rfl, hB, h⟩
def Marked (w0 w : World) (xb : Nat) : Prop := ∃ S L M K, Since w0 w xb S L M ∧ Stk S L M K ∧ M.length ≤ 10
set_option maxHeartbeats 2000000 in
set_option maxRecDepth 100000 in
theorem stepMark_few (kk : Int) (s : ByteArray) {w0 w : World} {xb : Nat} {S : WS} {L : List ST} {M : List Nat} (h : Since w0 w xb S L M) (hm : S.marks.length = M.length) (hf : M.length < 10) :
  Calls Tryz.prog 23 #[.pointer (some ⟨xb, 0, none⟩), .agg #[.int .i64 8, .int .i64 kk, .string s]] w fun e w' => e = .returned (.bool true) ∧ Since w0 w' xb (markM S) L (M ++ [L.length]) := by
 have h1 := h.look ((Upd.refl [] w).alloc (.cells #[.int .i64 8, .int .i64 kk, .string s] 41))
 obtain ⟨W, hW⟩ : ∃ W, W = w.alloc (.cells #[.int .i64 8, .int .i64 kk, .string s] 41) := ⟨_, rfl⟩
 rw [← hW] at h1
 have e0 : W.cell? ⟨w.heap.size, 0, none⟩ = some (.int .i64 8) := by rw [hW]; go_simp
 have h2 := h1.look ((Upd.refl [] W).drew)
 obtain ⟨bb, rb, Zb, Zr, c0, c1, hb, hr, z1, z2⟩ := h2.1.ex
 have HS := hide (bookMark_any W.drew bb Zb S hb (by omega))
 have HR := hide (fun (w1 : World) (K : List Nat) (hK : ∀ k ∈ K, Zb k) (U : Upd K W.drew w1) => refMark_any w1 rb Zr L M (hr.later U (fun k hk hm => (z1 k (hK k hm)).2.1 hk)) hf)
 have Hfin := hide (fun (w1 w2 : World) (K1 K2 : List Nat) hb1 (hK1 : ∀ k ∈ K1, Zb k) (U1 : Upd K1 W.drew w1) hr2 (hK2 : ∀ k ∈ K2, Zr k) (U2 : Upd K2 w1 w2) => h2.left (h2.1.step (w1 := w1) (w2 := w2) (K1 := K1) (K2 := K2) (S' := markM S) (L' := L) (M' := M ++ [L.length]) c0 c1 hr z1 z2 hb1 hK1 U1 hr2 hK2 U2 (h2.1.both.marks _)))
 have Hc : Hid (∀ (w1 : World) (K : List Nat), (∀ k ∈ K, Zb k) → Upd K W.drew w1 → w1.cell? ⟨xb, 0, none⟩ = some (.pointer (some ⟨bb, 0, none⟩)) ∧ w1.cell? ⟨xb, 1, none⟩ = some (.pointer (some ⟨rb, 0, none⟩))) := fun w1 K hK U => ⟨(U.cell (p := ⟨xb, 0, none⟩) h2.1.lt (fun hm => (z1 _ (hK _ hm)).2.2 rfl)).trans c0, (U.cell (p := ⟨xb, 1, none⟩) h2.1.lt (fun hm => (z1 _ (hK _ hm)).2.2 rfl)).trans c1⟩
 have Hc2 : Hid (∀ (w1 w2 : World) (K K2 : List Nat), (∀ k ∈ K, Zb k) → Upd K W.drew w1 → (∀ k ∈ K2, Zr k) → Upd K2 w1 w2 → w2.cell? ⟨xb, 0, none⟩ = some (.pointer (some ⟨bb, 0, none⟩)) ∧ w2.cell? ⟨xb, 1, none⟩ = some (.pointer (some ⟨rb, 0, none⟩))) := fun w1 w2 K K2 hK U hK2 U2 => by
  obtain ⟨a, b⟩ := Hc.out w1 K hK U
  have hl : xb < w1.heap.size := Nat.lt_of_lt_of_le h2.1.lt U.size
  exact ⟨(U2.cell (p := ⟨xb, 0, none⟩) hl (fun hm => (z2 _ (hK2 _ hm)).2 rfl)).trans a, (U2.cell (p := ⟨xb, 1, none⟩) hl (fun hm => (z2 _ (hK2 _ hm)).2 rfl)).trans b⟩
 have d0 : W.cell? ⟨xb, 0, none⟩ = some (.pointer (some ⟨bb, 0, none⟩)) := c0
 have d1 : W.cell? ⟨xb, 1, none⟩ = some (.pointer (some ⟨rb, 0, none⟩)) := c1
 have HW := hide hW
 clear h h1 h2 hb hr z1 z2 c0 c1 hW
 go_enter Tryz.func23, Tryz.ntmps23
 go_upto_region 1 with fail
 rw [← HW.out]
 go_upto_region 18 with fail
 go_region_held3 (fun w' => w'.cell? ⟨xb, 0, none⟩ = some (.pointer (some ⟨bb, 0, none⟩)) ∧ w'.cell? ⟨xb, 1, none⟩ = some (.pointer (some ⟨rb, 0, none⟩))) ((first | go_keep | (refine ⟨?_, ?_⟩ <;> go_simp)))
  (first
   | (go_at_call 28; refine HS.out.mono ?_; rintro e w1 ⟨rfl, hb1, K1, hK1, U1⟩; have Hb1 := hide hb1; have HK1 := hide hK1; have HU1 := hide U1; have HR1 := hide (HR.out w1 K1 hK1 U1); obtain ⟨x0, x1⟩ := Hc.out w1 K1 hK1 U1; clear hb1 hK1 U1)
   | (go_at_call 52; refine HR1.out.mono ?_; rintro e w2 ⟨rfl, hr2, K2, hK2, U2⟩; have Hr2 := hide hr2; have HK2 := hide hK2; have HU2 := hide U2; obtain ⟨y0, y1⟩ := Hc2.out w1 w2 K1 K2 HK1.out HU1.out hK2 U2; clear hr2 hK2 U2)
   | (go_at_call 30; refine (numL_any _ _).mono ?_; rintro e w3 ⟨rfl, hw3⟩; rw [hw3]; clear hw3 w3))
 all_goals (
  go_wp2
  go_ret
  exact ⟨rfl, Hfin.out w1 w2 K1 K2 Hb1.out HK1.out HU1.out Hr2.out HK2.out HU2.out⟩)
set_option maxHeartbeats 2000000 in
set_option maxRecDepth 100000 in
theorem stepMark_many (kk : Int) (s : ByteArray) {w0 w : World} {xb : Nat} {S : WS} {L : List ST} {M : List Nat} (h : Since w0 w xb S L M) (hm : 10 ≤ S.marks.length) (hm2 : 10 ≤ M.length) :
  Calls Tryz.prog 23 #[.pointer (some ⟨xb, 0, none⟩), .agg #[.int .i64 8, .int .i64 kk, .string s]] w fun e w' => e = .returned (.bool true) ∧ Since w0 w' xb S L M := by
 have h1 := h.look ((Upd.refl [] w).alloc (.cells #[.int .i64 8, .int .i64 kk, .string s] 41))
 obtain ⟨W, hW⟩ : ∃ W, W = w.alloc (.cells #[.int .i64 8, .int .i64 kk, .string s] 41) := ⟨_, rfl⟩
 rw [← hW] at h1
 have e0 : W.cell? ⟨w.heap.size, 0, none⟩ = some (.int .i64 8) := by rw [hW]; go_simp
 have h2 := h1.look ((Upd.refl [] W).drew)
 obtain ⟨bb, rb, Zb, Zr, c0, c1, hb, hr, z1, z2⟩ := h2.1.ex
 have HS := hide (bookMark_many W.drew bb Zb S hb hm)
 have HR := hide (refMark_many W.drew rb Zr L M hr hm2)
 have H2 := hide h2
 have d0 : W.cell? ⟨xb, 0, none⟩ = some (.pointer (some ⟨bb, 0, none⟩)) := c0
 have d1 : W.cell? ⟨xb, 1, none⟩ = some (.pointer (some ⟨rb, 0, none⟩)) := c1
 have HW := hide hW
 clear h h1 h2 hb hr z1 z2 c0 c1 hW
 go_enter Tryz.func23, Tryz.ntmps23
 go_upto_region 1 with fail
 rw [← HW.out]
 go_upto_region 18 with fail
 go_region_held3 (fun w' => w'.cell? ⟨xb, 0, none⟩ = some (.pointer (some ⟨bb, 0, none⟩)) ∧ w'.cell? ⟨xb, 1, none⟩ = some (.pointer (some ⟨rb, 0, none⟩))) ((first | go_keep | (refine ⟨?_, ?_⟩ <;> go_simp)))
  (first
   | (go_at_call 28; refine HS.out.mono ?_; rintro e w3 ⟨rfl, hw3⟩; rw [hw3]; clear hw3 w3)
   | (go_at_call 52; refine HR.out.mono ?_; rintro e w3 ⟨rfl, hw3⟩; rw [hw3]; clear hw3 w3)
   | (go_at_call 30; refine (numL_any _ _).mono ?_; rintro e w3 ⟨rfl, hw3⟩; rw [hw3]; clear hw3 w3))
 all_goals (
  go_wp2
  go_ret
  exact ⟨rfl, H2.out⟩)
set_option maxHeartbeats 2000000 in
set_option maxRecDepth 100000 in
theorem stepBack_none (kk : Int) (s : ByteArray) {w0 w : World} {xb : Nat} {S : WS} {L : List ST} {M : List Nat} (h : Since w0 w xb S L M) (hm : S.marks = []) (hm2 : M = []) :
  Calls Tryz.prog 23 #[.pointer (some ⟨xb, 0, none⟩), .agg #[.int .i64 9, .int .i64 kk, .string s]] w fun e w' => e = .returned (.bool true) ∧ Since w0 w' xb S L M := by
 have h1 := h.look ((Upd.refl [] w).alloc (.cells #[.int .i64 9, .int .i64 kk, .string s] 41))
 obtain ⟨W, hW⟩ : ∃ W, W = w.alloc (.cells #[.int .i64 9, .int .i64 kk, .string s] 41) := ⟨_, rfl⟩
 rw [← hW] at h1
 have e0 : W.cell? ⟨w.heap.size, 0, none⟩ = some (.int .i64 9) := by rw [hW]; go_simp
 have h2 := h1.look ((Upd.refl [] W).drew)
 obtain ⟨bb, rb, Zb, Zr, c0, c1, hb, hr, z1, z2⟩ := h2.1.ex
 have HS := hide (bookBack_none W.drew bb Zb S hb hm)
 have HR := hide (refBack_none W.drew rb Zr L (by rw [hm2] at hr; exact hr))
 have H2 := hide h2
 have d0 : W.cell? ⟨xb, 0, none⟩ = some (.pointer (some ⟨bb, 0, none⟩)) := c0
 have d1 : W.cell? ⟨xb, 1, none⟩ = some (.pointer (some ⟨rb, 0, none⟩)) := c1
 have HW := hide hW
 clear h h1 h2 hb hr z1 z2 c0 c1 hW
 go_enter Tryz.func23, Tryz.ntmps23
 go_upto_region 1 with fail
 rw [← HW.out]
 go_upto_region 20 with fail
 go_region_held3 (fun w' => w'.cell? ⟨xb, 0, none⟩ = some (.pointer (some ⟨bb, 0, none⟩)) ∧ w'.cell? ⟨xb, 1, none⟩ = some (.pointer (some ⟨rb, 0, none⟩))) ((first | go_keep | (refine ⟨?_, ?_⟩ <;> go_simp)))
  (first
   | (go_at_call 29; refine HS.out.mono ?_; rintro e w3 ⟨rfl, hw3⟩; rw [hw3]; clear hw3 w3)
   | (go_at_call 53; refine HR.out.mono ?_; rintro e w3 ⟨rfl, hw3⟩; rw [hw3]; clear hw3 w3)
   | (go_at_call 30; refine (numL_any _ _).mono ?_; rintro e w3 ⟨rfl, hw3⟩; rw [hw3]; clear hw3 w3))
 all_goals (
  go_wp2
  go_ret
  exact ⟨rfl, H2.out⟩)
set_option maxHeartbeats 2000000 in
set_option maxRecDepth 100000 in
theorem stepBack_some (kk : Int) (s : ByteArray) {w0 w : World} {xb : Nat} {S S0 : WS} {L L0 R : List ST} {M0 : List Nat} (h : Since w0 w xb S L (M0 ++ [L0.length])) (hg : Goes (markM S0) S) (hR : L = L0 ++ R) (hB : Both S0 L0) (hm : S0.marks.length = M0.length) (hf : M0.length ≤ 10) :
  Calls Tryz.prog 23 #[.pointer (some ⟨xb, 0, none⟩), .agg #[.int .i64 9, .int .i64 kk, .string s]] w fun e w' => e = .returned (.bool true) ∧ Since w0 w' xb S0 L0 M0 := by
 have h1 := h.look ((Upd.refl [] w).alloc (.cells #[.int .i64 9, .int .i64 kk, .string s] 41))
 obtain ⟨W, hW⟩ : ∃ W, W = w.alloc (.cells #[.int .i64 9, .int .i64 kk, .string s] 41) := ⟨_, rfl⟩
 rw [← hW] at h1
 have e0 : W.cell? ⟨w.heap.size, 0, none⟩ = some (.int .i64 9) := by rw [hW]; go_simp
 have h2 := h1.look ((Upd.refl [] W).drew)
 obtain ⟨bb, rb, Zb, Zr, c0, c1, hb, hr, z1, z2⟩ := h2.1.ex
 have hback : ({ markM S0 with marks := S0.marks } : WS) = S0 := rfl
 have hBb := bookBack_some W.drew bb Zb S (markM S0) S0.marks hb hg rfl (by omega) (hB.marks _).holds.fine hB.terms hB.saids
 rw [hback] at hBb
 have HS := hide hBb
 have htk : L.take L0.length = L0 := by rw [hR]; simp
 have hll : L0.length ≤ L.length := by rw [hR]; simp
 have HR := hide (fun (w1 : World) (K : List Nat) (hK : ∀ k ∈ K, Zb k) (U : Upd K W.drew w1) => refBack_some w1 rb Zr L M0 L0.length (hr.later U (fun k hk hm => (z1 k (hK k hm)).2.1 hk)) (by omega) hll)
 rw [htk] at HR
 have Hfin := hide (fun (w1 w2 : World) (K1 K2 : List Nat) hb1 (hK1 : ∀ k ∈ K1, Zb k) (U1 : Upd K1 W.drew w1) hr2 (hK2 : ∀ k ∈ K2, Zr k) (U2 : Upd K2 w1 w2) => h2.left (h2.1.step (w1 := w1) (w2 := w2) (K1 := K1) (K2 := K2) (S' := S0) (L' := L0) (M' := M0) c0 c1 hr z1 z2 hb1 hK1 U1 hr2 hK2 U2 hB))
 have Hrb := hide hr.own
 have Hlow := hide (fun (w1 w2 : World) (K2 : List Nat) (U2 : Upd K2 w1 w2) (hr2 : RBAt w2 rb Zr L0 M0) => hr2.mono (Z' := fun k => (Zr k ∨ w1.heap.size ≤ k) ∧ k < w2.heap.size) (fun k hk => ⟨.inl hk, hr2.low k hk⟩) (fun k hk => hk.2))
 have Hc : Hid (∀ (w1 : World) (K : List Nat), (∀ k ∈ K, Zb k) → Upd K W.drew w1 → w1.cell? ⟨xb, 0, none⟩ = some (.pointer (some ⟨bb, 0, none⟩)) ∧ w1.cell? ⟨xb, 1, none⟩ = some (.pointer (some ⟨rb, 0, none⟩))) := fun w1 K hK U => ⟨(U.cell (p := ⟨xb, 0, none⟩) h2.1.lt (fun hm => (z1 _ (hK _ hm)).2.2 rfl)).trans c0, (U.cell (p := ⟨xb, 1, none⟩) h2.1.lt (fun hm => (z1 _ (hK _ hm)).2.2 rfl)).trans c1⟩
 have Hc2 : Hid (∀ (w1 w2 : World) (K K2 : List Nat), (∀ k ∈ K, Zb k) → Upd K W.drew w1 → (∀ k ∈ K2, Zr k) → Upd K2 w1 w2 → w2.cell? ⟨xb, 0, none⟩ = some (.pointer (some ⟨bb, 0, none⟩)) ∧ w2.cell? ⟨xb, 1, none⟩ = some (.pointer (some ⟨rb, 0, none⟩))) := fun w1 w2 K K2 hK U hK2 U2 => by
  obtain ⟨a, b⟩ := Hc.out w1 K hK U
  have hl : xb < w1.heap.size := Nat.lt_of_lt_of_le h2.1.lt U.size
  exact ⟨(U2.cell (p := ⟨xb, 0, none⟩) hl (fun hm => (z2 _ (hK2 _ hm)).2 rfl)).trans a, (U2.cell (p := ⟨xb, 1, none⟩) hl (fun hm => (z2 _ (hK2 _ hm)).2 rfl)).trans b⟩
 have d0 : W.cell? ⟨xb, 0, none⟩ = some (.pointer (some ⟨bb, 0, none⟩)) := c0
 have d1 : W.cell? ⟨xb, 1, none⟩ = some (.pointer (some ⟨rb, 0, none⟩)) := c1
 have HW := hide hW
 clear h h1 h2 hb hr z1 z2 c0 c1 hW hBb hback htk hll
 go_enter Tryz.func23, Tryz.ntmps23
 go_upto_region 1 with fail
 rw [← HW.out]
 go_upto_region 20 with fail
 go_region_held3 (fun w' => w'.cell? ⟨xb, 0, none⟩ = some (.pointer (some ⟨bb, 0, none⟩)) ∧ w'.cell? ⟨xb, 1, none⟩ = some (.pointer (some ⟨rb, 0, none⟩))) ((first | go_keep | (refine ⟨?_, ?_⟩ <;> go_simp)))
  (first
   | (go_at_call 29; refine HS.out.mono ?_; rintro e w1 ⟨rfl, hb1, K1, hK1, U1⟩; have Hb1 := hide hb1; have HK1 := hide hK1; have HU1 := hide U1; have HR1 := hide (HR.out w1 K1 hK1 U1); obtain ⟨x0, x1⟩ := Hc.out w1 K1 hK1 U1; clear hb1 hK1 U1)
   | (go_at_call 53; refine HR1.out.mono ?_; rintro e w2 ⟨rfl, hr2, U2⟩; have hK2 : ∀ k ∈ [rb], Zr k := (fun k hk => by simp at hk; rw [hk]; exact Hrb.out); have Hr2 := hide (Hlow.out w1 w2 [rb] U2 hr2); have HK2 := hide hK2; have HU2 := hide U2; obtain ⟨y0, y1⟩ := Hc2.out w1 w2 K1 [rb] HK1.out HU1.out hK2 U2; clear hr2 hK2 U2)
   | (go_at_call 30; refine (numL_any _ _).mono ?_; rintro e w3 ⟨rfl, hw3⟩; rw [hw3]; clear hw3 w3))
 all_goals (
  go_wp2
  go_ret
  exact ⟨rfl, Hfin.out w1 w2 K1 [rb] Hb1.out HK1.out HU1.out Hr2.out HK2.out HU2.out⟩)
theorem step9_any (kd kk : Int) (s : ByteArray) (hmax : s.size ≤ maxLen) (hk : kd ≤ 9) {w0 w : World} {xb : Nat} (h : Marked w0 w xb) :
  Calls Tryz.prog 23 #[.pointer (some ⟨xb, 0, none⟩), .agg #[.int .i64 kd, .int .i64 kk, .string s]] w fun e w' => e = .returned (.bool true) ∧ Marked w0 w' xb := by
 obtain ⟨S, L, M, K, h1, h2, h3⟩ := h
 have hl := h2.len
 by_cases h7 : kd ≤ 7
 ·refine (step7_any kd kk s hmax h7 h1).mono fun _ _ ⟨he, hs⟩ => ⟨he, ?_⟩
  rcases hs with hs | hs
  ·exact ⟨S, L, M, K, hs, h2, h3⟩
  ·exact ⟨_, _, M, K, hs, h2.say h1.1.both s, h3⟩
 ·by_cases h8 : kd = 8
  ·subst h8
   by_cases hf : M.length < 10
   ·exact (stepMark_few kk s h1 hl hf).mono fun _ _ ⟨he, hs⟩ => ⟨he, _, _, _, _, hs, h2.mark h1.1.both, by simp; omega⟩
   ·exact (stepMark_many kk s h1 (by omega) (by omega)).mono fun _ _ ⟨he, hs⟩ => ⟨he, S, L, M, K, hs, h2, h3⟩
  ·obtain rfl : kd = 9 := by omega
   cases K with
   | nil => exact (stepBack_none kk s h1 h2.1 h2.2).mono fun _ _ ⟨he, hs⟩ => ⟨he, S, L, M, [], hs, h2, h3⟩
   | cons p K =>
    obtain ⟨S0, L0⟩ := p
    obtain ⟨M0, g1, ⟨R, g2⟩, g3, g4, g5⟩ := h2
    subst g3
    have hfew : (M0 ++ [L0.length]).length ≤ 10 := h3
    rw [List.length_append, List.length_singleton] at hfew
    have hl0 := g5.len
    exact (stepBack_some kk s h1 g1 g2 g4 hl0 (by omega)).mono fun _ _ ⟨he, hs⟩ => ⟨he, S0, L0, M0, K, hs, g5, by omega⟩
set_option maxHeartbeats 1000000 in
set_option maxRecDepth 100000 in
theorem plays_any (ao : Option Addr) (sc : List (Int × Int × ByteArray)) (cap : Nat) (w : World) (hE : ErrTab w) (hR : ScriptIs w ao sc) (hcap : sc.length ≤ cap) (hm : cap ≤ maxLen) :
  Calls Tryz.prog 5 #[.slice ao sc.length cap] w fun e w' => e = .returned (.bool true) ∧ Upd [] w w' := by
 have HP := hide (play_any 9 Marked (fun _ _ _ h => ⟨_, _, _, [], h, ⟨rfl, rfl⟩, by simp⟩) (fun _ _ _ ⟨S, L, M, _, h, _⟩ => ⟨S, L, M, h⟩) (fun kd kk s w0 w xb hmx hk h => step9_any kd kk s hmx hk h) ao sc cap w hE hR hcap hm)
 clear hE hR hcap hm
 go_enter Tryz.func5, Tryz.ntmps5
 go_wp2_with (go_at_call 9; refine HP.out.mono ?_; rintro e w3 ⟨rfl, h3⟩; have H3 := hide h3; clear h3)
 go_ret
 exact ⟨rfl, H3.out⟩
end Go.Proofs.YtmfkpllnmmfpiaaGreatDoor
