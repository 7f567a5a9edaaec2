/- PowRead, PowBook, Kept, Raw -/
import Derived.Test.YtmfkpllnmmfpiaaGreatDoorS3CountW
import Derived.Test.YtmfkpllnmmfpiaaGreatDoorBookW
import Derived.Test.YtmfkpllnmmfpiaaGreatDoorBookMarkW
import Derived.Laws.BytesArg
namespace Go.Proofs.YtmfkpllnmmfpiaaGreatDoor
open Go.RowKit
def powB : Nat → List UInt8
 | 0 => [97]
 | n + 1 => [102, 40] ++ powB n ++ [41]
def eqT (n : Nat) : ByteArray := ⟨(powB n ++ [32, 61, 32, 97]).toArray⟩
def isPow : (n : Nat) → Tm n → Nat → Bool
 | 0, _, _ => false
 | _ + 1, t, 0 => decide (t.name = nA) && t.parts.isEmpty
 | n + 1, t, e + 1 => decide (t.name = nF) && match t.parts with
  | [p] => isPow n p e
  | _ => false
theorem isPow_den {S : WS} : ∀ {n e i : Nat} {t : Tm n}, isPow n t e = true → Den S n t i → PowAt S e i
 | 0, _, _, _, h, _ => by simp [isPow] at h
 | n + 1, 0, i, t, h, ⟨ks, h1, h2⟩ => by
  simp only [isPow, Bool.and_eq_true, decide_eq_true_eq, List.isEmpty_iff] at h
  rw [h.2] at h2
  match ks, h2 with
  | [], _ =>
   rw [h.1] at h1
   exact h1
 | n + 1, e + 1, i, t, h, ⟨ks, h1, h2⟩ => by
  simp only [isPow, Bool.and_eq_true, decide_eq_true_eq] at h
  obtain ⟨hn, hp⟩ := h
  split at hp
  ·rename_i p hps
   rw [hps] at h2
   match ks, h2 with
   | [k], h2 =>
    rw [hn] at h1
    exact ⟨k, h1, isPow_den hp h2.1⟩
  ·cases hp
theorem isPow_all : ∀ {n e : Nat} {t : Tm n}, isPow n t e = true → AllTm onlyAF n t ∧ sizeT n t = e + 1
 | 0, _, _, h => by simp [isPow] at h
 | n + 1, 0, t, h => by
  simp only [isPow, Bool.and_eq_true, decide_eq_true_eq, List.isEmpty_iff] at h
  refine ⟨⟨.inl ⟨h.1, by rw [h.2]; rfl⟩, by rw [h.2]; trivial⟩, ?_⟩
  show 1 + sumOf (sizeT n) t.parts = _
  rw [h.2]
  rfl
 | n + 1, e + 1, t, h => by
  simp only [isPow, Bool.and_eq_true, decide_eq_true_eq] at h
  obtain ⟨hn, hp⟩ := h
  split at hp
  ·rename_i p hps
   obtain ⟨h1, h2⟩ := isPow_all hp
   refine ⟨⟨.inr ⟨hn, by rw [hps]; rfl⟩, by rw [hps]; exact ⟨h1, trivial⟩⟩, ?_⟩
   show 1 + sumOf (sizeT n) t.parts = _
   rw [hps]
   show 1 + (sizeT n p + 0) = _
   omega
  ·cases hp
def isPowS {n : Nat} (x : Snt n) (e : Nat) (b : Bool) : Bool := isPow n x.left e && (x.eq == b) && isPow n x.right 0
def readsPow (s : ByteArray) (e : Nat) (b : Bool) : Bool := match (readOf s).1 with
 | some x => isPowS x e b
 | none => false
theorem reads_eq : (List.range 13).all (fun m => readsPow (eqT m) m true) = true := by kernel_rfl
end Go.Proofs.YtmfkpllnmmfpiaaGreatDoor

namespace Go.Proofs.YtmfkpllnmmfpiaaGreatDoor
open Go.RowKit
theorem readsPow_some {s : ByteArray} {e : Nat} {b : Bool} (h : readsPow s e b = true) : ∃ x, (readOf s).1 = some x ∧ isPow _ x.left e = true ∧ x.eq = b ∧ isPow _ x.right 0 = true := by
 unfold readsPow at h
 split at h
 ·rename_i x hx
  unfold isPowS at h
  simp only [Bool.and_eq_true, beq_iff_eq] at h
  exact ⟨x, hx, h.1.1, h.1.2, h.2⟩
 ·cases h
theorem reads_eq_at {m : Nat} (h : m ≤ 12) : readsPow (eqT m) m true = true := List.all_eq_true.1 reads_eq m (by simp; omega)
structure PowWeb (S : WS) (l : List Nat) (sz : Nat) : Prop where
 fine : Fine S
 only : Only onlyAF S
 len : S.shapes.length ≤ sz
 said : AllIs (fun (x : Nat × Nat × Nat) (m : Nat) => x.1 = 0 ∧ PowAt S m x.2.1 ∧ PowAt S 0 x.2.2) S.said l
theorem AllIs.left {α β : Type} {R : α → β → Prop} : ∀ {xs : List α} {ys : List β}, AllIs R xs ys → ∀ x ∈ xs, ∃ y, R x y
 | x :: _, _ :: _, h, a, ha => by
  simp only [List.mem_cons] at ha
  rcases ha with rfl | ha
  ·exact ⟨_, h.1⟩
  ·exact AllIs.left h.2 a ha
 | _ :: _, [], h, _, _ => h.elim
theorem PowWeb.zero {S : WS} {l : List Nat} {sz : Nat} (h : PowWeb S l sz) : ∀ x ∈ S.said, x.1 = 0 := fun x hx => let ⟨_, h1⟩ := h.said.left x hx; h1.1
theorem PowWeb.none : PowWeb noWS [] 0 := ⟨noWS_fine, fun i s h => by simp [noWS] at h, Nat.le_refl _, trivial⟩
theorem PowWeb.say {S : WS} {l : List Nat} {sz e : Nat} (h : PowWeb S l sz) {s : ByteArray} {x : Snt (fuelOf s)} (hx : (readOf s).1 = some x) (hl : isPow _ x.left e = true) (hr : isPow _ x.right 0 = true) (he : x.eq = true) (hsz : sz + e ≤ 300) : PowWeb (sayM S x) (l ++ [e]) (sz + e + 2) := by
 obtain ⟨hnar, _, _⟩ := readOf_small hx
 obtain ⟨a1, s1⟩ := isPow_all hl
 obtain ⟨a2, s2⟩ := isPow_all hr
 have hs : sizeS x = e + 2 := by unfold sizeS; omega
 have hlen := h.len
 have E := sayM_end h.fine.web hnar (by omega)
 obtain ⟨i, j, d1, d2, hsd⟩ := E.said
 have hEl := E.len
 refine ⟨⟨E.web, E.pot h.fine.pot⟩, h.only.say h.fine.web hnar (by omega) a1 a2, by omega, ?_⟩
 rw [hsd, he]
 exact (h.said.mono fun a b hab => ⟨hab.1, hab.2.1.mono E.shapes, hab.2.2.mono E.shapes⟩).snoc ⟨rfl, isPow_den hl d1, isPow_den hr d2⟩
theorem PowWeb.sayOf {S : WS} {l : List Nat} {sz e : Nat} (h : PowWeb S l sz) (he : e ≤ 12) (hsz : sz + 14 ≤ 100) (hl : l.length < 40) : (sayOf S (eqT e)).1 = (l.length, 0, 0) ∧ PowWeb (sayOf S (eqT e)).2 (l ++ [e]) (sz + e + 2) := by
 obtain ⟨x, hx, h1, h2, h3⟩ := readsPow_some (reads_eq_at he)
 have hs := h.say hx h1 h3 h2 (by omega)
 have hlen := hs.len
 have hsl := h.said.length
 unfold Go.Proofs.YtmfkpllnmmfpiaaGreatDoor.sayOf
 rw [hx]
 simp only
 rw [if_neg (by omega), if_neg (by omega)]
 exact ⟨by rw [hsl], hs⟩
def opS : ByteArray := ⟨#[102, 40, 97, 41, 32, 61, 32, 97]⟩
def opP : ByteArray := ⟨#[102, 40, 102, 40, 97, 41, 41, 32, 61, 32, 97]⟩
def opQ : ByteArray := ⟨#[102, 40, 98, 41, 32, 61, 32, 98]⟩
theorem open_say : (sayOf noWS opS).1 = (0, 0, 0) := by kernel_rfl
theorem open_p : followsOf (sayOf noWS opS).2 opP = (true, 0, 0) := by kernel_rfl
theorem open_q : followsOf (sayOf noWS opS).2 opQ = (false, 0, 0) := by kernel_rfl
end Go.Proofs.YtmfkpllnmmfpiaaGreatDoor

namespace Go.Proofs.YtmfkpllnmmfpiaaGreatDoor
open Go.RowKit
def pickZ (c n : Int) : Int := (if c < 0 then -(c + 1) else c) % n
theorem pickZ_lt {c n : Int} (h : 0 < n) : 0 ≤ pickZ c n ∧ pickZ c n < n := ⟨Int.emod_nonneg _ (by omega), Int.emod_lt_of_pos _ h⟩
set_option maxHeartbeats 400000 in
theorem pick_any (c n : Int) (w : World) (hc0 : -9223372036854775808 ≤ c) (hc1 : c ≤ 9223372036854775807) (hn : 0 < n) (hn1 : n ≤ 1000) :
  Calls Tryz.prog 78 #[.int .i64 c, .int .i64 n] w fun e w' => e = .returned (.int .i64 (pickZ c n)) ∧ w' = w := by
 by_cases hc : c < 0
 ·go_enter Tryz.func78, Tryz.ntmps78
  go_wp2
  go_ret
  refine ⟨?_, rfl⟩
  show Ending.returned (.int .i64 (-((c + 1).tmod n))) = _
  have e : pickZ c n = -((c + 1).tmod n) := by
   unfold pickZ
   rw [if_pos hc, ← Int.neg_tmod, Int.tmod_eq_emod_of_nonneg (by omega)]
  rw [e]
 ·have hc' : 0 ≤ c := by omega
  have e : Hid (pickZ c n = c % n) := by show _ = _; unfold pickZ; rw [if_neg hc]
  clear hc
  go_enter Tryz.func78, Tryz.ntmps78
  go_wp2
  go_ret
  exact ⟨by rw [e.out]; rfl, rfl⟩
theorem bytes_append (a b : List UInt8) : (⟨a.toArray⟩ : ByteArray) ++ (⟨b.toArray⟩ : ByteArray) = ⟨(a ++ b).toArray⟩ := by
 apply ByteArray.ext
 simp
set_option maxHeartbeats 1000000 in
theorem keepFollows_any (s : ByteArray) (w : World) (bb : Nat) (Z : Nat → Prop) (S : WS) (hmax : s.size ≤ maxLen) (h : BookAt w bb Z S) (hE : ErrTab w) {f : Bool} (hf : followsOf S s = (f, 0, 0)) :
  Calls Tryz.prog 21 #[.pointer (some ⟨bb, 0, none⟩), .string s] w fun e w' => e = .returned (.tuple #[.bool f, .bool true]) ∧ BookAt w' bb (fun k => (Z k ∨ w.heap.size ≤ k) ∧ k < w'.heap.size) S ∧ ∃ L, (∀ k ∈ L, Z k) ∧ Upd L w w' := by
 have HF := follows_any s w bb Z S hmax h hE
 rw [hf] at HF
 have HF := hide HF
 clear h hE hf
 go_enter Tryz.func21, Tryz.ntmps21
 go_wp2_with (go_at_call 26; refine HF.out.mono ?_; rintro e w2 ⟨rfl, hb2, hL2⟩; have Hb2 := hide hb2; have HL2 := hide hL2; clear hb2 hL2)
 go_ret2
 exact ⟨rfl, Hb2.out, HL2.out⟩
structure Two (w w1 wk : World) (b1 bx : Nat) (S : WS) : Prop where
 err : ErrTab wk
 one : BookAt wk b1 (fun k => w.heap.size ≤ k ∧ k < w1.heap.size) noWS
 two : BookAt wk bx (fun k => w1.heap.size ≤ k ∧ k < wk.heap.size) S
 upd : Upd [] w wk
 pos : 0 < w.heap.size
 le : w.heap.size ≤ w1.heap.size
theorem Two.next {w w1 wk w' : World} {b1 bx : Nat} {S S' : WS} (h : Two w w1 wk b1 bx S) (hb : BookAt w' bx (fun k => ((w1.heap.size ≤ k ∧ k < wk.heap.size) ∨ wk.heap.size ≤ k) ∧ k < w'.heap.size) S') (hL : ∃ L, (∀ k ∈ L, w1.heap.size ≤ k ∧ k < wk.heap.size) ∧ Upd L wk w') : Two w w1 w' b1 bx S' := by
 obtain ⟨L, hL, U⟩ := hL
 have h1 := h.pos
 have h2 := h.le
 have h3 := h.two.low bx h.two.own
 have h4 := h.two.own.1
 refine ⟨h.err.later U (fun hm => by have := (hL 0 hm).1; omega), h.one.later U (fun k hk hm => by have := (hL k hm).1; omega), ?_, h.upd.trans' U (fun x hx hl => by have := (hL x hx).1; omega), h1, h2⟩
 obtain ⟨wb, H, hc, hw⟩ := hb.ex
 refine ⟨hb.lt, hb.self, ⟨wb, H, hc, hw.mono (fun k hk hl => ⟨⟨?_, hl⟩, hk.2⟩)⟩, ⟨h4, hb.lt⟩, fun k hk => hk.2, hb.fine, hb.terms, hb.saids⟩
 rcases hk.1.1 with h5 | h5
 ·exact h5.1
 ·omega
set_option maxHeartbeats 4000000 in
set_option maxRecDepth 100000 in
theorem opened_any (w : World) (hE : ErrTab w) : Calls Tryz.prog 42 #[] w fun e w' => ∃ bb, e = .returned (.pointer (some ⟨bb, 0, none⟩)) ∧ BookAt w' bb (fun k => w.heap.size ≤ k ∧ k < w'.heap.size) noWS ∧ Upd [] w w' := by
 have HN := hide (new_any w)
 have HN2 := hide (fun w1 : World => new_any w1)
 have HS := hide (fun (w1 w2 : World) (b1 bx : Nat) (h : Two w w1 w2 b1 bx noWS) => say_any opS w2 bx _ noWS (by decide) h.two h.err)
 have HP := hide (fun (w1 w3 : World) (b1 bx : Nat) (h : Two w w1 w3 b1 bx (sayOf noWS opS).2) => follows_any opP w3 bx _ (sayOf noWS opS).2 (by decide) h.two h.err)
 have HQ := hide (fun (w1 w3 : World) (b1 bx : Nat) (h : Two w w1 w3 b1 bx (sayOf noWS opS).2) => follows_any opQ w3 bx _ (sayOf noWS opS).2 (by decide) h.two h.err)
 rw [open_p] at HP
 rw [open_q] at HQ
 rw [open_say] at HS
 unfold opS opP opQ at *
 simp only [Int.natCast_zero] at HS HP HQ
 generalize (sayOf noWS _).2 = S1 at *
 have h0 := hE.1
 have HE := hide hE
 clear hE
 go_enter Tryz.func42, Tryz.ntmps42
 go_upto_region 2 with (go_at_call 49; refine HN.out.mono ?_; rintro e w1 ⟨b1, rfl, hb1, hu1⟩; have Hb1 := hide hb1; have Hu1 := hide hu1; clear hb1 hu1)
 go_upto_region 5 with (go_at_call 49; refine (HN2.out w1).mono ?_; rintro e w2 ⟨b2, rfl, hb2, hu2⟩; have H2 := hide (⟨(HE.out.later Hu1.out (by simp)).later hu2 (by simp), Hb1.out.later hu2 (fun _ _ => by simp), hb2, Hu1.out.trans hu2, h0, Hu1.out.size⟩ : Two w w1 w2 b1 b2 noWS); clear hb2 hu2)
 clear HN HN2 Hb1 Hu1 HE
 go_wp2_with (first
  | (go_at_call 25; refine (HS.out w1 w2 b1 b2 H2.out).mono ?_; rintro e w3 ⟨rfl, hb3, hL3⟩; have H3 := hide (H2.out.next hb3 hL3); clear hb3 hL3)
  | (go_at_call_of 26 (Value.string ⟨#[102, 40, 102, 40, 97, 41, 41, 32, 61, 32, 97]⟩); refine (HP.out w1 w3 b1 b2 H3.out).mono ?_; rintro e w4 ⟨rfl, hb4, hL4⟩; have H4 := hide (H3.out.next hb4 hL4); clear hb4 hL4)
  | (go_at_call_of 26 (Value.string ⟨#[102, 40, 98, 41, 32, 61, 32, 98]⟩); refine (HQ.out w1 w4 b1 b2 H4.out).mono ?_; rintro e w5 ⟨rfl, hb5, hL5⟩; have H5 := hide (H4.out.next hb5 hL5); clear hb5 hL5))
 go_ret
 have h5 := H5.out
 have hlt : w1.heap.size ≤ w5.heap.size := by have := h5.two.low b2 h5.two.own; have := h5.two.own.1; omega
 obtain ⟨wb, H, hc, hw⟩ := h5.one.ex
 exact ⟨b1, rfl, ⟨h5.one.lt, h5.one.self, ⟨wb, H, hc, hw.mono (fun k hk hl => ⟨⟨hk.1.1, hl⟩, hk.2⟩)⟩, ⟨h5.one.own.1, h5.one.lt⟩, fun k hk => hk.2, h5.one.fine, h5.one.terms, h5.one.saids⟩, h5.upd⟩
structure One (w wk : World) (bb : Nat) (S : WS) : Prop where
 err : ErrTab wk
 book : BookAt wk bb (fun k => w.heap.size ≤ k ∧ k < wk.heap.size) S
 upd : Upd [] w wk
 pos : 0 < w.heap.size
theorem One.next {w wk w' : World} {bb : Nat} {S S' : WS} (h : One w wk bb S) (hb : BookAt w' bb (fun k => ((w.heap.size ≤ k ∧ k < wk.heap.size) ∨ wk.heap.size ≤ k) ∧ k < w'.heap.size) S') (hL : ∃ L, (∀ k ∈ L, w.heap.size ≤ k ∧ k < wk.heap.size) ∧ Upd L wk w') : One w w' bb S' := by
 obtain ⟨L, hL, U⟩ := hL
 have h1 := h.pos
 have h3 := h.book.low bb h.book.own
 have h4 := h.book.own.1
 refine ⟨h.err.later U (fun hm => by have := (hL 0 hm).1; omega), ?_, h.upd.trans' U (fun x hx hl => by have := (hL x hx).1; omega), h1⟩
 obtain ⟨wb, H, hc, hw⟩ := hb.ex
 refine ⟨hb.lt, hb.self, ⟨wb, H, hc, hw.mono (fun k hk hl => ⟨⟨?_, hl⟩, hk.2⟩)⟩, ⟨h4, hb.lt⟩, fun k hk => hk.2, hb.fine, hb.terms, hb.saids⟩
 rcases hk.1.1 with h5 | h5
 ·exact h5.1
 ·have := h.upd.size; omega
end Go.Proofs.YtmfkpllnmmfpiaaGreatDoor

namespace Go.Proofs.YtmfkpllnmmfpiaaGreatDoor
open Go.RowKit
structure RawIs (w : World) (ao : Option Addr) (zs : List Int) : Prop where
 cells : ∀ i, i < zs.length → ∃ b off, ao = some ⟨b, off, none⟩ ∧ w.cell? ⟨b, off + i, none⟩ = some (.int .i64 (zs.getD i 0))
 fits : ∀ i, -9223372036854775808 ≤ zs.getD i 0 ∧ zs.getD i 0 ≤ 9223372036854775807
theorem RawIs.later {w w' : World} {ao : Option Addr} {zs : List Int} (h : RawIs w ao zs) (U : Upd [] w w') : RawIs w' ao zs :=
 ⟨fun i hi => let ⟨b, off, e, hc⟩ := h.cells i hi; ⟨b, off, e, (U.cell (p := ⟨b, off + i, none⟩) (World.block_lt_of_cell? _ _ hc) (by simp)).trans hc⟩, h.fits⟩
def Fits64 (z : Int) : Prop := -9223372036854775808 ≤ z ∧ z ≤ 9223372036854775807
theorem tdiv_in {z : Int} {d : Int} (h : Fits64 z) (hd : 0 < d) : Fits64 (z.tdiv d) := by
 unfold Fits64 at *
 have h1 : (z.tdiv d).natAbs ≤ z.natAbs := by
  rw [Int.natAbs_tdiv]
  exact Nat.div_le_self _ _
 by_cases h2 : 0 ≤ z
 ·have h3 := Int.tdiv_nonneg h2 (by omega : 0 ≤ d)
  omega
 ·have h3 : z.tdiv d ≤ 0 := by
   have := Int.tdiv_nonneg (a := -z) (b := d) (by omega) (by omega)
   rw [Int.neg_tdiv] at this
   omega
  omega
def t3Of : Nat → Int → T3
 | 0, c => .v (pickZ c 3).toNat
 | d + 1, c => if pickZ (c.tdiv 3) 4 = 1 ∨ pickZ (c.tdiv 3) 4 = 2 then .f (t3Of d (c.tdiv 12)) else if pickZ (c.tdiv 3) 4 = 3 then .g (t3Of d (c.tdiv 12)) (pickZ c 3).toNat else .v (pickZ c 3).toNat
theorem t3Of_ok : ∀ (d : Nat) (c : Int), (t3Of d c).ok ∧ (t3Of d c).depth ≤ d
 | 0, c => by
  have := pickZ_lt (c := c) (n := 3) (by omega)
  exact ⟨by show (pickZ c 3).toNat < 3; omega, Nat.le_refl _⟩
 | d + 1, c => by
  have h := pickZ_lt (c := c) (n := 3) (by omega)
  obtain ⟨h1, h2⟩ := t3Of_ok d (c.tdiv 12)
  unfold t3Of
  split
  ·exact ⟨h1, by simp only [T3.depth]; omega⟩
  ·split
   ·exact ⟨⟨h1, by omega⟩, by simp only [T3.depth]; omega⟩
   ·exact ⟨by show (pickZ c 3).toNat < 3; omega, Nat.zero_le _⟩
def tB (t : T3) : ByteArray := ⟨t.txt.toArray⟩
theorem tB_size (t : T3) (d : Nat) (h : t.depth ≤ d) : (tB t).size ≤ 6 * d + 1 := by
 have := t.len
 show t.txt.toArray.size ≤ _
 simp
 omega
theorem tB_f (t : T3) : (⟨#[102, 40]⟩ : ByteArray) ++ tB t ++ ⟨#[41]⟩ = tB (.f t) := by
 show (⟨([102, 40] : List UInt8).toArray⟩ : ByteArray) ++ ⟨t.txt.toArray⟩ ++ ⟨([41] : List UInt8).toArray⟩ = _
 rw [bytes_append, bytes_append]
 rfl
theorem tB_g (t : T3) (i : Nat) : (⟨#[103, 40]⟩ : ByteArray) ++ tB t ++ ⟨#[44, 32]⟩ ++ vB i ++ ⟨#[41]⟩ = tB (.g t i) := by
 show (⟨([103, 40] : List UInt8).toArray⟩ : ByteArray) ++ ⟨t.txt.toArray⟩ ++ ⟨([44, 32] : List UInt8).toArray⟩ ++ ⟨([UInt8.ofNat (97 + i)] : List UInt8).toArray⟩ ++ ⟨([41] : List UInt8).toArray⟩ = _
 rw [bytes_append, bytes_append, bytes_append, bytes_append]
 congr 2
 simp [T3.txt]
theorem letter_str (x : Nat) (w : World) (hx : (x : Int) < 3) : (convert 186 9 (.slice (some ⟨w.heap.size, 0, none⟩) 1 1)).run Tryz.prog (w.alloc (.cells #[.int .u8 (97 + (x : Int))] 5)) = .ok (.string (vB x)) (w.alloc (.cells #[.int .u8 (97 + (x : Int))] 5)) := by
 rw [run_convert_bytes_arg _ 186 5 Tryz.underlying186 Tryz.underlying5 w.heap.size 0 1 1 [97 + (x : Int)] rfl (fun i hi => by rw [show i = 0 by omega]; go_simp) 9 Tryz.underlying9]
 have e : (97 + (x : Int)).toNat = 97 + x := by omega
 unfold strOfNums vB
 simp [e]
def s3Of (c : Int) : S3 := ⟨t3Of 2 (c.tdiv 5), !decide (pickZ c 5 = 0), t3Of 2 (c.tdiv 3000)⟩
theorem s3Of_ok (c : Int) : (s3Of c).ok := ⟨(t3Of_ok _ _).1, (t3Of_ok _ _).1, (t3Of_ok _ _).2, (t3Of_ok _ _).2⟩
set_option maxHeartbeats 2000000 in
set_option maxRecDepth 100000 in
theorem term_any : ∀ (d : Nat) (c : Int) (w : World), d ≤ 2 → Fits64 c →
  Calls Tryz.prog 79 #[.int .i64 c, .int .i64 (d : Int)] w fun e w' => e = .returned (.string (tB (t3Of d c))) ∧ Upd [] w w' := by
 intro d
 induction d with
 | zero =>
  intro c w _ hc
  obtain ⟨x, hx, Px⟩ : ∃ x : Nat, pickZ c 3 = (x : Int) ∧ x < 3 := by have := pickZ_lt (c := c) (n := 3) (by omega); exact ⟨(pickZ c 3).toNat, by omega, by omega⟩
  obtain ⟨k, hk, Pk⟩ : ∃ k : Nat, pickZ (c.tdiv 3) 4 = (k : Int) ∧ k < 4 := by have := pickZ_lt (c := c.tdiv 3) (n := 4) (by omega); exact ⟨(pickZ (c.tdiv 3) 4).toNat, by omega, by omega⟩
  have h3 := tdiv_in hc (d := 3) (by omega)
  have HP3 := hide (fun w' : World => pick_any c 3 w' hc.1 hc.2 (by omega) (by omega))
  have HP4 := hide (fun w' : World => pick_any (c.tdiv 3) 4 w' h3.1 h3.2 (by omega) (by omega))
  rw [hx] at HP3
  rw [hk] at HP4
  have hd := letter_str x w (by omega)
  have HT : Hid (tB (t3Of 0 c) = vB x) := by show _ = _; unfold t3Of tB; rw [hx]; rfl
  have hx3 : (x : Int) < 3 := by omega
  unfold Fits64 at hc h3
  clear hx hk
  match k, Pk with
  | 0, _ =>
   go_enter Tryz.func79, Tryz.ntmps79
   go_wp2_with (first
    | (go_at_call_of 78 (Value.int .i64 3); refine (HP3.out _).mono ?_; rintro e w9 ⟨rfl, hw9⟩; rw [hw9]; clear hw9 w9)
    | (go_at_call_of 78 (Value.int .i64 4); refine (HP4.out _).mono ?_; rintro e w9 ⟨rfl, hw9⟩; rw [hw9]; clear hw9 w9))
   go_ret
   exact ⟨by rw [HT.out]; rfl, (Upd.refl [] w).alloc _⟩
  | 1, _ =>
   go_enter Tryz.func79, Tryz.ntmps79
   go_wp2_with (first
    | (go_at_call_of 78 (Value.int .i64 3); refine (HP3.out _).mono ?_; rintro e w9 ⟨rfl, hw9⟩; rw [hw9]; clear hw9 w9)
    | (go_at_call_of 78 (Value.int .i64 4); refine (HP4.out _).mono ?_; rintro e w9 ⟨rfl, hw9⟩; rw [hw9]; clear hw9 w9))
   go_ret
   exact ⟨by rw [HT.out]; rfl, (Upd.refl [] w).alloc _⟩
  | 2, _ =>
   go_enter Tryz.func79, Tryz.ntmps79
   go_wp2_with (first
    | (go_at_call_of 78 (Value.int .i64 3); refine (HP3.out _).mono ?_; rintro e w9 ⟨rfl, hw9⟩; rw [hw9]; clear hw9 w9)
    | (go_at_call_of 78 (Value.int .i64 4); refine (HP4.out _).mono ?_; rintro e w9 ⟨rfl, hw9⟩; rw [hw9]; clear hw9 w9))
   go_ret
   exact ⟨by rw [HT.out]; rfl, (Upd.refl [] w).alloc _⟩
  | 3, _ =>
   go_enter Tryz.func79, Tryz.ntmps79
   go_wp2_with (first
    | (go_at_call_of 78 (Value.int .i64 3); refine (HP3.out _).mono ?_; rintro e w9 ⟨rfl, hw9⟩; rw [hw9]; clear hw9 w9)
    | (go_at_call_of 78 (Value.int .i64 4); refine (HP4.out _).mono ?_; rintro e w9 ⟨rfl, hw9⟩; rw [hw9]; clear hw9 w9))
   go_ret
   exact ⟨by rw [HT.out]; rfl, (Upd.refl [] w).alloc _⟩
  | k + 4, hk => omega
 | succ d ih =>
  intro c w hd2 hc
  obtain ⟨x, hx, Px⟩ : ∃ x : Nat, pickZ c 3 = (x : Int) ∧ x < 3 := by have := pickZ_lt (c := c) (n := 3) (by omega); exact ⟨(pickZ c 3).toNat, by omega, by omega⟩
  obtain ⟨k, hk, Pk⟩ : ∃ k : Nat, pickZ (c.tdiv 3) 4 = (k : Int) ∧ k < 4 := by have := pickZ_lt (c := c.tdiv 3) (n := 4) (by omega); exact ⟨(pickZ (c.tdiv 3) 4).toNat, by omega, by omega⟩
  have h3 := tdiv_in hc (d := 3) (by omega)
  have h12 := tdiv_in hc (d := 12) (by omega)
  have HP3 := hide (fun w' : World => pick_any c 3 w' hc.1 hc.2 (by omega) (by omega))
  have HP4 := hide (fun w' : World => pick_any (c.tdiv 3) 4 w' h3.1 h3.2 (by omega) (by omega))
  have HI := hide (fun w' : World => ih (c.tdiv 12) w' (by omega) h12)
  have hsz := tB_size (t3Of d (c.tdiv 12)) d (t3Of_ok d _).2
  have hvz : (vB x).size = 1 := rfl
  have Hf := hide (tB_f (t3Of d (c.tdiv 12)))
  have Hg := hide (tB_g (t3Of d (c.tdiv 12)) x)
  have HT : Hid (tB (t3Of (d + 1) c) = if (k = 1 ∨ k = 2) then tB (.f (t3Of d (c.tdiv 12))) else if k = 3 then tB (.g (t3Of d (c.tdiv 12)) x) else vB x) := by
   show _ = _
   have e : t3Of (d + 1) c = if (k = 1 ∨ k = 2) then .f (t3Of d (c.tdiv 12)) else if k = 3 then .g (t3Of d (c.tdiv 12)) x else .v x := by
    conv => lhs; unfold t3Of
    rw [hx, hk]
    match k, Pk with
    | 0, _ => rfl
    | 1, _ => rfl
    | 2, _ => rfl
    | 3, _ => rfl
    | k + 4, hk => omega
   rw [e]
   match k, Pk with
   | 0, _ => rfl
   | 1, _ => rfl
   | 2, _ => rfl
   | 3, _ => rfl
   | k + 4, hk => omega
  rw [hx] at HP3
  rw [hk] at HP4
  have hd := letter_str x w (by omega)
  have hx3 : (x : Int) < 3 := by omega
  have hdI : (d : Int) ≤ 1 := by omega
  unfold Fits64 at hc h3 h12
  clear hx hk ih
  generalize tB (t3Of d (c.tdiv 12)) = tt at *
  generalize vB x = vx at *
  have hts : tt.size ≤ 20 := by omega
  clear hsz
  have hvs : vx.size ≤ 1 := by omega
  clear hvz
  match k, Pk with
  | 0, _ =>
   go_enter Tryz.func79, Tryz.ntmps79
   go_wp2_with (first
    | (go_at_call_of 78 (Value.int .i64 3); refine (HP3.out _).mono ?_; rintro e w9 ⟨rfl, hw9⟩; rw [hw9]; clear hw9 w9)
    | (go_at_call_of 78 (Value.int .i64 4); refine (HP4.out _).mono ?_; rintro e w9 ⟨rfl, hw9⟩; rw [hw9]; clear hw9 w9))
   go_ret
   exact ⟨by rw [HT.out]; rfl, (Upd.refl [] w).alloc _⟩
  | 1, _ =>
   go_enter Tryz.func79, Tryz.ntmps79
   go_wp2_with (first
    | (go_at_call_of 78 (Value.int .i64 3); refine (HP3.out _).mono ?_; rintro e w9 ⟨rfl, hw9⟩; rw [hw9]; clear hw9 w9)
    | (go_at_call_of 78 (Value.int .i64 4); refine (HP4.out _).mono ?_; rintro e w9 ⟨rfl, hw9⟩; rw [hw9]; clear hw9 w9)
    | (go_at_call 79; refine (HI.out _).mono ?_; rintro e w2 ⟨rfl, hu2⟩; have Hu2 := hide hu2; clear hu2))
   go_ret
   exact ⟨by have e := HT.out; simp at e; rw [e, ← Hf.out]; rfl, ((Upd.refl [] w).alloc _).trans Hu2.out⟩
  | 2, _ =>
   go_enter Tryz.func79, Tryz.ntmps79
   go_wp2_with (first
    | (go_at_call_of 78 (Value.int .i64 3); refine (HP3.out _).mono ?_; rintro e w9 ⟨rfl, hw9⟩; rw [hw9]; clear hw9 w9)
    | (go_at_call_of 78 (Value.int .i64 4); refine (HP4.out _).mono ?_; rintro e w9 ⟨rfl, hw9⟩; rw [hw9]; clear hw9 w9)
    | (go_at_call 79; refine (HI.out _).mono ?_; rintro e w2 ⟨rfl, hu2⟩; have Hu2 := hide hu2; clear hu2))
   go_ret
   exact ⟨by have e := HT.out; simp at e; rw [e, ← Hf.out]; rfl, ((Upd.refl [] w).alloc _).trans Hu2.out⟩
  | 3, _ =>
   go_enter Tryz.func79, Tryz.ntmps79
   go_wp2_with (first
    | (go_at_call_of 78 (Value.int .i64 3); refine (HP3.out _).mono ?_; rintro e w9 ⟨rfl, hw9⟩; rw [hw9]; clear hw9 w9)
    | (go_at_call_of 78 (Value.int .i64 4); refine (HP4.out _).mono ?_; rintro e w9 ⟨rfl, hw9⟩; rw [hw9]; clear hw9 w9)
    | (go_at_call 79; refine (HI.out _).mono ?_; rintro e w2 ⟨rfl, hu2⟩; have Hu2 := hide hu2; clear hu2))
   go_ret
   exact ⟨by have e := HT.out; simp at e; rw [e, ← Hg.out]; rfl, ((Upd.refl [] w).alloc _).trans Hu2.out⟩
  | k + 4, hk => omega
theorem s3T_eq (l r : T3) : tB l ++ (⟨#[32, 61, 32]⟩ : ByteArray) ++ tB r = s3T l true r := by
 show (⟨l.txt.toArray⟩ : ByteArray) ++ ⟨([32, 61, 32] : List UInt8).toArray⟩ ++ ⟨r.txt.toArray⟩ = _
 rw [bytes_append, bytes_append]
 simp [s3T]
theorem s3T_ne (l r : T3) : tB l ++ (⟨#[32, 33, 61, 32]⟩ : ByteArray) ++ tB r = s3T l false r := by
 show (⟨l.txt.toArray⟩ : ByteArray) ++ ⟨([32, 33, 61, 32] : List UInt8).toArray⟩ ++ ⟨r.txt.toArray⟩ = _
 rw [bytes_append, bytes_append]
 simp [s3T]
set_option maxHeartbeats 1000000 in
set_option maxRecDepth 100000 in
theorem keepSentence_any (c : Int) (w : World) (hc : Fits64 c) :
  Calls Tryz.prog 43 #[.int .i64 c] w fun e w' => e = .returned (.string (s3Of c).text) ∧ Upd [] w w' := by
 have h5 := tdiv_in hc (d := 5) (by omega)
 have h3 := tdiv_in hc (d := 3000) (by omega)
 have HP := hide (fun w' : World => pick_any c 5 w' hc.1 hc.2 (by omega) (by omega))
 have HL := hide (fun w' : World => term_any 2 (c.tdiv 5) w' (by omega) h5)
 have HR := hide (fun w' : World => term_any 2 (c.tdiv 3000) w' (by omega) h3)
 have z1 := tB_size (t3Of 2 (c.tdiv 5)) 2 (t3Of_ok 2 _).2
 have z2 := tB_size (t3Of 2 (c.tdiv 3000)) 2 (t3Of_ok 2 _).2
 have hp := pickZ_lt (c := c) (n := 5) (by omega)
 have HT : Hid ((s3Of c).text = s3T (t3Of 2 (c.tdiv 5)) (!decide (pickZ c 5 = 0)) (t3Of 2 (c.tdiv 3000))) := by show _ = _; rfl
 have He := hide (s3T_eq (t3Of 2 (c.tdiv 5)) (t3Of 2 (c.tdiv 3000)))
 have Hn := hide (s3T_ne (t3Of 2 (c.tdiv 5)) (t3Of 2 (c.tdiv 3000)))
 generalize tB (t3Of 2 (c.tdiv 5)) = l at *
 generalize tB (t3Of 2 (c.tdiv 3000)) = r at *
 have y1 : l.size ≤ 20 := by omega
 have y2 : r.size ≤ 20 := by omega
 clear z1 z2
 unfold Fits64 at hc h5 h3
 obtain ⟨c5, e5⟩ : ∃ c5, c.tdiv 5 = c5 := ⟨_, rfl⟩
 obtain ⟨c3, e3⟩ : ∃ c3, c.tdiv 3000 = c3 := ⟨_, rfl⟩
 rw [e5] at HL HT He Hn h5
 rw [e3] at HR HT He Hn h3
 by_cases h0 : pickZ c 5 = 0
 ·rw [h0] at HP
  have HT2 : Hid ((s3Of c).text = s3T (t3Of 2 c5) false (t3Of 2 c3)) := by show _ = _; rw [HT.out, h0]; rfl
  clear h0 hp HT
  go_enter Tryz.func43, Tryz.ntmps43
  go_wp2_with (first
   | (go_at_call 78; refine (HP.out _).mono ?_; rintro e w9 ⟨rfl, hw9⟩; rw [hw9]; clear hw9 w9)
   | (go_at_call_of 79 (Value.int .i64 c5); refine (HL.out _).mono ?_; rintro e w2 ⟨rfl, hu2⟩; have Hu2 := hide hu2; clear hu2)
   | (go_at_call_of 79 (Value.int .i64 c3); refine (HR.out _).mono ?_; rintro e w3 ⟨rfl, hu3⟩; have Hu3 := hide hu3; clear hu3))
  go_ret
  exact ⟨by rw [HT2.out, ← Hn.out]; rfl, Hu2.out.trans Hu3.out⟩
 ·have h0' : (pickZ c 5 == 0) = false := by simp [h0]
  have HT2 : Hid ((s3Of c).text = s3T (t3Of 2 c5) true (t3Of 2 c3)) := by show _ = _; rw [HT.out, decide_eq_false h0]; rfl
  generalize pickZ c 5 = z at *
  clear h0 HT
  go_enter Tryz.func43, Tryz.ntmps43
  go_wp2_with (first
   | (go_at_call 78; refine (HP.out _).mono ?_; rintro e w9 ⟨rfl, hw9⟩; rw [hw9]; clear hw9 w9)
   | (go_at_call_of 79 (Value.int .i64 c5); refine (HL.out _).mono ?_; rintro e w2 ⟨rfl, hu2⟩; have Hu2 := hide hu2; clear hu2)
   | (go_at_call_of 79 (Value.int .i64 c3); refine (HR.out _).mono ?_; rintro e w3 ⟨rfl, hu3⟩; have Hu3 := hide hu3; clear hu3))
  go_ret
  exact ⟨by rw [HT2.out, ← He.out]; rfl, Hu2.out.trans Hu3.out⟩
def fillM (S : WS) (l : List Int) : WS := l.foldl (fun S c => (sayOf S (s3Of c).text).2) S
theorem fillM_snoc (S : WS) (l : List Int) (c : Int) : fillM S (l ++ [c]) = (sayOf (fillM S l) (s3Of c).text).2 := by simp [fillM]
theorem fillM_w3 : ∀ (l : List Int) (S : WS) (k : Nat), W3 S k → k + l.length ≤ 24 → W3 (fillM S l) (k + l.length)
 | [], _, _, h, _ => h
 | c :: l, S, k, h, hk => by
  simp only [List.length_cons] at hk
  have h1 := (h.say (by omega) (s3Of_ok c)).2.1
  have h2 := fillM_w3 l _ _ h1 (by omega)
  have e : k + (c :: l).length = k + 1 + l.length := by simp; omega
  rw [e]
  exact h2
end Go.Proofs.YtmfkpllnmmfpiaaGreatDoor
