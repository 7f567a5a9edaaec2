/- LawSince, LawTell, LawStep, ScriptRow, RefWhyLaw, RefWhy -/
import Derived.Test.YtmfkpllnmmfpiaaGreatDoorLawSaidH
import Derived.Test.YtmfkpllnmmfpiaaGreatDoorRefClassWalkH
import Derived.Test.YtmfkpllnmmfpiaaGreatDoorPowLawH
import Derived.ChangeOld
import Derived.Below
import Derived.ChangeArms
import Derived.Deep.Slices
import Derived.Test.YtmfkpllnmmfpiaaGreatDoorRefSortH
import Derived.Test.YtmfkpllnmmfpiaaGreatDoorPlacesH
namespace Go.Proofs.YtmfkpllnmmfpiaaGreatDoor
open Go.RowKit
theorem BothAt.mono {w : World} {xb : Nat} {Z Z' : Nat → Prop} {S : WS} {L : List ST} {M : List Nat} (h : BothAt w xb Z S L M) (hm : ∀ k, Z k → Z' k) (hl : ∀ k, Z' k → 0 < k ∧ k < w.heap.size) : BothAt w xb Z' S L M := by
 obtain ⟨bb, rb, Zb, Zr, c0, c1, hb, hr, z1, z2⟩ := h.ex
 exact ⟨h.lt, hm _ h.own, hl, ⟨bb, rb, Zb, Zr, c0, c1, hb, hr, fun k hk => ⟨hm k (z1 k hk).1, (z1 k hk).2⟩, fun k hk => ⟨hm k (z2 k hk).1, (z2 k hk).2⟩⟩, h.err, h.both⟩
def Since (w0 w : World) (xb : Nat) (S : WS) (L : List ST) (M : List Nat) : Prop := BothAt w xb (fun k => w0.heap.size ≤ k ∧ k < w.heap.size) S L M ∧ Upd [] w0 w ∧ 0 < w0.heap.size
theorem Since.left {w0 w w' : World} {xb : Nat} {S S' : WS} {L L' : List ST} {M M' : List Nat} (h : Since w0 w xb S L M) (hl : Left w w' xb (fun k => w0.heap.size ≤ k ∧ k < w.heap.size) S' L' M') : Since w0 w' xb S' L' M' := by
 obtain ⟨_, hu, hp⟩ := h
 obtain ⟨h1, K, hK, u⟩ := hl
 have hs := hu.size
 refine ⟨h1.mono (fun k hk => ⟨?_, hk.2⟩) (fun k hk => ⟨by omega, hk.2⟩), hu.trans' u (fun k hk hlt => ?_), hp⟩
 ·rcases hk.1 with h2 | h2
  ·exact h2.1
  ·omega
 ·have := (hK k hk).1
  omega
theorem Since.look {w0 w w' : World} {xb : Nat} {S : WS} {L : List ST} {M : List Nat} (h : Since w0 w xb S L M) (hu : Upd [] w w') : Since w0 w' xb S L M := h.left (h.1.left hu)
theorem Since.say {w0 w : World} {xb : Nat} {S : WS} {L : List ST} {M : List Nat} (h : Since w0 w xb S L M) (s : ByteArray) (hmax : s.size ≤ maxLen) :
  Calls Tryz.prog 12 #[.pointer (some ⟨xb, 0, none⟩), .string s] w fun e w' => e = .returned (.bool true) ∧ Since w0 w' xb (sayOf S s).2 (sayR L s).2 M :=
 (sayL_any s hmax w xb _ S L M h.1).mono fun _ _ ⟨he, hl⟩ => ⟨he, h.left hl⟩
theorem Since.follows {w0 w : World} {xb : Nat} {S : WS} {L : List ST} {M : List Nat} (h : Since w0 w xb S L M) (s : ByteArray) (hmax : s.size ≤ maxLen) :
  Calls Tryz.prog 50 #[.pointer (some ⟨xb, 0, none⟩), .string s] w fun e w' => e = .returned (.bool true) ∧ Since w0 w' xb S L M :=
 (followsL_any s hmax w xb _ S L M h.1).mono fun _ _ ⟨he, hl⟩ => ⟨he, h.left hl⟩
theorem Since.said {w0 w : World} {xb : Nat} {S : WS} {L : List ST} {M : List Nat} (h : Since w0 w xb S L M) :
  Calls Tryz.prog 34 #[.pointer (some ⟨xb, 0, none⟩)] w fun e w' => ∃ v, e = .returned (.tuple #[v, .bool true]) ∧ Since w0 w' xb S L M :=
 (saidL_any w xb _ S L M h.1).mono fun _ _ ⟨v, he, hu, _⟩ => ⟨v, he, h.look hu⟩
theorem since_begun (w : World) (hE : ErrTab w) : Calls Tryz.prog 22 #[] w fun e w' => ∃ xb, e = .returned (.tuple #[.pointer (some ⟨xb, 0, none⟩), .bool true]) ∧ Since w w' xb noWS [] [] :=
 (begun_any w hE).mono fun _ _ ⟨xb, he, hb, hu⟩ => ⟨xb, he, hb, hu, hE.1⟩
end Go.Proofs.YtmfkpllnmmfpiaaGreatDoor

namespace Go.Proofs.YtmfkpllnmmfpiaaGreatDoor
open Go.RowKit
theorem Both.clash {S : WS} {L : List ST} (h : Both S L) : clashM S = clashR L := by
 rw [Bool.eq_iff_iff, h.holds.clash_iff, clashR_iff h.ok]
set_option maxHeartbeats 2000000 in
set_option maxRecDepth 100000 in
theorem clashL_any (w : World) (xb : Nat) (Z : Nat → Prop) (S : WS) (L : List ST) (M : List Nat) (h : BothAt w xb Z S L M) :
  Calls Tryz.prog 51 #[.pointer (some ⟨xb, 0, none⟩)] w fun e w' => e = .returned (.bool true) ∧ Upd [] w w' := by
 obtain ⟨bb, rb, Zb, Zr, c0, c1, hb, hr, z1, z2⟩ := h.ex
 obtain ⟨sv, cs, d0, hrow⟩ := hr.said
 have HS := hide (clash_any w bb Zb S hb)
 have HR := hide (fun (w1 : World) (U : Upd [] w w1) => refClash_any w1 L sv cs ((hrow.later U (fun _ _ => by simp)).mono fun k _ hl => hl) h.both.ok (fun s hs => by have := h.both.small s hs; omega) (by have := h.both.length; have := h.both.saids; omega))
 have hxlt := h.lt
 have hrlt := hr.lt
 rw [h.both.clash] at HS
 clear h hb hr z1 z2 hrow
 generalize clashR L = b at *
 go_enter Tryz.func51, Tryz.ntmps51
 go_wp2_with (first
  | (go_at_call 16; refine HS.out.mono ?_; rintro e w1 ⟨rfl, hu1⟩; have k1 := (hu1.cell (p := ⟨xb, 1, none⟩) hxlt (by simp)).trans c1; have k2 := (hu1.cell (p := ⟨rb, 0, none⟩) hrlt (by simp)).trans d0; have HR1 := hide (HR.out w1 hu1); have HU1 := hide hu1; clear hu1)
  | (go_at_call 92; refine HR1.out.mono ?_; rintro e w2 ⟨rfl, hu2⟩; have HU2 := hide hu2; clear hu2))
 go_ret
 exact ⟨by simp, HU1.out.trans HU2.out⟩
theorem rows_form {w : World} {B n : Nat} {v : Value} {rs : List Value} (h : w.ownsRow B 50 1 v n rs) (hl : rs.length = n) : ∃ a cap, v = .slice a n cap ∧ n ≤ cap ∧ cap ≤ maxLen ∧ (0 < n → ∃ g, a = some ⟨g, 0, none⟩ ∧ g < w.heap.size ∧ ∀ (i : Nat) (r : Value), rs[i]? = some r → w.cell? ⟨g, i, none⟩ = some r) := by
 rcases ownsRow_slice h with ⟨h1, h2⟩ | ⟨g, cap, h1, h2, h3⟩
 ·rw [h2]
  exact ⟨none, 0, h1, Nat.le_refl _, by simp [maxLen], fun h => absurd h (Nat.lt_irrefl _)⟩
 ·subst h1
  refine ⟨_, cap, rfl, h2, h3, fun _ => ⟨g, rfl, ownsRow_lt h rfl, fun i r hr => ?_⟩⟩
  have hi := (List.getElem?_eq_some_iff.1 hr).1
  have := h.cellAt i (by omega)
  rw [this, hr]
set_option maxHeartbeats 4000000 in
set_option maxRecDepth 100000 in
theorem classesL_any (w : World) (xb : Nat) (Z : Nat → Prop) (S : WS) (L : List ST) (M : List Nat) (h : BothAt w xb Z S L M) :
  Calls Tryz.prog 32 #[.pointer (some ⟨xb, 0, none⟩)] w fun e w' => ∃ v rs, e = .returned (.tuple #[v, .bool true]) ∧ Upd [] w w' ∧ ListsAt w' w.heap.size v rs (classesOf S) := by
 obtain ⟨bb, rb, Zb, Zr, c0, c1, hb, hr, z1, z2⟩ := h.ex
 have HS := hide (bookClasses_any w bb Zb S hb h.both.text)
 have HR := hide (fun (w1 : World) (U : Upd [] w w1) => refClasses_any w1 rb Zr L M (hr.later U (fun _ _ => by simp)) h.both.ok h.both.small (by have := h.both.length; have := h.both.saids; omega))
 have hxlt := h.lt
 rw [← h.both.classes] at HR
 have hlen : (classesOf S).length ≤ 1000 := by
  rw [h.both.classes]
  unfold classesR
  rw [List.length_map]
  have h1 := firstsTo_len (textAt (termsR L)) (clsAt (drawnR L)) (termsR L).length (termsR L).length
  have h2 := h.both.holds.count h.both.ok
  have h3 := h.both.terms
  omega
 clear h hb hr z1 z2
 obtain ⟨ls, hls⟩ : ∃ ls, classesOf S = ls := ⟨_, rfl⟩
 rw [hls] at HS HR hlen ⊢
 clear hls
 obtain ⟨n, hn⟩ : ∃ n, ls.length = n := ⟨_, rfl⟩
 rw [hn] at hlen
 have Hn := hide hn
 clear hn
 go_enter Tryz.func32, Tryz.ntmps32
 go_upto_region 3 with (first
  | (go_at_call 20; refine HS.out.mono ?_; rintro e w1 ⟨v1, rs1, rfl, hu1, hl1⟩; have k1 := (hu1.cell (p := ⟨xb, 1, none⟩) hxlt (by simp)).trans c1; have HR1 := hide (HR.out w1 hu1); have HU1 := hide hu1; have HL1 := hide hl1; clear hu1 hl1)
  | (go_at_call 65; refine HR1.out.mono ?_; rintro e w2 ⟨v2, rs2, rfl, hu2, hl2⟩; have HU2 := hide hu2; have HL2 := hide hl2; clear hu2 hl2))
 have hr1 := HU2.out.ownsRow HL1.out.row (fun _ _ => by simp)
 have hr2 := HL2.out.row
 rw [Hn.out] at hr1 hr2
 obtain ⟨a1, cap1, hv1, p11, p12, f1⟩ := rows_form hr1 (by rw [HL1.out.len, Hn.out])
 obtain ⟨a2, cap2, hv2, p21, p22, f2⟩ := rows_form hr2 (by rw [HL2.out.len, Hn.out])
 subst hv1 hv2
 have F1 := hide f1
 have F2 := hide f2
 unfold maxLen at p12 p22
 clear hr1 hr2 f1 f2 k1 c0 c1 HR1 HR HS
 go_wp2
 go_loopw [6] (fun i wr => ∃ j m : Nat, j ≤ n ∧ i = .int .i64 j ∧ wr = w2.drewN m) (fun i _ => n - (intOf i).toNat)
 case atStart => exact ⟨0, 0, Nat.zero_le _, rfl, rfl⟩
 case round =>
  obtain ⟨j, m, hj, rfl, rfl⟩ := hrel
  by_cases hjn : j < n
  ·have hjI : (j : Int) < (n : Int) := by omega
   obtain ⟨r1, hr1⟩ : ∃ r, rs1[j]? = some r := ⟨_, List.getElem?_eq_getElem (by rw [HL1.out.len, Hn.out]; exact hjn)⟩
   obtain ⟨r2, hr2⟩ : ∃ r, rs2[j]? = some r := ⟨_, List.getElem?_eq_getElem (by rw [HL2.out.len, Hn.out]; exact hjn)⟩
   obtain ⟨l, hl⟩ : ∃ l, ls[j]? = some l := ⟨_, List.getElem?_eq_getElem (by rw [Hn.out]; exact hjn)⟩
   obtain ⟨g1, rfl, _, q1⟩ := F1.out (by omega)
   obtain ⟨g2, rfl, _, q2⟩ := F2.out (by omega)
   have z1 := q1 j r1 hr1
   have z2 := q2 j r2 hr2
   have HT : Hid (∀ p q : Nat, Calls Tryz.prog 66 #[r1, r2] (w2.drewN (p + q)) fun e w' => e = .returned (.bool true) ∧ ∃ n, w' = w2.drewN (p + n)) := fun p q => by
    have s1 : StrRow (w2.drewN (p + q)) w.heap.size r1 l := ((HL1.out.all j r1 l hr1 hl).later HU2.out).later ((Upd.refl [] w2).drewN (p + q))
    have s2 : StrRow (w2.drewN (p + q)) w1.heap.size r2 l := (HL2.out.all j r2 l hr2 hl).later ((Upd.refl [] w2).drewN (p + q))
    have := sameTexts_any _ _ _ r1 r2 l l s1 s2
    rw [decide_eq_true rfl] at this
    exact this.mono fun e w' ⟨he, n, hw⟩ => ⟨he, q + n, by rw [hw]; simp [Nat.add_assoc]⟩
   clear q1 q2 hr1 hr2 hl
   go_wp2_with fail
   go_quiet ((go_at_call 66; exact HT.out _ _))
   go_wp2
   refine ⟨⟨j + 1, _, by omega, by simp, rfl⟩, ?_⟩
   simp [intOf]
   omega
  ·have hjI : ¬ (j : Int) < (n : Int) := by omega
   go_wp2
   go_ret2
   exact ⟨_, rfl, (HU1.out.trans HU2.out).drewN m, rs1, (HL1.out.later HU2.out (fun _ h => by cases h)).later ((Upd.refl [] w2).drewN m) (fun _ h => by cases h)⟩
end Go.Proofs.YtmfkpllnmmfpiaaGreatDoor

namespace Go.Proofs.YtmfkpllnmmfpiaaGreatDoor
open Go.RowKit
theorem Since.clash {w0 w : World} {xb : Nat} {S : WS} {L : List ST} {M : List Nat} (h : Since w0 w xb S L M) :
  Calls Tryz.prog 51 #[.pointer (some ⟨xb, 0, none⟩)] w fun e w' => e = .returned (.bool true) ∧ Since w0 w' xb S L M :=
 (clashL_any w xb _ S L M h.1).mono fun _ _ ⟨he, hu⟩ => ⟨he, h.look hu⟩
theorem Since.classes {w0 w : World} {xb : Nat} {S : WS} {L : List ST} {M : List Nat} (h : Since w0 w xb S L M) :
  Calls Tryz.prog 32 #[.pointer (some ⟨xb, 0, none⟩)] w fun e w' => ∃ v, e = .returned (.tuple #[v, .bool true]) ∧ Since w0 w' xb S L M :=
 (classesL_any w xb _ S L M h.1).mono fun _ _ ⟨v, _, he, hu, _⟩ => ⟨v, he, h.look hu⟩
set_option maxHeartbeats 2000000 in
set_option maxRecDepth 100000 in
theorem Since.whole {w0 w : World} {xb : Nat} {S : WS} {L : List ST} {M : List Nat} (h : Since w0 w xb S L M) :
  Calls Tryz.prog 24 #[.pointer (some ⟨xb, 0, none⟩)] w fun e w' => e = .returned (.bool true) ∧ Since w0 w' xb S L M := by
 have H := hide h
 clear h
 go_enter Tryz.func24, Tryz.ntmps24
 go_wp2_with (first
  | (go_at_call 34; refine H.out.said.mono ?_; rintro e w1 ⟨v1, rfl, h1⟩; have H1 := hide h1; clear h1)
  | (go_at_call 51; refine H1.out.clash.mono ?_; rintro e w2 ⟨rfl, h2⟩; have H2 := hide h2; clear h2)
  | (go_at_call 32; refine H2.out.classes.mono ?_; rintro e w3 ⟨v3, rfl, h3⟩; have H3 := hide h3; clear h3))
 go_ret
 exact ⟨rfl, H3.out⟩
def Goes1 (w0 w' : World) (xb : Nat) : Prop := ∃ S L M, Since w0 w' xb S L M
def Steps1 (w0 w' : World) (xb : Nat) (S : WS) (L : List ST) (M : List Nat) (s : ByteArray) : Prop := Since w0 w' xb S L M ∨ Since w0 w' xb (sayOf S s).2 (sayR L s).2 M
theorem Steps1.goes {w0 w' : World} {xb : Nat} {S : WS} {L : List ST} {M : List Nat} {s : ByteArray} (h : Steps1 w0 w' xb S L M s) : Goes1 w0 w' xb := by
 rcases h with h | h
 ·exact ⟨_, _, _, h⟩
 ·exact ⟨_, _, _, h⟩
set_option maxHeartbeats 4000000 in
set_option maxRecDepth 100000 in
theorem step5_any (kd kk : Int) (s : ByteArray) (hmax : s.size ≤ maxLen) (hk : kd ≤ 5) {w0 w : World} {xb : Nat} {S : WS} {L : List ST} {M : List Nat} (h : Since w0 w xb S L M) :
  Calls Tryz.prog 23 #[.pointer (some ⟨xb, 0, none⟩), .agg #[.int .i64 kd, .int .i64 kk, .string s]] w fun e w' => e = .returned (.bool true) ∧ Steps1 w0 w' xb S L M s := by
 have H := hide (h.look ((Upd.refl [] w).alloc (.cells #[.int .i64 kd, .int .i64 kk, .string s] 41)))
 clear h
 by_cases h1 : kd = 1
 ·subst h1
  go_enter Tryz.func23, Tryz.ntmps23
  go_wp2_with (go_at_call 12; refine (H.out.say s hmax).mono ?_; rintro e w1 ⟨rfl, h1⟩; have H1 := hide h1; clear h1)
  go_ret
  exact ⟨rfl, .inr H1.out⟩
 by_cases h2 : kd = 2
 ·subst h2
  go_enter Tryz.func23, Tryz.ntmps23
  go_wp2_with (go_at_call 50; refine (H.out.follows s hmax).mono ?_; rintro e w1 ⟨rfl, h1⟩; have H1 := hide h1; clear h1)
  go_ret
  exact ⟨rfl, .inl H1.out⟩
 by_cases h3 : kd = 3
 ·subst h3
  go_enter Tryz.func23, Tryz.ntmps23
  go_wp2_with (go_at_call 51; refine H.out.clash.mono ?_; rintro e w1 ⟨rfl, h1⟩; have H1 := hide h1; clear h1)
  go_ret
  exact ⟨rfl, .inl H1.out⟩
 by_cases h4 : kd = 4
 ·subst h4
  go_enter Tryz.func23, Tryz.ntmps23
  go_wp2_with (go_at_call 32; refine H.out.classes.mono ?_; rintro e w1 ⟨v1, rfl, h1⟩; have H1 := hide h1; clear h1)
  go_ret
  exact ⟨rfl, .inl H1.out⟩
 by_cases h5 : kd = 5
 ·subst h5
  go_enter Tryz.func23, Tryz.ntmps23
  go_wp2_with (go_at_call 34; refine H.out.said.mono ?_; rintro e w1 ⟨v1, rfl, h1⟩; have H1 := hide h1; clear h1)
  go_ret
  exact ⟨rfl, .inl H1.out⟩
 have h6 : ¬ kd = 6 := by omega
 have h7 : ¬ kd = 7 := by omega
 have h8 : ¬ kd = 8 := by omega
 have h9 : ¬ kd = 9 := by omega
 have b1 : (kd == 1) = false := by simpa using h1
 have b2 : (kd == 2) = false := by simpa using h2
 have b3 : (kd == 3) = false := by simpa using h3
 have b4 : (kd == 4) = false := by simpa using h4
 have b5 : (kd == 5) = false := by simpa using h5
 have b6 : (kd == 6) = false := by simpa using h6
 have b7 : (kd == 7) = false := by simpa using h7
 have b8 : (kd == 8) = false := by simpa using h8
 have b9 : (kd == 9) = false := by simpa using h9
 go_enter Tryz.func23, Tryz.ntmps23
 go_wp2
 go_ret
 exact ⟨rfl, .inl H.out⟩
structure ScriptIs (w : World) (ao : Option Addr) (sc : List (Int × Int × ByteArray)) : Prop where
 cells : 0 < sc.length → ∃ b off, ao = some ⟨b, off, none⟩ ∧ b < w.heap.size ∧ ∀ (i : Nat) (o : Int × Int × ByteArray), sc[i]? = some o → w.cell? ⟨b, off + i * 3, none⟩ = some (.int .i64 o.1) ∧ w.cell? ⟨b, off + i * 3 + 1, none⟩ = some (.int .i64 o.2.1) ∧ w.cell? ⟨b, off + i * 3 + 2, none⟩ = some (.string o.2.2)
 texts : ∀ o ∈ sc, o.2.2.size ≤ maxLen
end Go.Proofs.YtmfkpllnmmfpiaaGreatDoor

namespace Go.Proofs.YtmfkpllnmmfpiaaGreatDoor
open Go.ChangeShapes Go.WideShapes Go.ChangeAt Go.RowKit
set_option maxRecDepth 100000 in
theorem script_of {H : Type} {enc : TypeId × Value → H} {W : World} {a : Option Addr} {len cap fuel : Nat} {x : DataW H × List MemPlace} (h : DataW.trod enc Tryz.prog W 0 (fun _ => true) true fuel 22 [.slice a len cap] = some x) : len ≤ cap ∧ cap ≤ maxLen ∧ ∃ sc, sc.length = len ∧ ScriptIs W a sc := by
 have ce : Tryz.prog.cellsOf 41 = 3 := by kernel_rfl
 have c3 : Tryz.prog.cellsOf 3 = 1 := by kernel_rfl
 have c9 : Tryz.prog.cellsOf 9 = 1 := by kernel_rfl
 rcases Go.Deep.open_slice Tryz.underlying22 h with ⟨hc, _⟩ | ⟨ad, l, c, m, n, D, Pl, hc, hb, hl, hm, hmm, _, hx⟩
 ·simp only [List.cons.injEq, and_true, Value.slice.injEq] at hc
  obtain ⟨rfl, rfl, rfl⟩ := hc
  exact ⟨Nat.le_refl _, by simp [maxLen], [], rfl, ⟨fun h => by simp at h, fun o ho => by cases ho⟩⟩
 ·simp only [List.cons.injEq, and_true, Value.slice.injEq] at hc
  obtain ⟨rfl, rfl, rfl⟩ := hc
  have each : ∀ i, i < len → ∃ o : Int × Int × ByteArray, W.cell? (ad.add (i * 3)) = some (.int .i64 o.1) ∧ W.cell? (ad.add (i * 3 + 1)) = some (.int .i64 o.2.1) ∧ W.cell? (ad.add (i * 3 + 2)) = some (.string o.2.2) ∧ o.2.2.size ≤ maxLen := by
   intro i hi
   obtain ⟨cs', h1, h2⟩ := hx i (by rw [hmm]; simp; omega)
   rw [ce] at h1
   obtain ⟨_, hlen, hcell⟩ := World.cells?_some h1
   obtain ⟨xs, k, hk, hxy, _, hxl, hf⟩ := DataW.trod_struct Tryz.underlying41 h2
   match cs', hlen, xs, hxl with
   | [v0, v1, v2], _, [y0, y1, y2], _ =>
    have g0 := hf 0 _ rfl
    have g1 := hf 1 _ rfl
    have g2 := hf 2 _ rfl
    simp [c3, c9] at g0 g1 g2
    have e0 := hcell 0 (by omega)
    have e1 := hcell 1 (by omega)
    have e2 := hcell 2 (by omega)
    rw [Go.Deep.add_add] at e0 e1 e2
    obtain ⟨z0, q0, _⟩ := DataW.trod_int Tryz.underlying3 g0
    obtain ⟨z1, q1, _⟩ := DataW.trod_int Tryz.underlying3 g1
    obtain ⟨s, q2, _, hs⟩ := DataW.trod_string Tryz.underlying9 g2
    simp only [List.cons.injEq, and_true] at q0 q1 q2
    subst q0 q1 q2
    exact ⟨(z0, z1, s), by simpa using e0, by simpa using e1, by simpa using e2, hs⟩
  obtain ⟨sc, hsl, hsc⟩ := choose_list (P := fun (i : Nat) (o : Int × Int × ByteArray) => W.cell? (ad.add (i * 3)) = some (.int .i64 o.1) ∧ W.cell? (ad.add (i * 3 + 1)) = some (.int .i64 o.2.1) ∧ W.cell? (ad.add (i * 3 + 2)) = some (.string o.2.2) ∧ o.2.2.size ≤ maxLen) len each
  refine ⟨hl, hm, sc, hsl, ⟨fun hp => ?_, fun o ho => ?_⟩⟩
  ·obtain ⟨b, off, spot⟩ := ad
   cases spot with
   | none =>
    obtain ⟨o, ho⟩ : ∃ o, sc[0]? = some o := ⟨_, List.getElem?_eq_getElem hp⟩
    have h0 := (hsc 0 o ho).1
    refine ⟨b, off, rfl, ?_, fun i o ho => ?_⟩
    ·rw [Addr.add_lit] at h0
     exact World.block_lt_of_cell? _ _ h0
    ·obtain ⟨k0, k1, k2, _⟩ := hsc i o ho
     rw [Addr.add_lit] at k0 k1 k2
     exact ⟨k0, by rw [Nat.add_assoc]; exact k1, by rw [Nat.add_assoc]; exact k2⟩
   | some s =>
    obtain ⟨o, ho⟩ : ∃ o, sc[0]? = some o := ⟨_, List.getElem?_eq_getElem hp⟩
    have h2 := World.cell?_spot (hsc 0 o ho).1
    unfold Addr.add at h2
    simp at h2
  ·obtain ⟨i, hi⟩ := List.getElem?_of_mem ho
   exact (hsc i o hi).2.2.2
end Go.Proofs.YtmfkpllnmmfpiaaGreatDoor

namespace Go.Proofs.YtmfkpllnmmfpiaaGreatDoor
open Go.RowKit
def pickTo (k : List Bool) (L : List ST) : Nat → List ST
 | 0 => []
 | j + 1 => pickTo k L j ++ (if k.getD j false then (L[j]?).toList else [])
theorem pickTo_mem {k : List Bool} {L : List ST} {s : ST} : ∀ {n : Nat}, s ∈ pickTo k L n ↔ ∃ j, j < n ∧ k.getD j false = true ∧ L[j]? = some s
 | 0 => by simp [pickTo]
 | n + 1 => by
  rw [pickTo, List.mem_append, pickTo_mem]
  constructor
  ·rintro (⟨j, h1, h2⟩ | h)
   ·exact ⟨j, by omega, h2⟩
   ·split at h
    ·rename_i hk
     exact ⟨n, by omega, hk, by simpa using h⟩
    ·cases h
  ·rintro ⟨j, h1, h2, h3⟩
   by_cases e : j < n
   ·exact .inl ⟨j, e, h2, h3⟩
   ·obtain rfl : j = n := by omega
    right
    rw [if_pos h2, h3]
    simp
theorem pickTo_len (k : List Bool) (L : List ST) : ∀ n, (pickTo k L n).length ≤ n
 | 0 => Nat.le_refl _
 | n + 1 => by
  have := pickTo_len k L n
  rw [pickTo, List.length_append]
  split
  ·cases L[n]? <;> simp <;> omega
  ·simp; omega
def keepTo (L : List ST) (c : ST) : Nat → List Bool
 | 0 => List.replicate L.length true
 | d + 1 => ((keepTo L c d).set (L.length - 1 - d) false).set (L.length - 1 - d) (!clashR (pickTo ((keepTo L c d).set (L.length - 1 - d) false) L L.length ++ [c]))
theorem keepTo_length (L : List ST) (c : ST) : ∀ d, (keepTo L c d).length = L.length
 | 0 => by simp [keepTo]
 | d + 1 => by simp [keepTo, keepTo_length L c d]
theorem getD_set {k : List Bool} {i j : Nat} {b : Bool} : (k.set i b).getD j false = if i = j ∧ i < k.length then b else k.getD j false := by
 simp only [List.getD_eq_getElem?_getD, List.getElem?_set]
 by_cases e : i = j
 ·subst e
  by_cases h : i < k.length
  ·simp [h]
  ·simp [h]
 ·simp [e]
theorem keepTo_first (L : List ST) (c : ST) : ∀ d j, d ≤ L.length → j < L.length - d → (keepTo L c d).getD j false = true
 | 0, j, _, h => by
  simp only [keepTo, List.getD_eq_getElem?_getD]
  rw [List.getElem?_replicate, if_pos (by omega)]
  rfl
 | d + 1, j, hd, h => by
  have ih := keepTo_first L c d j (by omega) (by omega)
  unfold keepTo
  rw [getD_set, if_neg (by omega), getD_set, if_neg (by omega)]
  exact ih
theorem keepTo_stays (L : List ST) (c : ST) : ∀ d e j, d ≤ e → e ≤ L.length → L.length - d ≤ j → (keepTo L c e).getD j false = (keepTo L c d).getD j false := by
 intro d e j hde
 induction e with
 | zero =>
  intro _ _
  obtain rfl : d = 0 := by omega
  rfl
 | succ e ih =>
  intro he hj
  by_cases h : d = e + 1
  ·rw [h]
  ·have := ih (by omega) (by omega) hj
   rw [← this]
   conv => lhs; unfold keepTo
   rw [getD_set, if_neg (by omega), getD_set, if_neg (by omega)]
def whyDoc (L : List ST) (c : ST) : List Nat := (List.range L.length).filter fun i => (keepTo L c L.length).getD i false
theorem whyDoc_mem {L : List ST} {c : ST} {k : Nat} : k ∈ whyDoc L c ↔ k < L.length ∧ (keepTo L c L.length).getD k false = true := by
 unfold whyDoc
 simp
theorem whyDoc_is {L : List ST} {c : ST} (hL : ∀ s ∈ L, STOK s) (hc : STOK c) : WhyIs c L (whyDoc L c) := by
 refine ⟨List.pairwise_lt_range.filter _, fun k hk => (whyDoc_mem.1 hk).1, fun k hk => ?_⟩
 obtain ⟨d, hd⟩ : ∃ d, d + k + 1 = L.length := ⟨L.length - k - 1, by omega⟩
 have hi : L.length - 1 - d = k := by omega
 have hlen := keepTo_length L c d
 have hok : ∀ s ∈ pickTo ((keepTo L c d).set k false) L L.length ++ [c], STOK s := fun s hs => by
  simp only [List.mem_append, List.mem_singleton] at hs
  rcases hs with hs | rfl
  ·obtain ⟨j, _, _, e⟩ := pickTo_mem.1 hs
   exact hL s (List.mem_of_getElem? e)
  ·exact hc
 have hiff := clashR_iff hok
 have hkd : ∀ j, j < L.length → (((keepTo L c d).set k false).getD j false = true ↔ (j < k ∨ (k < j ∧ j ∈ whyDoc L c))) := fun j hj => by
  rw [getD_set]
  by_cases e : k = j
  ·subst e
   rw [if_pos ⟨rfl, by omega⟩]
   simp
  ·rw [if_neg (fun h => e h.1)]
   by_cases h1 : j < k
   ·rw [keepTo_first L c d j (by omega) (by omega)]
    simp [h1]
   ·rw [whyDoc_mem, keepTo_stays L c d L.length j (by omega) (Nat.le_refl _) (by omega)]
    constructor
    ·exact fun h => .inr ⟨by omega, hj, h⟩
    ·rintro (h | h)
     ·exact absurd h h1
     ·exact h.2.2
 have hon : ClashT (pickTo ((keepTo L c d).set k false) L L.length ++ [c]) ↔ ClashOn c L (fun j => j < k ∨ (k < j ∧ j ∈ whyDoc L c)) := by
  refine clashOn_iff (fun s hs => ?_) (by simp) (fun j s hp e => ?_)
  ·simp only [List.mem_append, List.mem_singleton] at hs
   rcases hs with hs | rfl
   ·obtain ⟨j, hj, h1, e⟩ := pickTo_mem.1 hs
    exact .inr ⟨j, (hkd j hj).1 h1, e⟩
   ·exact .inl rfl
  ·have hj := (List.getElem?_eq_some_iff.1 e).1
   exact List.mem_append.2 (.inl (pickTo_mem.2 ⟨j, hj, (hkd j hj).2 hp, e⟩))
 have hst := keepTo_stays L c (d + 1) L.length k (by omega) (Nat.le_refl _) (by omega)
 rw [whyDoc_mem, hst, ← hon, ← hiff]
 conv => lhs; unfold keepTo
 rw [hi, getD_set, if_pos ⟨rfl, by simp [hlen]; omega⟩]
 simp [hk]
def whyRB (L : List ST) (s : ByteArray) : List Nat × Int × Int :=
 match (refRead s).1 with
 | none => ([], (refRead s).2.1, (refRead s).2.2)
 | some x => if clashR (L ++ [contraT x]) then (whyDoc L (contraT x), 0, 0) else ([], 5, 0)
end Go.Proofs.YtmfkpllnmmfpiaaGreatDoor

namespace Go.Proofs.YtmfkpllnmmfpiaaGreatDoor
open Go.RowKit
def boolsOf (k : List Bool) : List Value := k.map Value.bool
theorem ownsRow_setB {w : World} {base e g len cap n : Nat} {l : List Bool} {i : Nat} {v : Bool} (h : w.ownsRow base e 1 (.slice (some ⟨g, 0, none⟩) len cap) n (boolsOf l)) :
  (w.setCell ⟨g, i, none⟩ (.bool v)).ownsRow base e 1 (.slice (some ⟨g, 0, none⟩) len cap) n (boolsOf (l.set i v)) := by
 obtain ⟨hl, hr⟩ := h
 refine ⟨by simpa [boolsOf] using hl, ?_⟩
 rcases hr with ⟨hv, _⟩ | ⟨g', cap', cur, hv, hb, hg, h1, h2, h3, htk⟩
 ·cases hv
 ·cases hv
  refine .inr ⟨g, cap, cur.setIfInBounds i (.bool v), rfl, hb, ?_, h1, h2, by simpa using h3, ?_⟩
  ·exact heap_setCell_same w g i cur e _ hg
  ·rw [Array.toList_setIfInBounds, List.take_set, htk]
   simp [boolsOf, List.map_set]
theorem falses_own (w : World) (base n : Nat) (hb : base ≤ w.heap.size) (hm : n ≤ maxLen) : (w.alloc (.cells (madeCells #[.bool false] n) 4)).ownsRow base 4 1 (.slice (some ⟨w.heap.size, 0, none⟩) n n) n (boolsOf (List.replicate n false)) := by
 refine ⟨by simp [boolsOf], .inr ⟨w.heap.size, n, madeCells #[.bool false] n, rfl, hb, heap_alloc_new w _, Nat.le_refl _, hm, by simp [size_madeCells], ?_⟩⟩
 have e : (madeCells #[.bool false] n).toList = List.replicate n (.bool false) := by
  refine List.ext_getElem (by simp [madeCells]) fun k h1 h2 => ?_
  simp [madeCells, Nat.mod_one]
 rw [e, Nat.mul_one]
 simp [boolsOf]
structure Keeps (w2 wr : World) (g n : Nat) (k : List Bool) : Prop where
 row : wr.ownsRow w2.heap.size 4 1 (.slice (some ⟨g, 0, none⟩) n n) n (boolsOf k)
 len : k.length = n
 upd : Upd [] w2 wr
theorem Keeps.at {w2 wr : World} {g n : Nat} {k : List Bool} (h : Keeps w2 wr g n k) {i : Nat} (hi : i < n) : wr.cell? ⟨g, i, none⟩ = some (.bool (k.getD i false)) := by
 rw [h.row.cellAt i (by omega), List.getD_eq_getElem?_getD]
 have : i < k.length := by rw [h.len]; exact hi
 simp [boolsOf, List.getElem?_eq_getElem this]
theorem Keeps.free {w2 wr : World} {g n : Nat} {k : List Bool} (h : Keeps w2 wr g n k) (o : Nat) : wr.frozen? ⟨g, o, none⟩ = false := row_free h.row o
theorem Keeps.set {w2 wr : World} {g n : Nat} {k : List Bool} (h : Keeps w2 wr g n k) (i : Nat) (b : Bool) : Keeps w2 (wr.setCell ⟨g, i, none⟩ (.bool b)) g n (k.set i b) :=
 ⟨ownsRow_setB h.row, by simp [h.len], h.upd.setCell (.inr (own_geT h.row (k := g) rfl)) _⟩
theorem Keeps.later {w2 wr w' : World} {g n : Nat} {k : List Bool} (h : Keeps w2 wr g n k) (hu : Upd [] wr w') : Keeps w2 w' g n k := ⟨hu.ownsRow h.row (fun _ _ => by simp), h.len, h.upd.trans hu⟩
structure Picked (w5 wr : World) (v : Value) (L : List ST) (k : List Bool) (q : Nat) (cs : List Nat) : Prop where
 row : wr.ownsRow w5.heap.size 117 1 v cs.length (ptrs cs)
 len : cs.length = (pickTo k L q).length
 kids : ∀ (i c : Nat) (x : ST), cs[i]? = some c → (pickTo k L q)[i]? = some x → IsRS w5 (fun k => k < w5.heap.size) x c
 upd : Upd [] w5 wr
theorem Picked.rs {w5 wr : World} {v : Value} {L : List ST} {k : List Bool} {q : Nat} {cs : List Nat} (h : Picked w5 wr v L k q cs) : RSRow wr (fun k => k < wr.heap.size) v (pickTo k L q) cs :=
 ⟨PRow.of_own h.row (fun _ hk => ownsRow_lt h.row hk), h.len, fun i c x hc hx => ((h.kids i c x hc hx).later h.upd (fun _ _ => by simp)).mono fun _ _ hl => hl⟩
theorem Picked.skip {w5 wr : World} {v : Value} {L : List ST} {k : List Bool} {q : Nat} {cs : List Nat} (h : Picked w5 wr v L k q cs) (hk : k.getD q false = false) : Picked w5 wr v L k (q + 1) cs := by
 have e : pickTo k L (q + 1) = pickTo k L q := by rw [pickTo, hk]; simp
 exact ⟨h.row, by rw [e]; exact h.len, by rw [e]; exact h.kids, h.upd⟩
theorem Picked.take {w5 wr w1 w3 : World} {v : Value} {L : List ST} {k : List Bool} {q c g cap : Nat} {cs : List Nat} {x : ST} (h : Picked w5 wr v L k q cs) (hk : k.getD q false = true) (hx : L[q]? = some x) (hc : IsRS w5 (fun k => k < w5.heap.size) x c) (hu : Upd [] wr w1) (hg : w1.grownBy w3 v.ownBlock)
  (hown : w3.ownsRow w5.heap.size 117 1 (.slice (some ⟨g, 0, none⟩) (cs.length + 1) cap) (cs.length + 1) (ptrs cs ++ [.pointer (some ⟨c, 0, none⟩)])) : Picked w5 w3 (.slice (some ⟨g, 0, none⟩) (cs.length + 1) cap) L k (q + 1) (cs ++ [c]) := by
 have e : pickTo k L (q + 1) = pickTo k L q ++ [x] := by rw [pickTo, hk, hx]; simp
 have hs := h.upd.size
 refine ⟨by simpa [ptrs] using hown, by rw [e]; simp [h.len], fun i c' x' hc' hx' => ?_, (h.upd.trans hu).trans' (Upd.of_grown hg) (fun k hk hl => ?_)⟩
 ·rw [e] at hx'
  by_cases hi : i < (pickTo k L q).length
  ·rw [List.getElem?_append_left (by rw [h.len]; exact hi)] at hc'
   rw [List.getElem?_append_left hi] at hx'
   exact h.kids i c' x' hc' hx'
  ·have hi2 : i = (pickTo k L q).length := by
    have := (List.getElem?_eq_some_iff.1 hx').1
    simp at this
    omega
   subst hi2
   rw [← h.len, List.getElem?_concat_length] at hc'
   rw [List.getElem?_concat_length] at hx'
   obtain rfl := Option.some.inj hc'
   obtain rfl := Option.some.inj hx'
   exact hc
 ·have := own_geT h.row (show v.ownBlock = some k by simpa using hk)
  omega
theorem true_set (n j : Nat) (hj : j < n) : (List.replicate j true ++ List.replicate (n - j) false).set j true = List.replicate (j + 1) true ++ List.replicate (n - (j + 1)) false := by
 rw [List.set_append_right _ _ (by simp)]
 have e : n - j = (n - (j + 1)) + 1 := by omega
 rw [e, List.replicate_succ, List.replicate_succ']
 simp
def numsTo (k : List Bool) (q : Nat) : List Nat := (List.range q).filter fun i => k.getD i false
theorem numsTo_succ (k : List Bool) (q : Nat) : numsTo k (q + 1) = numsTo k q ++ (if k.getD q false then [q] else []) := by
 unfold numsTo
 rw [List.range_succ, List.filter_append]
 congr 1
 cases h : k.getD q false
 ·rw [if_neg (by simp), List.filter_cons_of_neg (by rw [h]; simp), List.filter_nil]
 ·rw [if_pos rfl, List.filter_cons_of_pos (by exact h), List.filter_nil]
theorem numsTo_len (k : List Bool) (q : Nat) : (numsTo k q).length ≤ q := by
 unfold numsTo
 have := List.length_filter_le (fun i => k.getD i false) (List.range q)
 simpa using this
end Go.Proofs.YtmfkpllnmmfpiaaGreatDoor
