/-
  A Book of the program beside the document's: clash, classes, whole, walked.
-/
import Derived.Test.YtmfkpllnmmfpiaaGreatDoorRefClassWalkH
import Derived.Test.YtmfkpllnmmfpiaaGreatDoorLawSinceH
namespace Go.Proofs.YtmfkpllnmmfpiaaGreatDoor
open Go.RowKit

theorem Both.clash {S : WS} {L : List ST} (h : Both S L) : clashM S = clashR L := by
  rw [Bool.eq_iff_iff, h.holds.clash_iff, clashR_iff h.ok]
set_option maxHeartbeats 2000000 in
set_option maxRecDepth 100000 in
theorem clashL_any (w : World) (xb : Nat) (Z : Nat → Prop) (S : WS) (L : List ST) (M : List Nat) (h : BothAt w xb Z S L M) :
    Calls Tryz.prog 51 #[.pointer (some ⟨xb, 0, none⟩)] w fun e w' => e = .returned (.bool true) ∧ Upd [] w w' := by
  obtain ⟨bb, rb, Zb, Zr, c0, c1, hb, hr, z1, z2⟩ := h.ex
  obtain ⟨sv, cs, d0, hrow⟩ := hr.said
  have HS := hide (clash_any w bb Zb S hb)
  have HR := hide (fun (w1 : World) (U : Upd [] w w1) => refClash_any w1 L sv cs ((hrow.later U (fun _ _ => by simp)).mono fun k _ hl => hl) h.both.ok (fun s hs => by have := h.both.small s hs; omega) (by have := h.both.length; have := h.both.saids; omega))
  have hxlt := h.lt
  have hrlt := hr.lt
  rw [h.both.clash] at HS
  clear h hb hr z1 z2 hrow
  generalize clashR L = b at *
  go_enter Tryz.func51, Tryz.ntmps51
  go_wp2_with (first
    | (go_at_call 16; refine HS.out.mono ?_; rintro e w1 ⟨rfl, hu1⟩; have k1 := (hu1.cell (p := ⟨xb, 1, none⟩) hxlt (by simp)).trans c1; have k2 := (hu1.cell (p := ⟨rb, 0, none⟩) hrlt (by simp)).trans d0; have HR1 := hide (HR.out w1 hu1); have HU1 := hide hu1; clear hu1)
    | (go_at_call 92; refine HR1.out.mono ?_; rintro e w2 ⟨rfl, hu2⟩; have HU2 := hide hu2; clear hu2))
  go_ret
  exact ⟨by simp, HU1.out.trans HU2.out⟩

theorem rows_form {w : World} {B n : Nat} {v : Value} {rs : List Value} (h : w.ownsRow B 50 1 v n rs) (hl : rs.length = n) : ∃ a cap, v = .slice a n cap ∧ n ≤ cap ∧ cap ≤ maxLen ∧ (0 < n → ∃ g, a = some ⟨g, 0, none⟩ ∧ g < w.heap.size ∧ ∀ (i : Nat) (r : Value), rs[i]? = some r → w.cell? ⟨g, i, none⟩ = some r) := by
  rcases ownsRow_slice h with ⟨h1, h2⟩ | ⟨g, cap, h1, h2, h3⟩
  · rw [h2]
    exact ⟨none, 0, h1, Nat.le_refl _, by simp [maxLen], fun h => absurd h (Nat.lt_irrefl _)⟩
  · subst h1
    refine ⟨_, cap, rfl, h2, h3, fun _ => ⟨g, rfl, ownsRow_lt h rfl, fun i r hr => ?_⟩⟩
    have hi := (List.getElem?_eq_some_iff.1 hr).1
    have := h.cellAt i (by omega)
    rw [this, hr]
set_option maxHeartbeats 4000000 in
set_option maxRecDepth 100000 in
theorem classesL_any (w : World) (xb : Nat) (Z : Nat → Prop) (S : WS) (L : List ST) (M : List Nat) (h : BothAt w xb Z S L M) :
    Calls Tryz.prog 32 #[.pointer (some ⟨xb, 0, none⟩)] w fun e w' => ∃ v rs, e = .returned (.tuple #[v, .bool true]) ∧ Upd [] w w' ∧ ListsAt w' w.heap.size v rs (classesOf S) := by
  obtain ⟨bb, rb, Zb, Zr, c0, c1, hb, hr, z1, z2⟩ := h.ex
  have HS := hide (bookClasses_any w bb Zb S hb h.both.text)
  have HR := hide (fun (w1 : World) (U : Upd [] w w1) => refClasses_any w1 rb Zr L M (hr.later U (fun _ _ => by simp)) h.both.ok h.both.small (by have := h.both.length; have := h.both.saids; omega))
  have hxlt := h.lt
  rw [← h.both.classes] at HR
  have hlen : (classesOf S).length ≤ 1000 := by
    rw [h.both.classes]
    unfold classesR
    rw [List.length_map]
    have h1 := firstsTo_len (textAt (termsR L)) (clsAt (drawnR L)) (termsR L).length (termsR L).length
    have h2 := h.both.holds.count h.both.ok
    have h3 := h.both.terms
    omega
  clear h hb hr z1 z2
  obtain ⟨ls, hls⟩ : ∃ ls, classesOf S = ls := ⟨_, rfl⟩
  rw [hls] at HS HR hlen ⊢
  clear hls
  obtain ⟨n, hn⟩ : ∃ n, ls.length = n := ⟨_, rfl⟩
  rw [hn] at hlen
  have Hn := hide hn
  clear hn
  go_enter Tryz.func32, Tryz.ntmps32
  go_upto_region 3 with (first
    | (go_at_call 20; refine HS.out.mono ?_; rintro e w1 ⟨v1, rs1, rfl, hu1, hl1⟩; have k1 := (hu1.cell (p := ⟨xb, 1, none⟩) hxlt (by simp)).trans c1; have HR1 := hide (HR.out w1 hu1); have HU1 := hide hu1; have HL1 := hide hl1; clear hu1 hl1)
    | (go_at_call 65; refine HR1.out.mono ?_; rintro e w2 ⟨v2, rs2, rfl, hu2, hl2⟩; have HU2 := hide hu2; have HL2 := hide hl2; clear hu2 hl2))
  have hr1 := HU2.out.ownsRow HL1.out.row (fun _ _ => by simp)
  have hr2 := HL2.out.row
  rw [Hn.out] at hr1 hr2
  obtain ⟨a1, cap1, hv1, p11, p12, f1⟩ := rows_form hr1 (by rw [HL1.out.len, Hn.out])
  obtain ⟨a2, cap2, hv2, p21, p22, f2⟩ := rows_form hr2 (by rw [HL2.out.len, Hn.out])
  subst hv1 hv2
  have F1 := hide f1
  have F2 := hide f2
  unfold maxLen at p12 p22
  clear hr1 hr2 f1 f2 k1 c0 c1 HR1 HR HS
  go_wp2
  go_loopw [6] (fun i wr => ∃ j m : Nat, j ≤ n ∧ i = .int .i64 j ∧ wr = w2.drewN m) (fun i _ => n - (intOf i).toNat)
  case atStart => exact ⟨0, 0, Nat.zero_le _, rfl, rfl⟩
  case round =>
    obtain ⟨j, m, hj, rfl, rfl⟩ := hrel
    by_cases hjn : j < n
    · have hjI : (j : Int) < (n : Int) := by omega
      obtain ⟨r1, hr1⟩ : ∃ r, rs1[j]? = some r := ⟨_, List.getElem?_eq_getElem (by rw [HL1.out.len, Hn.out]; exact hjn)⟩
      obtain ⟨r2, hr2⟩ : ∃ r, rs2[j]? = some r := ⟨_, List.getElem?_eq_getElem (by rw [HL2.out.len, Hn.out]; exact hjn)⟩
      obtain ⟨l, hl⟩ : ∃ l, ls[j]? = some l := ⟨_, List.getElem?_eq_getElem (by rw [Hn.out]; exact hjn)⟩
      obtain ⟨g1, rfl, _, q1⟩ := F1.out (by omega)
      obtain ⟨g2, rfl, _, q2⟩ := F2.out (by omega)
      have z1 := q1 j r1 hr1
      have z2 := q2 j r2 hr2
      have HT : Hid (∀ p q : Nat, Calls Tryz.prog 66 #[r1, r2] (w2.drewN (p + q)) fun e w' => e = .returned (.bool true) ∧ ∃ n, w' = w2.drewN (p + n)) := fun p q => by
        have s1 : StrRow (w2.drewN (p + q)) w.heap.size r1 l := ((HL1.out.all j r1 l hr1 hl).later HU2.out).later ((Upd.refl [] w2).drewN (p + q))
        have s2 : StrRow (w2.drewN (p + q)) w1.heap.size r2 l := (HL2.out.all j r2 l hr2 hl).later ((Upd.refl [] w2).drewN (p + q))
        have := sameTexts_any _ _ _ r1 r2 l l s1 s2
        rw [decide_eq_true rfl] at this
        exact this.mono fun e w' ⟨he, n, hw⟩ => ⟨he, q + n, by rw [hw]; simp [Nat.add_assoc]⟩
      clear q1 q2 hr1 hr2 hl
      go_wp2_with fail
      go_quiet ((go_at_call 66; exact HT.out _ _))
      go_wp2
      refine ⟨⟨j + 1, _, by omega, by simp, rfl⟩, ?_⟩
      simp [intOf]
      omega
    · have hjI : ¬ (j : Int) < (n : Int) := by omega
      go_wp2
      go_ret2
      exact ⟨_, rfl, (HU1.out.trans HU2.out).drewN m, rs1, (HL1.out.later HU2.out (fun _ h => by cases h)).later ((Upd.refl [] w2).drewN m) (fun _ h => by cases h)⟩
end Go.Proofs.YtmfkpllnmmfpiaaGreatDoor

/-
  A script over both Books: one step, all steps, walked.
-/
namespace Go.Proofs.YtmfkpllnmmfpiaaGreatDoor
open Go.RowKit

theorem Since.clash {w0 w : World} {xb : Nat} {S : WS} {L : List ST} {M : List Nat} (h : Since w0 w xb S L M) :
    Calls Tryz.prog 51 #[.pointer (some ⟨xb, 0, none⟩)] w fun e w' => e = .returned (.bool true) ∧ Since w0 w' xb S L M :=
  (clashL_any w xb _ S L M h.1).mono fun _ _ ⟨he, hu⟩ => ⟨he, h.look hu⟩
theorem Since.classes {w0 w : World} {xb : Nat} {S : WS} {L : List ST} {M : List Nat} (h : Since w0 w xb S L M) :
    Calls Tryz.prog 32 #[.pointer (some ⟨xb, 0, none⟩)] w fun e w' => ∃ v, e = .returned (.tuple #[v, .bool true]) ∧ Since w0 w' xb S L M :=
  (classesL_any w xb _ S L M h.1).mono fun _ _ ⟨v, _, he, hu, _⟩ => ⟨v, he, h.look hu⟩
set_option maxHeartbeats 2000000 in
set_option maxRecDepth 100000 in
theorem Since.whole {w0 w : World} {xb : Nat} {S : WS} {L : List ST} {M : List Nat} (h : Since w0 w xb S L M) :
    Calls Tryz.prog 24 #[.pointer (some ⟨xb, 0, none⟩)] w fun e w' => e = .returned (.bool true) ∧ Since w0 w' xb S L M := by
  have H := hide h
  clear h
  go_enter Tryz.func24, Tryz.ntmps24
  go_wp2_with (first
    | (go_at_call 34; refine H.out.said.mono ?_; rintro e w1 ⟨v1, rfl, h1⟩; have H1 := hide h1; clear h1)
    | (go_at_call 51; refine H1.out.clash.mono ?_; rintro e w2 ⟨rfl, h2⟩; have H2 := hide h2; clear h2)
    | (go_at_call 32; refine H2.out.classes.mono ?_; rintro e w3 ⟨v3, rfl, h3⟩; have H3 := hide h3; clear h3))
  go_ret
  exact ⟨rfl, H3.out⟩

/-- What a step leaves. -/
def Goes1 (w0 w' : World) (xb : Nat) : Prop := ∃ S L M, Since w0 w' xb S L M
set_option maxHeartbeats 4000000 in
set_option maxRecDepth 100000 in
theorem step5_any (kd kk : Int) (s : ByteArray) (hmax : s.size ≤ maxLen) (hk : kd ≤ 5) {w0 w : World} {xb : Nat} {S : WS} {L : List ST} {M : List Nat} (h : Since w0 w xb S L M) :
    Calls Tryz.prog 23 #[.pointer (some ⟨xb, 0, none⟩), .agg #[.int .i64 kd, .int .i64 kk, .string s]] w fun e w' => e = .returned (.bool true) ∧ Goes1 w0 w' xb := by
  have H := hide (h.look ((Upd.refl [] w).alloc (.cells #[.int .i64 kd, .int .i64 kk, .string s] 41)))
  clear h
  by_cases h1 : kd = 1
  · subst h1
    go_enter Tryz.func23, Tryz.ntmps23
    go_wp2_with (go_at_call 12; refine (H.out.say s hmax).mono ?_; rintro e w1 ⟨rfl, h1⟩; have H1 := hide h1; clear h1)
    go_ret
    exact ⟨rfl, _, _, _, H1.out⟩
  by_cases h2 : kd = 2
  · subst h2
    go_enter Tryz.func23, Tryz.ntmps23
    go_wp2_with (go_at_call 50; refine (H.out.follows s hmax).mono ?_; rintro e w1 ⟨rfl, h1⟩; have H1 := hide h1; clear h1)
    go_ret
    exact ⟨rfl, _, _, _, H1.out⟩
  by_cases h3 : kd = 3
  · subst h3
    go_enter Tryz.func23, Tryz.ntmps23
    go_wp2_with (go_at_call 51; refine H.out.clash.mono ?_; rintro e w1 ⟨rfl, h1⟩; have H1 := hide h1; clear h1)
    go_ret
    exact ⟨rfl, _, _, _, H1.out⟩
  by_cases h4 : kd = 4
  · subst h4
    go_enter Tryz.func23, Tryz.ntmps23
    go_wp2_with (go_at_call 32; refine H.out.classes.mono ?_; rintro e w1 ⟨v1, rfl, h1⟩; have H1 := hide h1; clear h1)
    go_ret
    exact ⟨rfl, _, _, _, H1.out⟩
  by_cases h5 : kd = 5
  · subst h5
    go_enter Tryz.func23, Tryz.ntmps23
    go_wp2_with (go_at_call 34; refine H.out.said.mono ?_; rintro e w1 ⟨v1, rfl, h1⟩; have H1 := hide h1; clear h1)
    go_ret
    exact ⟨rfl, _, _, _, H1.out⟩
  have h6 : ¬ kd = 6 := by omega
  have h7 : ¬ kd = 7 := by omega
  have h8 : ¬ kd = 8 := by omega
  have h9 : ¬ kd = 9 := by omega
  have b1 : (kd == 1) = false := by simpa using h1
  have b2 : (kd == 2) = false := by simpa using h2
  have b3 : (kd == 3) = false := by simpa using h3
  have b4 : (kd == 4) = false := by simpa using h4
  have b5 : (kd == 5) = false := by simpa using h5
  have b6 : (kd == 6) = false := by simpa using h6
  have b7 : (kd == 7) = false := by simpa using h7
  have b8 : (kd == 8) = false := by simpa using h8
  have b9 : (kd == 9) = false := by simpa using h9
  go_enter Tryz.func23, Tryz.ntmps23
  go_wp2
  go_ret
  exact ⟨rfl, _, _, _, H.out⟩

/-- A script that came in: kinds, numbers, texts. -/
structure ScriptIs (w : World) (ao : Option Addr) (sc : List (Int × Int × ByteArray)) : Prop where
  cells : 0 < sc.length → ∃ b off, ao = some ⟨b, off, none⟩ ∧ b < w.heap.size ∧ ∀ (i : Nat) (o : Int × Int × ByteArray), sc[i]? = some o → w.cell? ⟨b, off + i * 3, none⟩ = some (.int .i64 o.1) ∧ w.cell? ⟨b, off + i * 3 + 1, none⟩ = some (.int .i64 o.2.1) ∧ w.cell? ⟨b, off + i * 3 + 2, none⟩ = some (.string o.2.2)
  texts : ∀ o ∈ sc, o.2.2.size ≤ maxLen
set_option maxHeartbeats 4000000 in
set_option maxRecDepth 100000 in
theorem play5_any (ao : Option Addr) (sc : List (Int × Int × ByteArray)) (cap : Nat) (w : World) (hE : ErrTab w) (hR : ScriptIs w ao sc) (hcap : sc.length ≤ cap) (hm : cap ≤ maxLen) :
    Calls Tryz.prog 9 #[.slice ao sc.length cap, .int .i64 5] w fun e w' => e = .returned (.bool true) ∧ Upd [] w w' := by
  have HB := hide (since_begun w hE)
  obtain ⟨n, hn⟩ : ∃ n, sc.length = n := ⟨_, rfl⟩
  have hcl := hR.cells
  rw [hn] at hcap hcl ⊢
  have Hc := hide hcl
  have Ht := hide hR.texts
  have Hn := hide hn
  unfold maxLen at hm
  clear hE hR hn hcl
  go_enter Tryz.func9, Tryz.ntmps9
  go_wp2_with (go_at_call 22; refine HB.out.mono ?_; rintro e w1 ⟨xb, rfl, h1⟩; have H1 := hide h1; clear h1)
  go_loopw [6, 7] (fun t i wr => ∃ j : Nat, j ≤ n ∧ i = .int .i64 j ∧ t = .bool true ∧ Hid (Goes1 w wr xb)) (fun _ i _ => n - (intOf i).toNat)
  case atStart => exact ⟨0, Nat.zero_le _, rfl, rfl, _, _, _, H1.out⟩
  case round =>
    obtain ⟨j, hj, rfl, rfl, HG⟩ := hrel
    obtain ⟨S, L, M, h2⟩ := HG.out
    by_cases hjn : j < n
    · have hjI : (j : Int) < (n : Int) := by omega
      obtain ⟨o, ho⟩ : ∃ o, sc[j]? = some o := ⟨_, List.getElem?_eq_getElem (by rw [Hn.out]; exact hjn)⟩
      obtain ⟨b, off, rfl, hb, hc⟩ := Hc.out (by omega)
      obtain ⟨k0, k1, k2⟩ := hc j o ho
      obtain ⟨kd, kk, s⟩ := o
      have hmx := Ht.out _ (List.mem_of_getElem? ho)
      have q0 := (h2.2.1.cell (p := ⟨b, off + j * 3, none⟩) hb (by simp)).trans k0
      have q1 := (h2.2.1.cell (p := ⟨b, off + j * 3 + 1, none⟩) hb (by simp)).trans k1
      have q2 := (h2.2.1.cell (p := ⟨b, off + j * 3 + 2, none⟩) hb (by simp)).trans k2
      simp only at q0 q1 q2 hmx
      have H2 := hide h2
      have HG2 := HG
      clear h2 k0 k1 k2 hc ho
      by_cases hk : 5 < kd
      · go_wp2
        refine ⟨⟨j + 1, by omega, by simp, rfl, HG2.out⟩, ?_⟩
        simp [intOf]
        omega
      · have HS := hide (step5_any kd kk s hmx (by omega) H2.out)
        go_wp2_with (go_at_call 23; refine HS.out.mono ?_; rintro e w3 ⟨rfl, h3⟩; have H3 := hide h3; clear h3)
        refine ⟨⟨j + 1, by omega, by simp, rfl, H3.out⟩, ?_⟩
        simp [intOf]
        omega
    · have hjI : ¬ (j : Int) < (n : Int) := by omega
      have HW := hide h2.whole
      clear h2
      go_wp2_with (go_at_call 24; refine HW.out.mono ?_; rintro e w3 ⟨rfl, h3⟩; have H3 := hide h3; clear h3)
      go_ret
      exact ⟨rfl, H3.out.2.1⟩
theorem draws_any (ao : Option Addr) (sc : List (Int × Int × ByteArray)) (cap : Nat) (w : World) (hE : ErrTab w) (hR : ScriptIs w ao sc) (hcap : sc.length ≤ cap) (hm : cap ≤ maxLen) :
    Calls Tryz.prog 3 #[.slice ao sc.length cap] w fun e w' => e = .returned (.bool true) ∧ Upd [] w w' := by
  have HP := hide (play5_any ao sc cap w hE hR hcap hm)
  clear hE hR hcap hm
  go_enter Tryz.func3, Tryz.ntmps3
  go_wp2_with (go_at_call 9; refine HP.out.mono ?_; rintro e w3 ⟨rfl, h3⟩; have H3 := hide h3; clear h3)
  go_ret
  exact ⟨rfl, H3.out⟩
end Go.Proofs.YtmfkpllnmmfpiaaGreatDoor
