/-
  'BackTo': the closures are called, the last one first.
-/
import Derived.Test.YtmfkpllnmmfpiaaGreatDoorReadSizeH
import Derived.Test.YtmfkpllnmmfpiaaGreatDoorUndo3H
import Derived.Deep.LoopGhost
import Derived.Laws.EntriesVeiled
namespace Go.Proofs.YtmfkpllnmmfpiaaGreatDoor
open Go.RowKit

/-- A closure does what it says. -/
theorem un_any (w : World) (wb : Nat) (H : Hd) (Z : Nat → Prop) (R : WS) (v : Value) (u : Un) (h : WebAt w wb H Z R) (hv : IsUn w wb (fun k => Z k ∧ k ∉ H.blocks wb) v u) (ho : okUn R u) :
    ∃ f caps, (f = 154 ∨ f = 158 ∨ f = 178 ∨ f = 177) ∧ v = .func (.func f) #[] caps ∧ Calls Tryz.prog f caps w fun e w' => e = .returned (.tuple #[]) ∧ ∃ H', WebAt w' wb H' Z (undo1 R u) ∧ Upd (H.blocks wb) w w' ∧ H'.blocks wb = H.blocks wb := by
  obtain ⟨bw, hF, hb, hr⟩ := hv
  rcases hr with ⟨ht, hv⟩ | ⟨ht, bn, bs, f1, f2, h1, h2, hv⟩ | ⟨ht, bs, f1, h1, hv⟩ | ⟨ht, bf, bn, f1, f2, h1, h2, hv⟩
  · refine ⟨_, _, .inl rfl, hv, ?_⟩
    have hp : 0 < R.said.length := by
      rcases ho with ⟨_, hp⟩ | ⟨e, _⟩ | ⟨e, _⟩ | ⟨e, _⟩
      · exact hp
      · omega
      · omega
      · omega
    have e : undo1 R u = { R with said := R.said.dropLast } := by unfold undo1; rw [if_pos ht]
    rw [e]
    exact note1_any w wb bw H Z R h hb.2 hp
  · refine ⟨_, _, .inr (.inl rfl), hv, ?_⟩
    obtain ⟨o1, o2, _, o4, o5⟩ : u.a < R.shapes.length ∧ u.a < R.classes.length ∧ R.shapes.length ≤ 1000000 ∧ GoodSh u.sh ∧ (R.numbers u.sh).isSome = true := by
      rcases ho with ⟨e, _⟩ | ⟨_, hp⟩ | ⟨e, _⟩ | ⟨e, _⟩
      · omega
      · exact hp
      · omega
      · omega
    have e : undo1 R u = { R with shapes := R.shapes.take u.a, classes := R.classes.take u.a, numbers := setF R.numbers u.sh none, nums := R.nums - 1 } := by unfold undo1; rw [if_neg (by omega), if_pos ht]
    rw [e]
    exact enter1_any w wb bw bn bs H Z R u.a u.sh h hb h1 h2 o4 o5 o1 o2 hF.2 f1.2 f2.2
  · refine ⟨_, _, .inr (.inr (.inl rfl)), hv, ?_⟩
    obtain ⟨o1, o2⟩ : GoodSh u.sh ∧ (R.alike u.sh).isSome = true := by
      rcases ho with ⟨e, _⟩ | ⟨e, _⟩ | ⟨_, hp⟩ | ⟨e, _⟩
      · omega
      · omega
      · exact hp
      · omega
    have e : undo1 R u = { R with alike := setF R.alike u.sh none, files := R.files - 1 } := by unfold undo1; rw [if_neg (by omega), if_neg (by omega), if_pos ht]
    rw [e]
    exact (file1_any w wb bw bs H Z R u.sh h hb.2 h1 o1 o2).mono fun e w' hw => ⟨hw.1, H, hw.2.1, hw.2.2, rfl⟩
  · refine ⟨_, _, .inr (.inr (.inr rfl)), hv, ?_⟩
    have o1 : u.a < R.classes.length := by
      rcases ho with ⟨e, _⟩ | ⟨e, _⟩ | ⟨e, _⟩ | ⟨_, hp⟩
      · omega
      · omega
      · omega
      · exact hp
    have e : undo1 R u = { R with classes := R.classes.set u.a u.b } := by unfold undo1; rw [if_neg (by omega), if_neg (by omega), if_neg (by omega)]
    rw [e]
    exact (move1_any w wb bw bf bn H Z R u.a u.b h hb.2 h1.2 h2.2 o1).mono fun e w' hw => ⟨hw.1, H, hw.2.1, hw.2.2, rfl⟩

/-- Where the loop of 'BackTo' stands. -/
def Backing (w wr : World) (wb : Nat) (H : Hd) (Z : Nat → Prop) (S0 : WS) (k : Nat) : Prop :=
  ∃ R H', R.trail.length = S0.trail.length + k ∧ CanBack k R S0 ∧ WebAt wr wb H' Z R ∧ Upd (H.blocks wb) w wr ∧ H'.blocks wb = H.blocks wb

theorem Backing.next {w wr w2 : World} {wb b j n : Nat} {H H' H2 : Hd} {Z : Nat → Prop} {S0 T : WS} {us : List Un} {z v : Value} (hu : Upd (H.blocks wb) w wr) (hB : H'.blocks wb = H.blocks wb) (hT : us.length = S0.trail.length + j) (hc : CanBack j T S0) (hb : b ∈ H.blocks wb)
    (hw : WebAt w2 wb H2 Z T) (hu2 : Upd (H'.blocks wb) ((wr.setCell ⟨b, us.length, none⟩ z).setCell ⟨wb, 0, none⟩ v) w2) (hH : H2.blocks wb = H'.blocks wb) (ht : T.trail = us) (hj : j + 1 ≤ n) : j ≤ n ∧ Hid (Backing w w2 wb H Z S0 j) := by
  rw [hB] at hu2
  exact ⟨by omega, T, H2, by rw [ht]; exact hT, hc, hw, ((hu.setCell (p := ⟨b, us.length, none⟩) (.inl hb) _).setCell (p := ⟨wb, 0, none⟩) (.inl (H.mem_wb wb)) _).trans hu2, hH.trans hB⟩
theorem undo1_trail (S : WS) (u : Un) : (undo1 S u).trail = S.trail := by
  unfold undo1
  repeat' split
  all_goals rfl

theorem trail_slice {w : World} {wb : Nat} {H : Hd} {Z : Nat → Prop} {S : WS} (h : WebAt w wb H Z S) : ∃ g cap, H.backs = .slice g S.trail.length cap ∧ S.trail.length ≤ cap ∧ cap ≤ maxLen ∧ (0 < S.trail.length → ∃ b, g = some ⟨b, 0, none⟩) := by
  obtain ⟨cls, hrow, _⟩ := h.rb
  rcases ownsRow_slice hrow with ⟨h1, h2⟩ | ⟨g, cap, h1, h2, h3⟩
  · exact ⟨none, 0, by rw [h1, h2], by omega, by simp [maxLen], fun e => by omega⟩
  · exact ⟨_, cap, h1, h2, h3, fun _ => ⟨g, rfl⟩⟩

set_option maxHeartbeats 2000000 in
set_option maxRecDepth 100000 in
theorem backTo_any (w : World) (wb : Nat) (H : Hd) (Z : Nat → Prop) (S S0 : WS) (h : WebAt w wb H Z S) (hg : Goes S0 S) (hb : S.trail.length ≤ 9000000) :
    Calls Tryz.prog 59 #[.pointer (some ⟨wb, 0, none⟩), .int .i64 S0.trail.length] w fun e w' => e = .returned (.tuple #[]) ∧ ∃ H', WebAt w' wb H' Z S0 ∧ Upd (H.blocks wb) w w' ∧ H'.blocks wb = H.blocks wb := by
  obtain ⟨n, hn, hc⟩ := hg
  have hstart : Backing w w wb H Z S0 n := ⟨S, H, hn, hc, h, Upd.refl _ _, rfl⟩
  have hn' : S0.trail.length + n ≤ 9000000 := by omega
  clear hn hc h hb
  have hmax : S0.trail.length ≤ 9000000 := by omega
  go_enter Tryz.func59, Tryz.ntmps59
  go_wp2
  go_loopg [4] n (fun k _ wr => k ≤ n ∧ Hid (Backing w wr wb H Z S0 k))
  case atStart => exact ⟨Nat.le_refl _, hstart⟩
  case round =>
    obtain ⟨hk, HR⟩ := hrel
    clear hstart
    obtain ⟨R, H', hl, hcb, hw, hu, hH⟩ := HR.out
    clear HR
    obtain ⟨g, cap, hd, hcap, hcm, hgs⟩ := trail_slice hw
    have c0 := hw.c0
    rw [hd] at c0
    unfold maxLen at hcm
    cases gk with
    | zero =>
      have e : R = S0 := hcb
      subst e
      have Hw := hide hw
      have HH := hide hH
      clear hw hH hl hcb hd hgs
      go_wp2
      go_end0
      exact ⟨rfl, H', Hw.out, hu, HH.out⟩
    | succ j =>
      obtain ⟨us, u, ht, ho, hcb'⟩ := hcb
      have hlu : R.trail.length = us.length + 1 := by rw [ht]; simp
      obtain ⟨b, rfl⟩ := hgs (by omega)
      rw [hlu] at c0 hd hcap
      have hul : us.length = S0.trail.length + j := by omega
      obtain ⟨hwp, v, hcell, hv, hfz⟩ := hw.pop (z := .nilFunc) ht hd
      have hfw := hw.free
      have hHp : ({ H' with backs := .slice (some ⟨b, 0, none⟩) us.length cap } : Hd).blocks wb = H'.blocks wb := blocks_backs (by rw [hd]; rfl)
      obtain ⟨f, caps, hf, rfl, hcall⟩ := un_any _ wb _ Z _ v u hwp (by rw [hHp]; exact hv) ho
      have HC := hide hcall
      have hne : b ≠ wb := fun e => by
        have := (Hd.parts hw.apart).b b (by rw [hd]; rfl)
        exact this.1 e
      have hgt : (S0.trail.length : Int) < (us.length : Int) + 1 := by omega
      have HU := hide hu
      have HB := hide (hHp.trans hH)
      have HT := hide hul
      have Hcb := hide hcb'
      have hbH : b ∈ H.blocks wb := by rw [← hH]; exact Hd.mem_backs (by rw [hd]; rfl)
      have hus : (us.length : Int) ≤ 9000000 := by omega
      have hcapI : (us.length : Int) < (cap : Int) := by omega
      clear hcall hv hwp hu hHp hH hul hcb' hl hlu ht ho hd hw
      rcases hf with rfl | rfl | rfl | rfl
      · go_wp2_with (go_at_call 154; refine HC.out.mono ?_; rintro e w2 ⟨rfl, H2, hw2, hu2, hH2⟩)
        go_roundg j
        case measure => omega
        case rel => exact Backing.next HU.out HB.out HT.out Hcb.out hbH hw2 hu2 hH2 (undo1_trail _ _) (by omega)
      · go_wp2_with (go_at_call 158; refine HC.out.mono ?_; rintro e w2 ⟨rfl, H2, hw2, hu2, hH2⟩)
        go_roundg j
        case measure => omega
        case rel => exact Backing.next HU.out HB.out HT.out Hcb.out hbH hw2 hu2 hH2 (undo1_trail _ _) (by omega)
      · go_wp2_with (go_at_call 178; refine HC.out.mono ?_; rintro e w2 ⟨rfl, H2, hw2, hu2, hH2⟩)
        go_roundg j
        case measure => omega
        case rel => exact Backing.next HU.out HB.out HT.out Hcb.out hbH hw2 hu2 hH2 (undo1_trail _ _) (by omega)
      · go_wp2_with (go_at_call 177; refine HC.out.mono ?_; rintro e w2 ⟨rfl, H2, hw2, hu2, hH2⟩)
        go_roundg j
        case measure => omega
        case rel => exact Backing.next HU.out HB.out HT.out Hcb.out hbH hw2 hu2 hH2 (undo1_trail _ _) (by omega)
end Go.Proofs.YtmfkpllnmmfpiaaGreatDoor
