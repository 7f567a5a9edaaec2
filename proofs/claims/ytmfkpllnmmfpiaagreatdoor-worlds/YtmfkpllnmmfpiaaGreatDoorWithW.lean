/- Back, Contra, With -/
import Derived.Test.YtmfkpllnmmfpiaaGreatDoorJoinModelW
import Derived.Test.YtmfkpllnmmfpiaaGreatDoorUndo3W
import Derived.Deep.LoopGhost
import Derived.Laws.EntriesVeiled
import Derived.Test.YtmfkpllnmmfpiaaGreatDoorClashW
namespace Go.Proofs.YtmfkpllnmmfpiaaGreatDoor
open Go.RowKit
theorem un_any (w : World) (wb : Nat) (H : Hd) (Z : Nat → Prop) (R : WS) (v : Value) (u : Un) (h : WebAt w wb H Z R) (hv : IsUn w wb (fun k => Z k ∧ k ∉ H.blocks wb) v u) (ho : okUn R u) :
  ∃ f caps, (f = 154 ∨ f = 158 ∨ f = 178 ∨ f = 177) ∧ v = .func (.func f) #[] caps ∧ Calls Tryz.prog f caps w fun e w' => e = .returned (.tuple #[]) ∧ ∃ H', WebAt w' wb H' Z (undo1 R u) ∧ Upd (H.blocks wb) w w' ∧ H'.blocks wb = H.blocks wb := by
 obtain ⟨bw, hF, hb, hr⟩ := hv
 rcases hr with ⟨ht, hv⟩ | ⟨ht, bn, bs, f1, f2, h1, h2, hv⟩ | ⟨ht, bs, f1, h1, hv⟩ | ⟨ht, bf, bn, f1, f2, h1, h2, hv⟩
 ·refine ⟨_, _, .inl rfl, hv, ?_⟩
  have hp : 0 < R.said.length := by
   rcases ho with ⟨_, hp⟩ | ⟨e, _⟩ | ⟨e, _⟩ | ⟨e, _⟩
   ·exact hp
   ·omega
   ·omega
   ·omega
  have e : undo1 R u = { R with said := R.said.dropLast } := by unfold undo1; rw [if_pos ht]
  rw [e]
  exact note1_any w wb bw H Z R h hb.2 hp
 ·refine ⟨_, _, .inr (.inl rfl), hv, ?_⟩
  obtain ⟨o1, o2, _, o4, o5⟩ : u.a < R.shapes.length ∧ u.a < R.classes.length ∧ R.shapes.length ≤ 1000000 ∧ GoodSh u.sh ∧ (R.numbers u.sh).isSome = true := by
   rcases ho with ⟨e, _⟩ | ⟨_, hp⟩ | ⟨e, _⟩ | ⟨e, _⟩
   ·omega
   ·exact hp
   ·omega
   ·omega
  have e : undo1 R u = { R with shapes := R.shapes.take u.a, classes := R.classes.take u.a, numbers := setF R.numbers u.sh none, nums := R.nums - 1 } := by unfold undo1; rw [if_neg (by omega), if_pos ht]
  rw [e]
  exact enter1_any w wb bw bn bs H Z R u.a u.sh h hb h1 h2 o4 o5 o1 o2 hF.2 f1.2 f2.2
 ·refine ⟨_, _, .inr (.inr (.inl rfl)), hv, ?_⟩
  obtain ⟨o1, o2⟩ : GoodSh u.sh ∧ (R.alike u.sh).isSome = true := by
   rcases ho with ⟨e, _⟩ | ⟨e, _⟩ | ⟨_, hp⟩ | ⟨e, _⟩
   ·omega
   ·omega
   ·exact hp
   ·omega
  have e : undo1 R u = { R with alike := setF R.alike u.sh none, files := R.files - 1 } := by unfold undo1; rw [if_neg (by omega), if_neg (by omega), if_pos ht]
  rw [e]
  exact (file1_any w wb bw bs H Z R u.sh h hb.2 h1 o1 o2).mono fun e w' hw => ⟨hw.1, H, hw.2.1, hw.2.2, rfl⟩
 ·refine ⟨_, _, .inr (.inr (.inr rfl)), hv, ?_⟩
  have o1 : u.a < R.classes.length := by
   rcases ho with ⟨e, _⟩ | ⟨e, _⟩ | ⟨e, _⟩ | ⟨_, hp⟩
   ·omega
   ·omega
   ·omega
   ·exact hp
  have e : undo1 R u = { R with classes := R.classes.set u.a u.b } := by unfold undo1; rw [if_neg (by omega), if_neg (by omega), if_neg (by omega)]
  rw [e]
  exact (move1_any w wb bw bf bn H Z R u.a u.b h hb.2 h1.2 h2.2 o1).mono fun e w' hw => ⟨hw.1, H, hw.2.1, hw.2.2, rfl⟩
def Backing (w wr : World) (wb : Nat) (H : Hd) (Z : Nat → Prop) (S0 : WS) (k : Nat) : Prop :=
 ∃ R H', R.trail.length = S0.trail.length + k ∧ CanBack k R S0 ∧ WebAt wr wb H' Z R ∧ Upd (H.blocks wb) w wr ∧ H'.blocks wb = H.blocks wb
theorem Backing.next {w wr w2 : World} {wb b j n : Nat} {H H' H2 : Hd} {Z : Nat → Prop} {S0 T : WS} {us : List Un} {z v : Value} (hu : Upd (H.blocks wb) w wr) (hB : H'.blocks wb = H.blocks wb) (hT : us.length = S0.trail.length + j) (hc : CanBack j T S0) (hb : b ∈ H.blocks wb)
  (hw : WebAt w2 wb H2 Z T) (hu2 : Upd (H'.blocks wb) ((wr.setCell ⟨b, us.length, none⟩ z).setCell ⟨wb, 0, none⟩ v) w2) (hH : H2.blocks wb = H'.blocks wb) (ht : T.trail = us) (hj : j + 1 ≤ n) : j ≤ n ∧ Hid (Backing w w2 wb H Z S0 j) := by
 rw [hB] at hu2
 exact ⟨by omega, T, H2, by rw [ht]; exact hT, hc, hw, ((hu.setCell (p := ⟨b, us.length, none⟩) (.inl hb) _).setCell (p := ⟨wb, 0, none⟩) (.inl (H.mem_wb wb)) _).trans hu2, hH.trans hB⟩
theorem undo1_trail (S : WS) (u : Un) : (undo1 S u).trail = S.trail := by
 unfold undo1
 repeat' split
 all_goals rfl
theorem trail_slice {w : World} {wb : Nat} {H : Hd} {Z : Nat → Prop} {S : WS} (h : WebAt w wb H Z S) : ∃ g cap, H.backs = .slice g S.trail.length cap ∧ S.trail.length ≤ cap ∧ cap ≤ maxLen ∧ (0 < S.trail.length → ∃ b, g = some ⟨b, 0, none⟩) := by
 obtain ⟨cls, hrow, _⟩ := h.rb
 rcases ownsRow_slice hrow with ⟨h1, h2⟩ | ⟨g, cap, h1, h2, h3⟩
 ·exact ⟨none, 0, by rw [h1, h2], by omega, by simp [maxLen], fun e => by omega⟩
 ·exact ⟨_, cap, h1, h2, h3, fun _ => ⟨g, rfl⟩⟩
set_option maxHeartbeats 2000000 in
set_option maxRecDepth 100000 in
theorem backTo_any (w : World) (wb : Nat) (H : Hd) (Z : Nat → Prop) (S S0 : WS) (h : WebAt w wb H Z S) (hg : Goes S0 S) (hb : S.trail.length ≤ 9000000) :
  Calls Tryz.prog 59 #[.pointer (some ⟨wb, 0, none⟩), .int .i64 S0.trail.length] w fun e w' => e = .returned (.tuple #[]) ∧ ∃ H', WebAt w' wb H' Z S0 ∧ Upd (H.blocks wb) w w' ∧ H'.blocks wb = H.blocks wb := by
 obtain ⟨n, hn, hc⟩ := hg
 have hstart : Backing w w wb H Z S0 n := ⟨S, H, hn, hc, h, Upd.refl _ _, rfl⟩
 have hn' : S0.trail.length + n ≤ 9000000 := by omega
 clear hn hc h hb
 have hmax : S0.trail.length ≤ 9000000 := by omega
 go_enter Tryz.func59, Tryz.ntmps59
 go_wp2
 go_loopg [4] n (fun k _ wr => k ≤ n ∧ Hid (Backing w wr wb H Z S0 k))
 case atStart => exact ⟨Nat.le_refl _, hstart⟩
 case round =>
  obtain ⟨hk, HR⟩ := hrel
  clear hstart
  obtain ⟨R, H', hl, hcb, hw, hu, hH⟩ := HR.out
  clear HR
  obtain ⟨g, cap, hd, hcap, hcm, hgs⟩ := trail_slice hw
  have c0 := hw.c0
  rw [hd] at c0
  unfold maxLen at hcm
  cases gk with
  | zero =>
   have e : R = S0 := hcb
   subst e
   have Hw := hide hw
   have HH := hide hH
   clear hw hH hl hcb hd hgs
   go_wp2
   go_end0
   exact ⟨rfl, H', Hw.out, hu, HH.out⟩
  | succ j =>
   obtain ⟨us, u, ht, ho, hcb'⟩ := hcb
   have hlu : R.trail.length = us.length + 1 := by rw [ht]; simp
   obtain ⟨b, rfl⟩ := hgs (by omega)
   rw [hlu] at c0 hd hcap
   have hul : us.length = S0.trail.length + j := by omega
   obtain ⟨hwp, v, hcell, hv, hfz⟩ := hw.pop (z := .nilFunc) ht hd
   have hfw := hw.free
   have hHp : ({ H' with backs := .slice (some ⟨b, 0, none⟩) us.length cap } : Hd).blocks wb = H'.blocks wb := blocks_backs (by rw [hd]; rfl)
   obtain ⟨f, caps, hf, rfl, hcall⟩ := un_any _ wb _ Z _ v u hwp (by rw [hHp]; exact hv) ho
   have HC := hide hcall
   have hne : b ≠ wb := fun e => by
    have := (Hd.parts hw.apart).b b (by rw [hd]; rfl)
    exact this.1 e
   have hgt : (S0.trail.length : Int) < (us.length : Int) + 1 := by omega
   have HU := hide hu
   have HB := hide (hHp.trans hH)
   have HT := hide hul
   have Hcb := hide hcb'
   have hbH : b ∈ H.blocks wb := by rw [← hH]; exact Hd.mem_backs (by rw [hd]; rfl)
   have hus : (us.length : Int) ≤ 9000000 := by omega
   have hcapI : (us.length : Int) < (cap : Int) := by omega
   clear hcall hv hwp hu hHp hH hul hcb' hl hlu ht ho hd hw
   rcases hf with rfl | rfl | rfl | rfl
   ·go_wp2_with (go_at_call 154; refine HC.out.mono ?_; rintro e w2 ⟨rfl, H2, hw2, hu2, hH2⟩)
    go_roundg j
    case measure => omega
    case rel => exact Backing.next HU.out HB.out HT.out Hcb.out hbH hw2 hu2 hH2 (undo1_trail _ _) (by omega)
   ·go_wp2_with (go_at_call 158; refine HC.out.mono ?_; rintro e w2 ⟨rfl, H2, hw2, hu2, hH2⟩)
    go_roundg j
    case measure => omega
    case rel => exact Backing.next HU.out HB.out HT.out Hcb.out hbH hw2 hu2 hH2 (undo1_trail _ _) (by omega)
   ·go_wp2_with (go_at_call 178; refine HC.out.mono ?_; rintro e w2 ⟨rfl, H2, hw2, hu2, hH2⟩)
    go_roundg j
    case measure => omega
    case rel => exact Backing.next HU.out HB.out HT.out Hcb.out hbH hw2 hu2 hH2 (undo1_trail _ _) (by omega)
   ·go_wp2_with (go_at_call 177; refine HC.out.mono ?_; rintro e w2 ⟨rfl, H2, hw2, hu2, hH2⟩)
    go_roundg j
    case measure => omega
    case rel => exact Backing.next HU.out HB.out HT.out Hcb.out hbH hw2 hu2 hH2 (undo1_trail _ _) (by omega)
end Go.Proofs.YtmfkpllnmmfpiaaGreatDoor

namespace Go.Proofs.YtmfkpllnmmfpiaaGreatDoor
open Go.RowKit
def contra {n : Nat} (x : Snt n) : Snt n := { x with eq := !x.eq }
theorem contra_narrow {n : Nat} {x : Snt n} (h : NarrowS x) : NarrowS (contra x) := h
set_option maxHeartbeats 1000000 in
theorem contrary_any (w : World) (a a' : ByteArray) (p p' : Int) (g g' : Option Addr) (ll cap ll' cap' : Nat) (b : Bool) :
  Calls Tryz.prog 98 #[.agg #[.string a, .int .i64 p, .slice g ll cap, .int .i64 (signInt b), .string a', .int .i64 p', .slice g' ll' cap']] w fun e w' => e = .returned (.agg #[.string a, .int .i64 p, .slice g ll cap, .int .i64 (signInt (!b)), .string a', .int .i64 p', .slice g' ll' cap']) ∧ Upd [] w w' := by
 cases b with
 | true =>
  show Calls _ _ #[.agg #[.string a, .int .i64 p, .slice g ll cap, .int .i64 0, .string a', .int .i64 p', .slice g' ll' cap']] _ _
  go_enter Tryz.func98, Tryz.ntmps98
  go_wp2
  refine bodyPost_ret (v := .agg #[.string a, .int .i64 p, .slice g ll cap, .int .i64 1, .string a', .int .i64 p', .slice g' ll' cap']) (by simp [results, Tryz.results98, go_sem]) rfl ?_
  exact ⟨rfl, ((Upd.refl [] w).alloc _).alloc _⟩
 | false =>
  show Calls _ _ #[.agg #[.string a, .int .i64 p, .slice g ll cap, .int .i64 1, .string a', .int .i64 p', .slice g' ll' cap']] _ _
  go_enter Tryz.func98, Tryz.ntmps98
  go_wp2
  refine bodyPost_ret (v := .agg #[.string a, .int .i64 p, .slice g ll cap, .int .i64 0, .string a', .int .i64 p', .slice g' ll' cap']) (by simp [results, Tryz.results98, go_sem]) rfl ?_
  exact ⟨rfl, ((Upd.refl [] w).alloc _).alloc _⟩
abbrev V7 := V3 × Int × V3
def v7 (c : V7) : List Value := [c.1.1, c.1.2.1, c.1.2.2, .int .i64 c.2.1, c.2.2.1, c.2.2.2.1, c.2.2.2.2]
def flat7 : List V7 → List Value
 | [] => []
 | c :: cs => v7 c ++ flat7 cs
abbrev SntX := (n : Nat) × Snt n
def IsX (w : World) (F : Nat → Prop) (c : V7) (x : SntX) : Prop := IsSnt w F x.1 c.1 c.2.1 c.2.2 x.2
theorem IsX.later {w w' : World} {L : List Nat} {F : Nat → Prop} {c : V7} {x : SntX} (h : IsX w F c x) (hu : Upd L w w') (hL : ∀ k, F k → k ∉ L) : IsX w' F c x := ⟨h.1.later hu hL, h.2.1, h.2.2.later hu hL⟩
theorem IsX.mono {w : World} {F F' : Nat → Prop} {c : V7} {x : SntX} (h : IsX w F c x) (hF : ∀ k, F k → k < w.heap.size → F' k) : IsX w F' c x := ⟨h.1.mono hF, h.2.1, h.2.2.mono hF⟩
theorem flat7_get {l : List V7} {i : Nat} {c : V7} (h : l[i]? = some c) : ∀ o, o < 7 → (flat7 l)[i * 7 + o]? = (v7 c)[o]? := by
 induction l generalizing i with
 | nil => simp at h
 | cons d ds ih =>
  intro o ho
  cases i with
  | zero =>
   simp at h
   subst h
   rw [flat7, Nat.zero_mul, Nat.zero_add, List.getElem?_append_left (by simp [v7]; omega)]
  | succ i =>
   have := ih (i := i) (by simpa using h) o ho
   rw [flat7, List.getElem?_append_right (by simp [v7]; omega), ← this]
   congr 1
   simp [v7]
   omega
theorem row7_cells {w : World} {base e g len cap n : Nat} {l : List V7} {c : V7} {i : Nat} (h : w.ownsRow base e 7 (.slice (some ⟨g, 0, none⟩) len cap) n (flat7 l)) (hi : l[i]? = some c) : ∀ o, o < 7 → w.cell? ⟨g, i * 7 + o, none⟩ = (v7 c)[o]? := by
 obtain ⟨hl, hr⟩ := h
 rcases hr with ⟨hv, _⟩ | ⟨g', cap', cur, hv, _, hg, _, _, hcs, htk⟩
 ·cases hv
 ·cases hv
  intro o ho
  have hc := flat7_get hi o ho
  have hs : (v7 c)[o]? ≠ none := by
   intro e
   rw [List.getElem?_eq_none_iff] at e
   simp [v7] at e
   omega
  obtain ⟨u, hu⟩ := Option.ne_none_iff_exists'.1 hs
  rw [hu] at hc ⊢
  rw [cell_of_row w g _ cur e (0, 0) hg]
  rw [← htk, List.getElem?_take] at hc
  split at hc
  ·simpa using hc
  ·cases hc
def sayAll (S : WS) : List SntX → WS
 | [] => S
 | x :: l => sayAll (sayM S x.2) l
theorem sayAll_snoc (S : WS) (l : List SntX) (x : SntX) : sayAll S (l ++ [x]) = sayM (sayAll S l) x.2 := by
 induction l generalizing S with
 | nil => rfl
 | cons y l ih => exact ih _
def sizeX (x : SntX) : Nat := sizeS x.2
def NarrowX (x : SntX) : Prop := NarrowS x.2
structure SaidAll (S T : WS) (m k : Nat) : Prop where
 fine : Fine T
 len : T.shapes.length ≤ S.shapes.length + m
 said : T.said.length = S.said.length + k
 goes : ∀ S0, Goes S0 S → Goes S0 T
def RoomX (S : WS) : List SntX → Prop
 | [] => S.shapes.length ≤ 400
 | x :: l => S.shapes.length + sizeX x ≤ 400 ∧ RoomX (sayM S x.2) l
structure SaidRoom (S T : WS) (k : Nat) : Prop where
 fine : Fine T
 len : T.shapes.length ≤ 400
 said : T.said.length = S.said.length + k
 goes : ∀ S0, Goes S0 S → Goes S0 T
theorem sayAll_room : ∀ (l : List SntX) (S : WS), Fine S → allOf NarrowX l → RoomX S l → SaidRoom S (sayAll S l) l.length
 | [], _, h, _, hr => ⟨h, hr, rfl, fun _ h => h⟩
 | x :: l, S, h, hx, hn => by
  have E := sayM_end h.web hx.1 hn.1
  obtain ⟨i, j, _, _, hs⟩ := E.said
  have h1 := sayAll_room l (sayM S x.2) ⟨E.web, E.pot h.pot⟩ hx.2 hn.2
  have h3 := h1.said
  rw [hs] at h3
  simp only [List.length_append, List.length_singleton] at h3
  exact ⟨h1.fine, h1.len, by simp only [sayAll, List.length_cons]; omega, fun S0 h0 => h1.goes S0 (E.goes S0 h0)⟩
theorem RoomX.take : ∀ {l : List SntX} {S : WS}, Fine S → allOf NarrowX l → RoomX S l → ∀ j, RoomX S (l.take j)
 | [], _, _, _, h, j => by simpa using h
 | x :: l, S, hF, hx, h, 0 => by
  show S.shapes.length ≤ 400
  have := h.1
  omega
 | x :: l, S, hF, hx, h, j + 1 => by
  have E := sayM_end hF.web hx.1 h.1
  exact ⟨h.1, RoomX.take ⟨E.web, E.pot hF.pot⟩ hx.2 h.2 j⟩
theorem RoomX.get : ∀ {l : List SntX} {S : WS}, Fine S → allOf NarrowX l → RoomX S l → ∀ (j : Nat) (hj : j < l.length), (sayAll S (l.take j)).shapes.length + sizeX l[j] ≤ 400
 | [], _, _, _, _, j, hj => absurd hj (Nat.not_lt_zero _)
 | x :: l, S, hF, hx, h, 0, _ => h.1
 | x :: l, S, hF, hx, h, j + 1, hj => by
  have E := sayM_end hF.web hx.1 h.1
  exact RoomX.get (l := l) ⟨E.web, E.pot hF.pot⟩ hx.2 h.2 j (by simpa using hj)
theorem RoomX.one {S : WS} (hF : Fine S) {x : SntX} (hx : NarrowX x) (h : S.shapes.length + sizeX x ≤ 400) : RoomX S [x] := ⟨h, by
 have E := sayM_end hF.web hx h
 have := E.len
 unfold sizeX at h
 show (sayM S x.2).shapes.length ≤ 400
 omega⟩
end Go.Proofs.YtmfkpllnmmfpiaaGreatDoor

namespace Go.Proofs.YtmfkpllnmmfpiaaGreatDoor
open Go.RowKit
structure Withs (w wr : World) (wb : Nat) (H : Hd) (Z : Nat → Prop) (T : WS) : Prop where
 ex : ∃ H', WebAt wr wb H' (fun k => Z k ∨ w.heap.size ≤ k) T ∧ ∀ k ∈ H'.blocks wb, k ∈ H.blocks wb ∨ w.heap.size ≤ k
 upd : Upd (H.blocks wb) w wr
theorem allOf_mem {α : Type} {p : α → Prop} : ∀ {l : List α} {x : α}, allOf p l → x ∈ l → p x
 | _ :: _, _, h, hm => by
  simp only [List.mem_cons] at hm
  rcases hm with rfl | hm
  ·exact h.1
  ·exact allOf_mem h.2 hm
set_option maxHeartbeats 4000000 in
set_option maxRecDepth 100000 in
theorem clashWith_any (w : World) (wb : Nat) (H : Hd) (Z F : Nat → Prop) (S : WS) (v : Value) (cs : List V7) (xs : List SntX) (h : WebAt w wb H Z S) (hrow : w.ownsRow 0 101 7 v xs.length (flat7 cs)) (hvF : ∀ k, v.ownBlock = some k → F k) (hall : AllIs (IsX w F) cs xs) (hFZ : ∀ k, F k → ¬ Z k)
  (hF : Fine S) (hx : allOf NarrowX xs) (hn : RoomX S xs) (hsd : S.said.length + xs.length ≤ 900) :
  Calls Tryz.prog 97 #[.pointer (some ⟨wb, 0, none⟩), v] w fun e w' => e = .returned (.bool (clashM (sayAll S xs))) ∧ ∃ H', WebAt w' wb H' (fun k => Z k ∨ w.heap.size ≤ k) S ∧ Upd (H.blocks wb) w w' ∧ ∀ k ∈ H'.blocks wb, k ∈ H.blocks wb ∨ w.heap.size ≤ k := by
 obtain ⟨g, l, cap, hv, hl, hlc, hcm, hg⟩ : ∃ (g : Option Addr) (l cap : Nat), v = .slice g l cap ∧ l = xs.length ∧ l ≤ cap ∧ cap ≤ maxLen ∧ (0 < l → ∃ b, g = some ⟨b, 0, none⟩) := by
  rcases ownsRow_slice hrow with ⟨h1, h2⟩ | ⟨g, cap, h1, h2, h3⟩
  ·exact ⟨none, 0, 0, h1, h2.symm, Nat.le_refl _, Nat.zero_le _, fun h => by omega⟩
  ·exact ⟨_, _, cap, h1, rfl, h2, h3, fun _ => ⟨g, rfl⟩⟩
 subst hv
 have hstart : Withs w w wb H Z S := ⟨⟨H, h.mono (fun k hk _ => .inl hk), fun k hk => .inl hk⟩, Upd.refl _ _⟩
 have HHere := hide (here_any w wb H Z S h)
 have hlt := h.lt
 have Hl := hide hl
 have HG := hide hg
 have HS := hide (fun (ys : List SntX) h1 h2 => sayAll_room ys S hF h1 h2)
 have HRm := hide (fun (j : Nat) => hn.take hF hx j)
 have HRg := hide (fun (j : Nat) (hj : j < xs.length) => hn.get hF hx j hj)
 have HRn := hide hn
 have HNo : Hid (∀ k, F k → k < w.heap.size → k ∉ H.blocks wb) := fun k hk _ hm => hFZ k hk (h.inZ k hm)
 have Hrow := hide hrow
 have Hall := hide hall
 have HvF := hide hvF
 have Hx := hide hx
 have Hh := hide h
 unfold maxLen at hcm
 have hl9 : l ≤ 900 := by omega
 clear hrow hall hvF hx hl hg h hn
 go_enter Tryz.func97, Tryz.ntmps97
 go_wp2_with (go_at_call 56; refine HHere.out.mono ?_; rintro e w2 ⟨rfl, hw2⟩; rw [hw2]; clear hw2 w2)
 go_loopw [15] (fun i wr => ∃ j : Nat, j ≤ l ∧ i = .int .i64 j ∧ Hid (Withs w wr wb H Z (sayAll S (xs.take j)))) (fun i _ => l - (intOf i).toNat)
 case atStart => exact ⟨0, Nat.zero_le _, rfl, hstart⟩
 case round =>
  obtain ⟨j, hj, rfl, HR⟩ := hrel
  clear hstart
  by_cases hjl : j < l
  ·have hjl' : (j : Int) < (l : Int) := by omega
   have hjx : j < xs.length := by rw [← Hl.out]; exact hjl
   obtain ⟨b, rfl⟩ := HG.out (by omega)
   obtain ⟨c, hck, hic⟩ := Hall.out.get (i := j) (List.getElem?_eq_getElem hjx)
   have hb0 : b < w.heap.size := ownsRow_lt Hrow.out rfl
   have hbF : F b := HvF.out b rfl
   have hbH := HNo.out b hbF hb0
   have hcells := row7_cells Hrow.out hck
   have upd := HR.out.upd
   obtain ⟨H', hw', hH'⟩ := HR.out.ex
   have E := HS.out (xs.take j) (allOf_take j Hx.out) (HRm.out j)
   have hsz := HRg.out j hjx
   have hle := E.len
   have hsaid := E.said
   simp only [List.length_take] at hsaid
   obtain ⟨cl, k, cr⟩ := c
   obtain ⟨a, p, g2, l2, cap2, hcl⟩ := hic.1.form
   obtain ⟨a', p', g2', l2', cap2', hcr⟩ := hic.2.2.form
   simp only at hcl hcr
   subst hcl hcr
   have m0 : wr.cell? ⟨b, j * 7, none⟩ = some (.string a) := (upd.cell (p := ⟨b, j * 7, none⟩) hb0 hbH).trans (hcells 0 (by omega))
   have m1 : wr.cell? ⟨b, j * 7 + 1, none⟩ = some (.int .i64 p) := (upd.cell (p := ⟨b, j * 7 + 1, none⟩) hb0 hbH).trans (hcells 1 (by omega))
   have m2 : wr.cell? ⟨b, j * 7 + 2, none⟩ = some (.slice g2 l2 cap2) := (upd.cell (p := ⟨b, j * 7 + 2, none⟩) hb0 hbH).trans (hcells 2 (by omega))
   have m3 : wr.cell? ⟨b, j * 7 + 3, none⟩ = some (.int .i64 k) := (upd.cell (p := ⟨b, j * 7 + 3, none⟩) hb0 hbH).trans (hcells 3 (by omega))
   have m4 : wr.cell? ⟨b, j * 7 + 4, none⟩ = some (.string a') := (upd.cell (p := ⟨b, j * 7 + 4, none⟩) hb0 hbH).trans (hcells 4 (by omega))
   have m5 : wr.cell? ⟨b, j * 7 + 5, none⟩ = some (.int .i64 p') := (upd.cell (p := ⟨b, j * 7 + 5, none⟩) hb0 hbH).trans (hcells 5 (by omega))
   have m6 : wr.cell? ⟨b, j * 7 + 6, none⟩ = some (.slice g2' l2' cap2') := (upd.cell (p := ⟨b, j * 7 + 6, none⟩) hb0 hbH).trans (hcells 6 (by omega))
   have s1 := upd.size
   have HC := hide (fun (X : Obj) => webSay_any (wr.alloc X) wb xs[j].1 H' (fun k => (Z k ∨ w.heap.size ≤ k) ∧ k < wr.heap.size) (fun k => F k ∧ k < w.heap.size) (sayAll S (xs.take j)) (.string a, .int .i64 p, .slice g2 l2 cap2) (.string a', .int .i64 p', .slice g2' l2' cap2') k xs[j].2
    ((hw'.mono (fun k hk hl => ⟨hk, hl⟩)).later ((Upd.refl [] wr).alloc X) (fun _ _ => by simp))
    (((hic.mono (F' := fun k => F k ∧ k < w.heap.size) fun k hk hl => ⟨hk, hl⟩).later upd (fun k hk => HNo.out k hk.1 hk.2)).later ((Upd.refl [] wr).alloc X) (fun _ _ => by simp))
    (fun k hk hz => by
     rcases hz.1 with hz | hz
     ·exact hFZ k hk.1 hz
     ·have := hk.2; omega) (fun k hk => by have := hk.2; simp; omega) E.fine (allOf_get hjx Hx.out) (by show _ + sizeX xs[j] ≤ 400; omega) (by omega))
   have hstep : Hid (sayAll S (xs.take (j + 1)) = sayM (sayAll S (xs.take j)) xs[j].2) := by
    show _ = _
    rw [List.take_succ_eq_append_getElem hjx, sayAll_snoc]
   have HH' := hide hH'
   have Hupd := hide upd
   clear hcells hw' hH' upd E hic hck hle hsaid hsz
   simp only at HC
   generalize sayAll S (xs.take j) = R at *
   generalize sayM R xs[j].2 = R2 at *
   go_wp2_with (go_at_call 57; refine (HC.out _).mono ?_; rintro e w2 ⟨H2, rfl, hw2, hu2, hH2⟩; have Hw2 := hide hw2; have Hu2 := hide hu2; have HH2 := hide hH2; clear hw2 hu2 hH2)
   refine ⟨⟨j + 1, by omega, by go_num, ?_⟩, by simp [intOf]; omega⟩
   show Withs _ _ _ _ _ _
   rw [hstep.out]
   refine ⟨⟨H2, Hw2.out.mono (fun k hk _ => ?_), fun k hk => ?_⟩, (Hupd.out.alloc _).trans' Hu2.out (fun k hk hl => ?_)⟩
   ·rcases hk with hk | hk
    ·exact hk.1
    ·simp only [World.size_alloc] at hk
     exact .inr (by omega)
   ·rcases HH2.out k hk with h1 | h1
    ·exact HH'.out k h1
    ·simp only [World.size_alloc] at h1
     exact .inr (by omega)
   ·rcases HH'.out k hk with h1 | h1
    ·exact h1
    ·omega
  ·obtain rfl : j = l := by omega
   have hge : ¬ (j : Int) < (j : Int) := by omega
   have htk : xs.take j = xs := List.take_of_length_le (by rw [← Hl.out]; omega)
   have hR := HR.out
   rw [htk] at hR
   obtain ⟨H', hw', hH'⟩ := hR.ex
   have upd := hR.upd
   have E := HS.out xs Hx.out HRn.out
   have hE1 := E.said
   have hE2 := E.len
   have hE3 := (E.fine.trail (by omega) (by omega)).1
   have HCl := hide (webClash_any wr wb H' (fun k => Z k ∨ w.heap.size ≤ k) (sayAll S xs) hw' E.fine.web.base.saidLt (by omega))
   have HBk := hide (fun (w2 : World) (hu : Upd [] wr w2) => backTo_any w2 wb H' (fun k => Z k ∨ w.heap.size ≤ k) (sayAll S xs) S (hw'.later hu (fun _ _ => by simp)) (E.goes S (Goes.refl S)) (by omega))
   have HH' := hide hH'
   have Hupd := hide upd
   clear hR hw' hH' upd E hE1 hE2 hE3 htk HR
   go_wp2_with (first
    | (go_at_call 45; refine HCl.out.mono ?_; rintro e w2 ⟨rfl, hu2⟩; have Hu2 := hide hu2; clear hu2)
    | (go_at_call 59; refine (HBk.out w2 Hu2.out).mono ?_; rintro e w3 ⟨rfl, H3, hw3, hu3, hH3⟩; have Hw3 := hide hw3; have Hu3 := hide hu3; have HH3 := hide hH3; clear hw3 hu3 hH3))
   go_ret
   refine ⟨rfl, H3, Hw3.out, (Hupd.out.trans (Hu2.out.mono (fun x hx _ => by cases hx))).trans' Hu3.out (fun k hk hl => ?_), fun k hk => ?_⟩
   ·rcases HH'.out k hk with h1 | h1
    ·exact h1
    ·omega
   ·rw [HH3.out] at hk
    exact HH'.out k hk
def followsM {n : Nat} (S : WS) (x : Snt n) : Bool := clashM (sayM S (contra x))
set_option maxHeartbeats 2000000 in
set_option maxRecDepth 100000 in
theorem webFollows_any (w : World) (wb n : Nat) (H : Hd) (Z F : Nat → Prop) (S : WS) (l r : V3) (k : Int) (x : Snt n) (h : WebAt w wb H Z S) (hs : IsSnt w F n l k r x) (hFZ : ∀ k, F k → ¬ Z k) (hZ : ∀ k, Z k → k < w.heap.size)
  (hF : Fine S) (hx : NarrowS x) (hn : S.shapes.length + sizeS x ≤ 400) (hsd : S.said.length + 1 ≤ 900) :
  Calls Tryz.prog 60 #[.pointer (some ⟨wb, 0, none⟩), .agg #[l.1, l.2.1, l.2.2, .int .i64 k, r.1, r.2.1, r.2.2]] w fun e w' => e = .returned (.bool (followsM S x)) ∧ ∃ H', WebAt w' wb H' (fun k => Z k ∨ w.heap.size ≤ k) S ∧ Upd (H.blocks wb) w w' ∧ ∀ k ∈ H'.blocks wb, k ∈ H.blocks wb ∨ w.heap.size ≤ k := by
 obtain ⟨hl, hk, hr⟩ := hs
 obtain ⟨a, p, g, ll, cap, rfl⟩ := hl.form
 obtain ⟨a', p', g', ll', cap', rfl⟩ := hr.form
 simp only
 subst hk
 have HC := hide (fun (w2 : World) => contrary_any w2 a a' p p' g g' ll cap ll' cap' x.eq)
 have HW := hide (fun (w2 : World) (hu : Upd [] w w2) =>
  let U := hu.alloc (.cells #[.string a, .int .i64 p, .slice g ll cap, .int .i64 (signInt (!x.eq)), .string a', .int .i64 p', .slice g' ll' cap'] 101)
  let hs : ∀ k, Z k → k ≠ w2.heap.size := fun k hk e => by have h1 := hZ k hk; have h2 := hu.size; omega
  clashWith_any (w2.alloc (.cells #[.string a, .int .i64 p, .slice g ll cap, .int .i64 (signInt (!x.eq)), .string a', .int .i64 p', .slice g' ll' cap'] 101)) wb H Z (fun k => F k ∨ k = w2.heap.size) S (.slice (some ⟨w2.heap.size, 0, none⟩) 1 1)
   [((.string a, .int .i64 p, .slice g ll cap), signInt (!x.eq), (.string a', .int .i64 p', .slice g' ll' cap'))] [⟨n, contra x⟩] (h.later U (fun _ _ => by simp)) (World.ownsRow_lit w2 _ 1 (Nat.zero_le _) (by simp [maxLen]) rfl) (fun k hk => .inr (by simpa [Value.ownBlock] using hk.symm))
   ⟨⟨(hl.later U (fun _ _ => by simp)).mono (fun k hk _ => .inl hk), rfl, (hr.later U (fun _ _ => by simp)).mono (fun k hk _ => .inl hk)⟩, trivial⟩
   (fun k hk hz => hk.elim (fun h => hFZ k h hz) (hs k hz)) hF ⟨contra_narrow hx, trivial⟩ (RoomX.one hF (contra_narrow hx) hn) (by simpa using hsd))
 have Hh := hide (⟨h.lt, h.mem_lt⟩ : _ ∧ _)
 clear h hl hr
 go_enter Tryz.func60, Tryz.ntmps60
 go_wp2_with (first
  | (go_at_call 98; refine (HC.out _).mono ?_; rintro e w2 ⟨rfl, hu2⟩; have Hu2 := hide hu2; clear hu2)
  | (go_at_call 97; refine (HW.out w2 (((Upd.refl [] w).alloc _).trans Hu2.out)).mono ?_; rintro e w3 ⟨rfl, H3, hw3, hu3, hH3⟩; have Hw3 := hide hw3; have Hu3 := hide hu3; have HH3 := hide hH3; clear hw3 hu3 hH3))
 go_ret
 have U2 := ((Upd.refl [] w).alloc _).trans Hu2.out
 have s2 := U2.size
 have U3 := U2.alloc (.cells #[.string a, .int .i64 p, .slice g ll cap, .int .i64 (signInt (!x.eq)), .string a', .int .i64 p', .slice g' ll' cap'] 101)
 have s3 := U3.size
 exact ⟨rfl, H3, Hw3.out.mono (fun k hk _ => hk.imp id (fun h => by omega)), (U3.mono (fun x hx _ => by cases hx)).trans Hu3.out, fun k hk => (HH3.out k hk).imp id (fun h => by omega)⟩
end Go.Proofs.YtmfkpllnmmfpiaaGreatDoor
