/-
  Plain: what follows about a function that, so often, gives the thing again.
-/
import Derived.Test.YtmfkpllnmmfpiaaGreatDoorWithH
namespace Go.Proofs.YtmfkpllnmmfpiaaGreatDoor
open Go.RowKit

/-- Every term in a term has a name and a number of parts that are so. -/
def AllTm (Q : ByteArray → Nat → Prop) : (n : Nat) → Tm n → Prop
  | 0, _ => True
  | n + 1, t => Q t.name t.parts.length ∧ allOf (AllTm Q n) t.parts
def Only (Q : ByteArray → Nat → Prop) (S : WS) : Prop := ∀ (i : Nat) (s : Sh), S.shapes[i]? = some s → Q s.1 s.2.1
theorem Only.enter {Q : ByteArray → Nat → Prop} {S : WS} (h : Only Q S) {s : Sh} (hs : Q s.1 s.2.1) : Only Q (enterM S s).2 := fun i t hi => by
  have e : (enterM S s).2.shapes = S.shapes ++ [s] := by
    show (fileM S s S.shapes.length).2.shapes ++ [s] = _
    rw [(fileM_rows S s S.shapes.length).1]
  rw [e] at hi
  rcases getElem?_snoc_lt hi with ⟨_, h1⟩ | ⟨_, rfl⟩
  · exact h i t h1
  · exact hs
theorem Only.addAll {Q : ByteArray → Nat → Prop} {α : Type} {f : WS → α → Nat × WS} {ok : α → Prop} (hf : ∀ S x, ok x → Only Q S → Only Q (f S x).2) : ∀ (l : List α) (S : WS), allOf ok l → Only Q S → Only Q (addAll f S l).2
  | [], _, _, h => h
  | x :: l, S, hok, h => Only.addAll hf l _ hok.2 (hf S x hok.1 h)
theorem addAll_length {α : Type} {f : WS → α → Nat × WS} : ∀ (l : List α) (S : WS), (addAll f S l).1.length = l.length
  | [], _ => rfl
  | x :: l, S => by simp [addAll, addAll_length l]
theorem Only.addM {Q : ByteArray → Nat → Prop} : ∀ (n : Nat) (S : WS) (t : Tm n), AllTm Q n t → Only Q S → Only Q (addM n S t).2
  | 0, _, _, _, h => h
  | n + 1, S, t, ht, h => by
    have h1 := Only.addAll (fun S x => Only.addM n S x) t.parts S ht.2 h
    unfold Go.Proofs.YtmfkpllnmmfpiaaGreatDoor.addM
    simp only
    split
    · exact h1
    · exact h1.enter (by show Q t.name (Go.Proofs.YtmfkpllnmmfpiaaGreatDoor.addAll _ _ _).1.length; rw [addAll_length]; exact ht.1)
theorem Only.same {Q : ByteArray → Nat → Prop} {S T : WS} (h : Only Q S) (e : T.shapes = S.shapes) : Only Q T := fun i s hi => h i s (by rw [← e]; exact hi)
theorem sayM_shapes {n : Nat} {S : WS} (h : Web S) {x : Snt n} (hx : NarrowS x) (hr : S.shapes.length + sizeS x ≤ 400) : (sayM S x).shapes = (Go.Proofs.YtmfkpllnmmfpiaaGreatDoor.addM n (Go.Proofs.YtmfkpllnmmfpiaaGreatDoor.addM n S x.left).2 x.right).2.shapes := by
  obtain ⟨⟨a1, a2⟩, a3⟩ := addM_end n S x.left h hx.1
  have a4 := addM_adds n S x.left h.base.inv hx.1
  obtain ⟨⟨b1, b2⟩, b3⟩ := addM_end n (Go.Proofs.YtmfkpllnmmfpiaaGreatDoor.addM n S x.left).2 x.right a1 hx.2
  have b4 := addM_adds n (Go.Proofs.YtmfkpllnmmfpiaaGreatDoor.addM n S x.left).2 x.right a1.base.inv hx.2
  unfold sizeS at hr
  unfold sayM
  simp only
  generalize (Go.Proofs.YtmfkpllnmmfpiaaGreatDoor.addM n S x.left).2 = P at *
  generalize (Go.Proofs.YtmfkpllnmmfpiaaGreatDoor.addM n S x.left).1 = i at *
  generalize (Go.Proofs.YtmfkpllnmmfpiaaGreatDoor.addM n P x.right).2 = Q at *
  generalize (Go.Proofs.YtmfkpllnmmfpiaaGreatDoor.addM n P x.right).1 = j at *
  have l1 := a4.hi
  have l2 := b4.hi
  have l3 := b4.lo
  have e1 := b1.base.inv.len
  split
  · have hJ := b1.joining (i := i) (j := j) (by have := a4.lt; omega) (by have := b4.lt; omega)
    exact (joinF_end _ _ _ hJ (by simp only [noteM]; omega) (Nat.le_refl (need [(i, j)] (noteM Q (0, i, j))))).joined.shapes
  · rfl
theorem Only.say {Q : ByteArray → Nat → Prop} {n : Nat} {S : WS} (ho : Only Q S) (h : Web S) {x : Snt n} (hx : NarrowS x) (hr : S.shapes.length + sizeS x ≤ 400) (hl : AllTm Q n x.left) (hrr : AllTm Q n x.right) : Only Q (sayM S x) :=
  (Only.addM n _ _ hrr (Only.addM n S x.left hl ho)).same (sayM_shapes h hx hr)

def nA : ByteArray := ⟨#[97]⟩
def nF : ByteArray := ⟨#[102]⟩
/-- The number p stands for f so often of a. -/
def PowAt (S : WS) : Nat → Nat → Prop
  | 0, p => S.shapes[p]? = some (nA, 0, 0, 0, 0)
  | e + 1, p => ∃ q, S.shapes[p]? = some (nF, 1, q, 0, 0) ∧ PowAt S e q
def onlyAF (a : ByteArray) (k : Nat) : Prop := (a = nA ∧ k = 0) ∨ (a = nF ∧ k = 1)
theorem nA_ne : nA ≠ nF := by decide
theorem PowAt.mono {S T : WS} (h : ∀ (i : Nat) (s : Sh), S.shapes[i]? = some s → T.shapes[i]? = some s) : ∀ {e p : Nat}, PowAt S e p → PowAt T e p
  | 0, _, hp => h _ _ hp
  | _ + 1, _, ⟨q, h1, h2⟩ => ⟨q, h _ _ h1, h2.mono h⟩
theorem PowAt.inj {S : WS} (hB : Base S) : ∀ {e p q : Nat}, PowAt S e p → PowAt S e q → p = q
  | 0, _, _, h1, h2 => hB.inj h1 h2
  | _ + 1, _, _, ⟨a, h1, h2⟩, ⟨b, h3, h4⟩ => by
    obtain rfl := h2.inj hB h4
    exact hB.inj h1 h3
theorem PowAt.fn {S : WS} : ∀ {e f p : Nat}, PowAt S e p → PowAt S f p → e = f
  | 0, 0, _, _, _ => rfl
  | 0, _ + 1, _, h1, ⟨q, h3, _⟩ => by
    have h1' : S.shapes[_]? = some (nA, 0, 0, 0, 0) := h1
    rw [h1'] at h3
    simp at h3
  | _ + 1, 0, _, ⟨q, h3, _⟩, h1 => by
    have h1' : S.shapes[_]? = some (nA, 0, 0, 0, 0) := h1
    rw [h1'] at h3
    simp at h3
  | e + 1, f + 1, _, ⟨a, h1, h2⟩, ⟨b, h3, h4⟩ => by
    rw [h1] at h3
    simp only [Option.some.injEq, Prod.mk.injEq, true_and, and_true] at h3
    subst h3
    rw [h2.fn h4]
theorem PowAt.lt {S : WS} {e p : Nat} (h : PowAt S e p) : p < S.shapes.length := by
  cases e with
  | zero => exact (List.getElem?_eq_some_iff.1 h).1
  | succ e => obtain ⟨q, h1, _⟩ := h; exact (List.getElem?_eq_some_iff.1 h1).1
theorem PowAt.down {S : WS} : ∀ {e p : Nat}, PowAt S e p → ∀ f, f ≤ e → ∃ q, PowAt S f q
  | 0, p, h, f, hf => ⟨p, by rw [show f = 0 by omega]; exact h⟩
  | e + 1, p, h, f, hf => by
    by_cases e1 : f = e + 1
    · subst e1; exact ⟨p, h⟩
    · obtain ⟨q, _, h2⟩ := h
      exact h2.down f (by omega)

/-- The relation that keeps just the rest by g. -/
def modR (S : WS) (g p q : Nat) : Prop := p = q ∨ ∃ e f, PowAt S e p ∧ PowAt S f q ∧ e % g = f % g
theorem modR_closed {S : WS} (hB : Base S) (ho : Only onlyAF S) {g : Nat} (hsaid : ∀ x ∈ S.said, x.1 = 0 → modR S g x.2.1 x.2.2) : Closed S (modR S g) := by
  refine ⟨fun i => .inl rfl, fun i j h => ?_, fun i j k h1 h2 => ?_, hsaid, fun i j s t hi hj h0 h1 hp => ?_⟩
  · rcases h with h | ⟨e, f, h1, h2, h3⟩
    · exact .inl h.symm
    · exact .inr ⟨f, e, h2, h1, h3.symm⟩
  · rcases h1 with rfl | ⟨e, f, h1, h3, h4⟩
    · exact h2
    · rcases h2 with rfl | ⟨e', f', h5, h6, h7⟩
      · exact .inr ⟨e, f, h1, h3, h4⟩
      · obtain rfl := h3.fn h5
        exact .inr ⟨e, f', h1, h6, h4.trans h7⟩
  · have gs := hB.good i s hi
    have gt := hB.good j t hj
    rcases ho i s hi with ⟨n0, c0⟩ | ⟨n0, c0⟩
    · have : s = t := Sh.ext' h0 h1 fun k hk => by rw [gs.rest k (by omega) hk, gt.rest k (by omega) hk]
      subst this
      exact .inl (hB.inj hi hj)
    · have hs : s = (nF, 1, partAt s 0, 0, 0) := Sh.ext' n0 c0 fun k hk => by
        match k, hk with
        | 0, _ => rfl
        | 1, _ => exact gs.rest 1 (by omega) (by omega)
        | 2, _ => exact gs.rest 2 (by omega) (by omega)
        | k + 3, hk => omega
      have htt : t = (nF, 1, partAt t 0, 0, 0) := Sh.ext' (by rw [← h0]; exact n0) (by rw [← h1]; exact c0) fun k hk => by
        match k, hk with
        | 0, _ => rfl
        | 1, _ => exact gt.rest 1 (by omega) (by omega)
        | 2, _ => exact gt.rest 2 (by omega) (by omega)
        | k + 3, hk => omega
      rcases hp 0 (by omega) with he | ⟨e, f, p1, p2, p3⟩
      · rw [he, ← htt] at hs
        rw [hs] at hi
        exact .inl (hB.inj hi hj)
      · rw [hs] at hi
        rw [htt] at hj
        exact .inr ⟨e + 1, f + 1, ⟨_, hi, p1⟩, ⟨_, hj, p2⟩, by rw [Nat.add_mod e, p3, ← Nat.add_mod]⟩

/-- Numbers that a closed relation makes one. -/
def PRel (S : WS) (R : Nat → Nat → Prop) (e f : Nat) : Prop := ∃ p q, PowAt S e p ∧ PowAt S f q ∧ R p q
section
variable {S : WS} {R : Nat → Nat → Prop}
theorem PRel.symm (hR : Closed S R) {e f : Nat} (h : PRel S R e f) : PRel S R f e := let ⟨p, q, h1, h2, h3⟩ := h; ⟨q, p, h2, h1, hR.symm _ _ h3⟩
theorem PRel.trans (hB : Base S) (hR : Closed S R) {e f g : Nat} (h : PRel S R e f) (k : PRel S R f g) : PRel S R e g := by
  obtain ⟨p, q, h1, h2, h3⟩ := h
  obtain ⟨q', r, k1, k2, k3⟩ := k
  obtain rfl := h2.inj hB k1
  exact ⟨p, r, h1, k2, hR.trans _ _ _ h3 k3⟩
theorem PRel.succ (hB : Base S) (hR : Closed S R) {e f : Nat} (h : PRel S R e f) (he : ∃ p, PowAt S (e + 1) p) (hf : ∃ p, PowAt S (f + 1) p) : PRel S R (e + 1) (f + 1) := by
  obtain ⟨p, q, h1, h2, h3⟩ := h
  obtain ⟨p', a, g1, g2⟩ := he
  obtain ⟨q', b, g3, g4⟩ := hf
  obtain rfl := h1.inj hB g2
  obtain rfl := h2.inj hB g4
  refine ⟨p', q', ⟨p, g1, h1⟩, ⟨q, g3, h2⟩, hR.cong _ _ _ _ g1 g3 rfl rfl fun k hk => ?_⟩
  have hk' : k < 1 := hk
  obtain rfl : k = 0 := by omega
  exact h3
theorem PRel.shift (hB : Base S) (hR : Closed S R) {K : Nat} (hK : ∀ f, f ≤ K → ∃ q, PowAt S f q) {e f : Nat} (h : PRel S R e f) : ∀ d, e + d ≤ K → f + d ≤ K → PRel S R (e + d) (f + d)
  | 0, _, _ => h
  | d + 1, h1, h2 => (PRel.shift hB hR hK h d (by omega) (by omega)).succ hB hR (hK _ (by omega)) (hK _ (by omega))
theorem PRel.gcd (hB : Base S) (hR : Closed S R) {K : Nat} (hK : ∀ f, f ≤ K → ∃ q, PowAt S f q) : ∀ (s m n : Nat), m + n ≤ s → m ≤ K → n ≤ K → PRel S R 0 m → PRel S R 0 n → PRel S R 0 (Nat.gcd m n)
  | s, 0, n, _, _, _, _, hn => by rw [Nat.gcd_zero_left]; exact hn
  | s, m + 1, 0, _, _, _, hm, _ => by rw [Nat.gcd_zero_right]; exact hm
  | 0, m + 1, n + 1, hs, _, _, _, _ => by omega
  | s + 1, m + 1, n + 1, hs, hm, hn, h1, h2 => by
    by_cases hle : n ≤ m
    · obtain ⟨d, rfl⟩ : ∃ d, m = n + d := ⟨m - n, by omega⟩
      have h3 : PRel S R d (n + 1 + d) := by
        have := h2.shift hB hR hK d (by omega) (by omega)
        rwa [Nat.zero_add] at this
      have h4 : PRel S R 0 d := h1.trans hB hR (by rw [show n + d + 1 = n + 1 + d by omega]; exact h3.symm hR)
      have := PRel.gcd hB hR hK s d (n + 1) (by omega) (by omega) hn h4 h2
      rwa [show n + d + 1 = d + (n + 1) by omega, Nat.gcd_add_self_left]
    · obtain ⟨d, rfl⟩ : ∃ d, n = m + d := ⟨n - m, by omega⟩
      have h3 : PRel S R d (m + 1 + d) := by
        have := h1.shift hB hR hK d (by omega) (by omega)
        rwa [Nat.zero_add] at this
      have h4 : PRel S R 0 d := h2.trans hB hR (by rw [show m + d + 1 = m + 1 + d by omega]; exact h3.symm hR)
      have := PRel.gcd hB hR hK s (m + 1) d (by omega) hm (by omega) h1 h4
      rwa [show m + d + 1 = d + (m + 1) by omega, Nat.gcd_add_self_right]
theorem PRel.times (hB : Base S) (hR : Closed S R) {K : Nat} (hK : ∀ f, f ≤ K → ∃ q, PowAt S f q) {g : Nat} (hg : PRel S R 0 g) : ∀ t, g * t ≤ K → PRel S R 0 (g * t)
  | 0, _ => by
    obtain ⟨p, q, h1, _, _⟩ := hg
    exact ⟨p, p, h1, h1, hR.refl _⟩
  | t + 1, h => by
    rw [Nat.mul_add, Nat.mul_one] at h ⊢
    have h1 := PRel.times hB hR hK hg t (by omega)
    have h2 := hg.shift hB hR hK (g * t) (by omega) (by omega)
    rw [Nat.zero_add, Nat.add_comm g] at h2
    exact h1.trans hB hR h2
end
/-- f so often of a, a: equal just if the greatest number that parts both parts this one. -/
theorem pow_eq_iff {S : WS} (h : Web S) (ho : Only onlyAF S) {m n k i1 j1 i2 j2 p q : Nat} (hp1 : PowAt S m i1) (hq1 : PowAt S 0 j1) (hp2 : PowAt S n i2) (hq2 : PowAt S 0 j2) (hp : PowAt S k p) (hq : PowAt S 0 q)
    (hsaid : ∀ x ∈ S.said, x.1 = 0 → x.2 = (i1, j1) ∨ x.2 = (i2, j2)) (hin1 : (0, i1, j1) ∈ S.said) (hin2 : (0, i2, j2) ∈ S.said) :
    classAt S p = classAt S q ↔ k % Nat.gcd m n = 0 := by
  have hlen := h.base.inv.len
  have hl : ∀ {e p : Nat}, PowAt S e p → p < S.classes.length := fun hp => by have := hp.lt; omega
  rw [h.eq_iff (hl hp) (hl hq)]
  constructor
  · intro hall
    have hc : Closed S (modR S (Nat.gcd m n)) := modR_closed h.base ho fun x hx h0 => by
      rcases hsaid x hx h0 with e | e
      · rw [e]
        exact .inr ⟨m, 0, hp1, hq1, by rw [Nat.zero_mod]; exact Nat.mod_eq_zero_of_dvd (Nat.gcd_dvd_left m n)⟩
      · rw [e]
        exact .inr ⟨n, 0, hp2, hq2, by rw [Nat.zero_mod]; exact Nat.mod_eq_zero_of_dvd (Nat.gcd_dvd_right m n)⟩
    rcases hall _ hc with rfl | ⟨e, f, h1, h2, h3⟩
    · obtain rfl := hp.fn hq
      exact Nat.zero_mod _
    · obtain rfl := hp.fn h1
      obtain rfl := hq.fn h2
      rwa [Nat.zero_mod] at h3
  · intro hk R hR
    have hB := h.base
    have hK : ∀ f, f ≤ max m (max n k) → ∃ q, PowAt S f q := fun f hf => by
      by_cases h1 : f ≤ m
      · exact hp1.down f h1
      · by_cases h2 : f ≤ n
        · exact hp2.down f h2
        · exact hp.down f (by omega)
    have e1 : PRel S R 0 m := PRel.symm hR ⟨i1, j1, hp1, hq1, hR.said _ hin1 rfl⟩
    have e2 : PRel S R 0 n := PRel.symm hR ⟨i2, j2, hp2, hq2, hR.said _ hin2 rfl⟩
    have e3 := PRel.gcd hB hR hK _ m n (Nat.le_refl _) (by omega) (by omega) e1 e2
    have e4 := PRel.times hB hR hK e3 (k / Nat.gcd m n) (by rw [Nat.mul_div_cancel' (Nat.dvd_of_mod_eq_zero hk)]; omega)
    rw [Nat.mul_div_cancel' (Nat.dvd_of_mod_eq_zero hk)] at e4
    obtain ⟨a, b, h1, h2, h3⟩ := e4
    obtain rfl := h1.inj hB hq
    obtain rfl := h2.inj hB hp
    exact hR.symm _ _ h3
end Go.Proofs.YtmfkpllnmmfpiaaGreatDoor
