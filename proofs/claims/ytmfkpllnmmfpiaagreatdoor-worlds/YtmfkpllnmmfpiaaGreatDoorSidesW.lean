/- BookWhy, SoundLaw, WorldsLaw, ValueLaw, Sides -/
import Derived.Test.YtmfkpllnmmfpiaaGreatDoorWebWhyW
import Derived.Test.YtmfkpllnmmfpiaaGreatDoorBookTellW
import Derived.Test.YtmfkpllnmmfpiaaGreatDoorWhyOtherW
import Derived.Test.YtmfkpllnmmfpiaaGreatDoorRowsPlainW
import Derived.BigQuiet
namespace Go.Proofs.YtmfkpllnmmfpiaaGreatDoor
open Go.RowKit
structure BookOK (S : WS) (L : List ST) : Prop where
 holds : Holds S L
 small : SmallL L
 tag : TagOK S
end Go.Proofs.YtmfkpllnmmfpiaaGreatDoor

namespace Go.Proofs.YtmfkpllnmmfpiaaGreatDoor
open Go.RowKit
def trmOf : T3 → Trm
 | .v i => .node ⟨#[UInt8.ofNat (97 + i)]⟩ []
 | .f u => .node ⟨#[102]⟩ [trmOf u]
 | .g u i => .node ⟨#[103]⟩ [trmOf u, .node ⟨#[UInt8.ofNat (97 + i)]⟩ []]
theorem erase_T3 : ∀ (n : Nat) (x : Tm n) (t : T3), isT3 n x t → erase n x = trmOf t
 | 0, _, _, h => h.elim
 | n + 1, x, .v i, h => by
  show Trm.node x.name (x.parts.map (erase n)) = _
  rw [h.1, h.2]
  rfl
 | n + 1, x, .f u, h => by
  obtain ⟨h1, p, h2, h3⟩ := h
  show Trm.node x.name (x.parts.map (erase n)) = _
  rw [h1, h2]
  simp only [List.map_cons, List.map_nil, trmOf, erase_T3 n p u h3]
 | n + 1, x, .g u i, h => by
  obtain ⟨h1, p, q, h2, h3, h4⟩ := h
  show Trm.node x.name (x.parts.map (erase n)) = _
  rw [h1, h2]
  simp only [List.map_cons, List.map_nil, trmOf, erase_T3 n p u h3, erase_T3 n q (.v i) h4]
def stOf (c : Int) : ST := ⟨(s3Of c).b, trmOf (s3Of c).l, trmOf (s3Of c).r⟩
theorem stOf_read (c : Int) : ∃ x, (readOf (s3Of c).text).1 = some x ∧ eraseS x = stOf c ∧ NarrowS x ∧ sizeS x ≤ 10 := by
 have hs := s3Of_ok c
 obtain ⟨x, hx, h1, h2, h3⟩ := S3.read hs
 have z1 := isT3_size _ _ _ h1
 have z2 := isT3_size _ _ _ h3
 have d1 := hs.dl
 have d2 := hs.dr
 refine ⟨x, hx, ?_, (readOf_small hx).1, by unfold sizeS; omega⟩
 show (⟨x.eq, erase _ x.left, erase _ x.right⟩ : ST) = _
 rw [h2, erase_T3 _ _ _ h1, erase_T3 _ _ _ h3]
 rfl
theorem stOf_size (c : Int) : (stOf c).size ≤ 10 := by
 obtain ⟨x, _, h, _, hz⟩ := stOf_read c
 rw [← h, sizeS_erase]
 exact hz
theorem Good.holds_say {S : WS} {k : Nat} {m : List Nat} (h : Good S k m) (hk : k ≤ 23) {L : List ST} (hL : Holds S L) (c : Int) : Holds (sayOf S (s3Of c).text).2 (L ++ [stOf c]) := by
 obtain ⟨x, hx, he, hn, hz⟩ := stOf_read c
 have h1 := (h.say hk (s3Of_ok c)).1
 have hl := h.w3.len
 have h2 := hL.say hn (by omega)
 rw [he] at h2
 have hsd := h.w3.said
 unfold sayOf at h1 ⊢
 rw [hx] at h1 ⊢
 simp only at h1 ⊢
 rw [if_neg (by omega)] at h1 ⊢
 split at h1
 ·simp at h1
 ·rename_i h3
  rw [if_neg h3]
  exact h2
theorem fill_holds : ∀ (l : List Int) (S : WS) (k : Nat) (m : List Nat) (L : List ST), Good S k m → k + l.length ≤ 24 → Holds S L → Holds (fillM S l) (L ++ l.map stOf)
 | [], S, _, _, L, _, _, h => by simpa [fillM] using h
 | c :: l, S, k, m, L, hg, hk, h => by
  simp only [List.length_cons] at hk
  obtain ⟨_, h1, _⟩ := hg.say (by omega) (s3Of_ok c)
  have h2 := hg.holds_say (by omega) h c
  have h3 := fill_holds l _ _ _ _ h1 (by omega) h2
  have e : L ++ (c :: l).map stOf = L ++ [stOf c] ++ l.map stOf := by simp
  rw [e]
  exact h3
theorem fill_ok (l : List Int) (hl : l.length ≤ 24) : BookOK (fillM noWS l) (l.map stOf) ∧ Good (fillM noWS l) l.length [] := by
 have hg := (Good.fill l noWS 0 [] Good.none (by omega)).1
 have h := fill_holds l noWS 0 [] [] Good.none (by omega) Holds.none
 rw [Nat.zero_add] at hg
 rw [List.nil_append] at h
 exact ⟨⟨h, fun s hs => by
  obtain ⟨c, _, rfl⟩ := List.mem_map.1 hs
  have := stOf_size c
  omega, hg.tag⟩, hg⟩
end Go.Proofs.YtmfkpllnmmfpiaaGreatDoor

namespace Go.Proofs.YtmfkpllnmmfpiaaGreatDoor
open Go.RowKit
theorem nameOK_thing {i : Nat} (h : i < 3) : NameOK ⟨#[UInt8.ofNat (97 + i)]⟩ := by
 match i, h with
 | 0, _ => exact ⟨by simp, by decide⟩
 | 1, _ => exact ⟨by simp, by decide⟩
 | 2, _ => exact ⟨by simp, by decide⟩
theorem thing_OK {i : Nat} (h : i < 3) : TrmOK (.node ⟨#[UInt8.ofNat (97 + i)]⟩ []) := .mk (nameOK_thing h) (fun p hp => by cases hp)
theorem T3.trmOK : ∀ t : T3, t.ok → TrmOK (trmOf t)
 | .v _, h => thing_OK h
 | .f u, h => .mk ⟨by simp, by decide⟩ (fun p hp => by simp only [List.mem_singleton] at hp; subst hp; exact T3.trmOK u h)
 | .g u i, h => .mk ⟨by simp, by decide⟩ (fun p hp => by
   simp only [List.mem_cons, List.not_mem_nil, or_false] at hp
   rcases hp with rfl | rfl
   ·exact T3.trmOK u h.1
   ·exact thing_OK h.2)
theorem T3.trm_txt : ∀ t : T3, (trmOf t).txt = t.txt
 | .v i => by simp [trmOf, Trm.txt, T3.txt]
 | .f u => by simp [trmOf, Trm.txt, Trm.txtR, T3.txt, T3.trm_txt u]
 | .g u i => by simp [trmOf, Trm.txt, Trm.txtR, T3.txt, T3.trm_txt u]
def T3.bytes (t : T3) : ByteArray := ⟨t.txt.toArray⟩
theorem T3.trm_text (t : T3) : (trmOf t).text = t.bytes := by unfold Trm.text T3.bytes; rw [T3.trm_txt]
def S3.st (s : S3) : ST := ⟨s.b, trmOf s.l, trmOf s.r⟩
theorem S3.st_text (s : S3) : s.st.text = s.text := by
 obtain ⟨l, b, r⟩ := s
 unfold ST.text S3.st S3.text s3T
 simp only [T3.trm_text]
 unfold T3.bytes
 cases b
 ·show (⟨l.txt.toArray⟩ : ByteArray) ++ (⟨([32, 33, 61, 32] : List UInt8).toArray⟩ : ByteArray) ++ ⟨r.txt.toArray⟩ = _
  rw [bytes_append, bytes_append]
  simp
 ·show (⟨l.txt.toArray⟩ : ByteArray) ++ (⟨([32, 61, 32] : List UInt8).toArray⟩ : ByteArray) ++ ⟨r.txt.toArray⟩ = _
  rw [bytes_append, bytes_append]
  simp
theorem both_fill (l : List Int) (hl : l.length ≤ 12) : Both (fillM noWS l) (l.map stOf) := by
 obtain ⟨hb, hg⟩ := fill_ok l (by omega)
 have := hg.w3.len
 refine ⟨hb.holds, fun s hs => ?_, hb.small, hg.text, by omega, by rw [hg.w3.said]; omega⟩
 obtain ⟨c, _, rfl⟩ := List.mem_map.1 hs
 exact ⟨T3.trmOK _ (s3Of_ok c).l, T3.trmOK _ (s3Of_ok c).r⟩
theorem part_T3 : ∀ (t : T3) {x : Trm}, Part x (trmOf t) → ∃ u : T3, x = trmOf u ∧ (t.ok → u.ok) ∧ u.depth ≤ t.depth
 | .v i, x, h => by
  have h : Part x (.node ⟨#[UInt8.ofNat (97 + i)]⟩ []) := h
  cases h with
  | self => exact ⟨.v i, rfl, id, Nat.le_refl _⟩
  | within hp _ => cases hp
 | .f u, x, h => by
  have h : Part x (.node ⟨#[102]⟩ [trmOf u]) := h
  cases h with
  | self => exact ⟨.f u, rfl, id, Nat.le_refl _⟩
  | within hp hq =>
   simp only [List.mem_singleton] at hp
   subst hp
   obtain ⟨v, h1, h2, h3⟩ := part_T3 u hq
   exact ⟨v, h1, h2, by simp only [T3.depth]; omega⟩
 | .g u i, x, h => by
  have h : Part x (.node ⟨#[103]⟩ [trmOf u, trmOf (.v i)]) := h
  cases h with
  | self => exact ⟨.g u i, rfl, id, Nat.le_refl _⟩
  | within hp hq =>
   simp only [List.mem_cons, List.not_mem_nil, or_false] at hp
   rcases hp with rfl | rfl
   ·obtain ⟨v, h1, h2, h3⟩ := part_T3 u hq
    exact ⟨v, h1, fun h => h2 h.1, by simp only [T3.depth]; omega⟩
   ·have hq : Part x (.node ⟨#[UInt8.ofNat (97 + i)]⟩ []) := hq
    cases hq with
    | self => exact ⟨.v i, rfl, fun h => h.2, by simp only [T3.depth]; omega⟩
    | within hp _ => cases hp
structure T3.small (t : T3) : Prop where
 ok : t.ok
 deep : t.depth ≤ 2
theorem known_T3 {l : List Int} {x : Trm} (h : known (l.map stOf) x) : ∃ u : T3, x = trmOf u ∧ u.small := by
 obtain ⟨s, hs, hp⟩ := h
 obtain ⟨c, _, rfl⟩ := List.mem_map.1 hs
 have ho := s3Of_ok c
 rcases hp with hp | hp
 ·obtain ⟨u, h1, h2, h3⟩ := part_T3 _ hp
  exact ⟨u, h1, h2 ho.l, by have := ho.dl; omega⟩
 ·obtain ⟨u, h1, h2, h3⟩ := part_T3 _ hp
  exact ⟨u, h1, h2 ho.r, by have := ho.dr; omega⟩
def T3.name : T3 → ByteArray
 | .v i => ⟨#[UInt8.ofNat (97 + i)]⟩
 | .f _ => ⟨#[102]⟩
 | .g _ _ => ⟨#[103]⟩
def T3.parts : T3 → List T3
 | .v _ => []
 | .f u => [u]
 | .g u i => [u, .v i]
theorem trmOf_node : ∀ t : T3, trmOf t = .node t.name (t.parts.map trmOf)
 | .v _ => rfl
 | .f _ => rfl
 | .g _ _ => rfl
structure Hits (rs : List RowP) (V : T3 → Nat) (t : T3) (i : Nat) : Prop where
 row : rs[i]? = some ⟨t.name, t.parts.map V, V t⟩
 first : ∀ (j : Nat) (r : RowP), j < i → rs[j]? = some r → ¬ (r.name = t.name ∧ r.args = t.parts.map V)
def Tells (rs : List RowP) (V : T3 → Nat) : T3 → Prop
 | .v i => ∃ k, Hits rs V (.v i) k
 | .f u => Tells rs V u ∧ ∃ k, Hits rs V (.f u) k
 | .g u i => Tells rs V u ∧ (∃ k, Hits rs V (.v i) k) ∧ ∃ k, Hits rs V (.g u i) k
theorem Tells.hits {rs : List RowP} {V : T3 → Nat} : ∀ {t : T3}, Tells rs V t → ∃ k, Hits rs V t k
 | .v _, h => h
 | .f _, h => h.2
 | .g _ _, h => h.2.2
theorem Tells.part {rs : List RowP} {V : T3 → Nat} : ∀ {t : T3} {n : Nat} {p : T3}, Tells rs V t → t.parts[n]? = some p → Tells rs V p
 | .v _, n, p, _, hp => by simp [T3.parts] at hp
 | .f u, n, p, h, hp => by
  match n, hp with
  | 0, hp => simp only [T3.parts, List.getElem?_cons_zero, Option.some.injEq] at hp; subst hp; exact h.1
  | n + 1, hp => simp [T3.parts] at hp
 | .g u i, n, p, h, hp => by
  match n, hp with
  | 0, hp => simp only [T3.parts, List.getElem?_cons_zero, Option.some.injEq] at hp; subst hp; exact h.1
  | 1, hp => simp only [T3.parts, List.getElem?_cons_succ, List.getElem?_cons_zero, Option.some.injEq] at hp; subst hp; exact h.2.1
  | n + 2, hp => simp [T3.parts] at hp
noncomputable def vOf (S : WS) (t : T3) : Nat := ofP (classesOf S) t.bytes
theorem rowT_T3 (S : WS) (t : T3) : rowT (classesOf S) (trmOf t) = ⟨t.name, t.parts.map (vOf S), vOf S t⟩ := by
 have key : ∀ x : Trm, x = .node t.name (t.parts.map trmOf) → rowT (classesOf S) x = ⟨t.name, (t.parts.map trmOf).map (fun p => ofP (classesOf S) p.text), ofP (classesOf S) x.text⟩ := fun x h => by subst h; rfl
 rw [key _ (trmOf_node t), T3.trm_text, List.map_map]
 congr 1
 refine List.map_congr_left fun p _ => ?_
 show ofP _ (trmOf p).text = _
 rw [T3.trm_text]
 rfl
theorem Both.hits {S : WS} {L : List ST} (h : Both S L) {rs : List RowP} (hw : WorldIs S rs) {t : T3} (k : known L (trmOf t)) : ∃ i, Hits rs (vOf S) t i := by
 have hrow : ∀ r ∈ rowsTo S (placesOf S) S.shapes.length, ∃ t, known L t ∧ r = rowT (classesOf S) t := fun r hr => by
  unfold rowsTo at hr
  obtain ⟨i, hi, rfl⟩ := List.mem_map.1 hr
  obtain ⟨t, kt, dt⟩ := h.holds.term i (List.mem_range.1 hi)
  exact ⟨t, kt, h.row dt⟩
 obtain ⟨i, di⟩ := h.holds.num _ k
 obtain ⟨y, hy, he⟩ := hw.has (rowOf S (placesOf S) i) (by unfold rowsTo; exact List.mem_map.2 ⟨i, List.mem_range.2 di.lt, rfl⟩)
 rw [h.row di] at he
 obtain ⟨u, ku, rfl⟩ := hrow y (hw.sub y hy)
 rw [h.row_fn ku k he] at hy
 obtain ⟨n, hn⟩ := List.getElem?_of_mem hy
 rw [rowT_T3] at hn
 refine ⟨n, hn, fun j r hj hr hh => ?_⟩
 obtain ⟨la, ea⟩ := List.getElem?_eq_some_iff.1 hr
 obtain ⟨lb, eb⟩ := List.getElem?_eq_some_iff.1 hn
 have h1 := List.pairwise_iff_getElem.1 hw.strict j n la lb hj
 rw [ea, eb] at h1
 have h2 : keyR r = keyR ⟨t.name, t.parts.map (vOf S), vOf S t⟩ := keyR_eq.2 hh
 rw [cmpRow_key, h2] at h1
 exact lin_key.irr _ h1
theorem Both.tells {S : WS} {L : List ST} (h : Both S L) {rs : List RowP} (hw : WorldIs S rs) : ∀ (t : T3), known L (trmOf t) → Tells rs (vOf S) t
 | .v _, k => h.hits hw k
 | .f u, k => ⟨h.tells hw u (known.part (nm := ⟨#[102]⟩) (ps := [trmOf u]) k (by simp)), h.hits hw k⟩
 | .g u i, k => ⟨h.tells hw u (known.part (nm := ⟨#[103]⟩) (ps := [trmOf u, trmOf (.v i)]) k (by simp)), h.hits hw (known.part (nm := ⟨#[103]⟩) (ps := [trmOf u, trmOf (.v i)]) k (by simp)), h.hits hw k⟩
theorem Both.v_iff {S : WS} {L : List ST} (h : Both S L) {t u : T3} (kt : known L (trmOf t)) (ku : known L (trmOf u)) : vOf S t = vOf S u ↔ EqT L (trmOf t) (trmOf u) := by
 obtain ⟨i, di⟩ := h.holds.num _ kt
 obtain ⟨j, dj⟩ := h.holds.num _ ku
 unfold vOf
 rw [← T3.trm_text, ← T3.trm_text, h.place di, h.place dj]
 exact ⟨fun e => (h.holds.eq_iff di dj).1 (place_inj di.lt dj.lt e), fun e => by rw [(h.holds.eq_iff di dj).2 e]⟩
theorem Both.said_v {S : WS} {L : List ST} (h : Both S L) (hc : clashM S = false) {s : S3} (hs : s.st ∈ L) : vOf S s.l = vOf S s.r ↔ s.b = true := by
 have kl : known L (trmOf s.l) := ⟨_, hs, .inl (.self _)⟩
 have kr : known L (trmOf s.r) := ⟨_, hs, .inr (.self _)⟩
 rw [h.v_iff kl kr]
 constructor
 ·intro he
  cases hb : s.b with
  | true => rfl
  | false =>
   have := h.holds.clash_iff.2 ⟨_, hs, hb, he⟩
   rw [hc] at this
   cases this
 ·exact fun hb R hR => hR.said _ hs hb
theorem eqT_more {L : List ST} {t u : Trm} (kt : known L t) (ku : known L u) {a b : Trm} : EqT (L ++ [⟨false, t, u⟩]) a b ↔ EqT L a b := by
 have hk : ∀ x, known (L ++ [⟨false, t, u⟩]) x → known L x := fun x ⟨s, hs, hp⟩ => by
  simp only [List.mem_append, List.mem_singleton] at hs
  rcases hs with hs | rfl
  ·exact ⟨s, hs, hp⟩
  ·rcases hp with hp | hp
   ·obtain ⟨s, hs, h⟩ := kt
    exact ⟨s, hs, h.imp hp.trans hp.trans⟩
   ·obtain ⟨s, hs, h⟩ := ku
    exact ⟨s, hs, h.imp hp.trans hp.trans⟩
 refine ⟨fun h R hR => h R ⟨hR.refl, hR.symm, hR.trans, fun s hs he => ?_, fun nm ps qs k1 k2 => hR.cong nm ps qs (hk _ k1) (hk _ k2)⟩, fun h => h.mono (fun s hs => List.mem_append_left _ hs)⟩
 simp only [List.mem_append, List.mem_singleton] at hs
 rcases hs with hs | rfl
 ·exact hR.said s hs he
 ·cases he
theorem fill_ask (l : List Int) (hl : l.length ≤ 12) {t u : T3} (ht : t.small) (hu : u.small) (kt : known (l.map stOf) (trmOf t)) (ku : known (l.map stOf) (trmOf u)) (hc : clashM (fillM noWS l) = false) {f : Bool} (hf : f = true ↔ vOf (fillM noWS l) t = vOf (fillM noWS l) u) :
  followsOf (fillM noWS l) (s3T t true u) = (f, 0, 0) := by
 have hs : S3.ok ⟨t, true, u⟩ := ⟨ht.ok, hu.ok, ht.deep, hu.deep⟩
 have hB := both_fill l hl
 obtain ⟨x, hx, h1, h2, h3⟩ := S3.read hs
 have z1 := isT3_size _ _ _ h1
 have z2 := isT3_size _ _ _ h3
 have d1 := ht.deep
 have d2 := hu.deep
 simp only at z1 z2
 have he : eraseS x = ⟨true, trmOf t, trmOf u⟩ := by
  show (⟨x.eq, erase _ x.left, erase _ x.right⟩ : ST) = _
  rw [h2, erase_T3 _ _ _ h1, erase_T3 _ _ _ h3]
 have hfo := hB.holds.follows_iff (readOf_small hx).1 (by have := hB.terms; unfold sizeS; omega)
 rw [he] at hfo
 have hx' : (readOf (s3T t true u)).1 = some x := hx
 unfold followsOf
 rw [hx']
 have e : followsM (fillM noWS l) x = f := by
  have hcl : ClashT (l.map stOf ++ [contraT ⟨true, trmOf t, trmOf u⟩]) ↔ EqT (l.map stOf) (trmOf t) (trmOf u) := by
   show ClashT (l.map stOf ++ [⟨false, trmOf t, trmOf u⟩]) ↔ _
   constructor
   ·rintro ⟨s, hs, h0, he⟩
    rw [eqT_more kt ku] at he
    simp only [List.mem_append, List.mem_singleton] at hs
    rcases hs with hs | rfl
    ·have := hB.holds.clash_iff.2 ⟨s, hs, h0, he⟩
     rw [hc] at this
     cases this
    ·exact he
   ·exact fun he => ⟨⟨false, trmOf t, trmOf u⟩, List.mem_append_right _ (List.mem_singleton.2 rfl), rfl, (eqT_more kt ku).2 he⟩
  rw [hcl, ← hB.v_iff kt ku, ← hf] at hfo
  cases f <;> cases hq : followsM (fillM noWS l) x <;> simp_all
 show (followsM (fillM noWS l) x, 0, 0) = _
 rw [e]
theorem class_at {l : List Int} (hl : l.length ≤ 12) {i : Nat} {c : List ByteArray} (hc : (classesOf (fillM noWS l))[i]? = some c) :
  c ≠ [] ∧ ∀ y ∈ c, ∃ t : T3, y = t.bytes ∧ t.small ∧ known (l.map stOf) (trmOf t) ∧ vOf (fillM noWS l) t = i := by
 have hB := both_fill l hl
 generalize fillM noWS l = S at *
 unfold classesOf listsTo at hc
 rw [List.getElem?_map] at hc
 obtain ⟨q, h1, rfl⟩ := Option.map_eq_some_iff.1 hc
 have hq : q ∈ allCls S := (mem_firsts _ _).1 (List.mem_of_getElem? h1)
 have hto : ∀ y ∈ ofClass S (sortedT S) (sortedT S).length q, ∃ n, n < S.shapes.length ∧ plainT S n = y ∧ classAt S n = q := fun y hy => by
  unfold ofClass at hy
  rw [List.take_of_length_le (Nat.le_refl _)] at hy
  obtain ⟨t, g1, g2⟩ := List.mem_map.1 hy
  obtain ⟨g3, g4⟩ := List.mem_filter.1 g1
  obtain ⟨a, b⟩ := (sortedT_mem S t).1 g3
  exact ⟨t.2, a, by rw [← b]; exact g2, by simpa using g4⟩
 constructor
 ·intro h0
  unfold allCls clsTo at hq
  rw [List.take_of_length_le (Nat.le_refl _)] at hq
  obtain ⟨t, ht, hq⟩ := List.mem_map.1 hq
  have : t.1 ∈ ofClass S (sortedT S) (sortedT S).length q := by
   unfold ofClass
   rw [List.take_of_length_le (Nat.le_refl _)]
   exact List.mem_map.2 ⟨t, List.mem_filter.2 ⟨ht, by simpa using hq⟩, rfl⟩
  rw [h0] at this
  cases this
 ·intro y hy
  obtain ⟨n, hn, rfl, hq'⟩ := hto y hy
  obtain ⟨t, kt, dt⟩ := hB.holds.term n hn
  obtain ⟨u, rfl, hu⟩ := known_T3 kt
  refine ⟨u, ?_, hu, kt, ?_⟩
  ·rw [den_text hB.holds.fine.web.base dt, T3.trm_text]
  ·unfold vOf
   rw [← T3.trm_text, hB.place dt, hq']
   exact nodup_idx (firsts_nodup (allCls S)) h1
end Go.Proofs.YtmfkpllnmmfpiaaGreatDoor

namespace Go.Proofs.YtmfkpllnmmfpiaaGreatDoor
open Go.RowKit
def lev (l : List T3) : List T3 := [.v 0, .v 1, .v 2] ++ (l.map .f ++ l.flatMap fun u => [.g u 0, .g u 1, .g u 2])
def all3 : List T3 := lev (lev (lev []))
theorem lev_v {l : List T3} {i : Nat} (h : i < 3) : T3.v i ∈ lev l := by
 match i, h with
 | 0, _ => simp [lev]
 | 1, _ => simp [lev]
 | 2, _ => simp [lev]
theorem lev_mem : ∀ (n : Nat) (l : List T3), (∀ u : T3, u.ok → u.depth < n → u ∈ l) → ∀ t : T3, t.ok → t.depth < n + 1 → t ∈ lev l
 | _, _, _, .v i, hk, _ => lev_v hk
 | n, l, h, .f u, hk, hd => by
  have := h u hk (by simp only [T3.depth] at hd; omega)
  simp [lev, this]
 | n, l, h, .g u i, hk, hd => by
  have hu := h u hk.1 (by simp only [T3.depth] at hd; omega)
  have hi := hk.2
  simp only [lev, List.mem_append, List.mem_flatMap]
  refine .inr (.inr ⟨u, hu, ?_⟩)
  match i, hi with
  | 0, _ => simp
  | 1, _ => simp
  | 2, _ => simp
theorem all3_mem {t : T3} (h : t.small) : t ∈ all3 :=
 lev_mem 2 _ (lev_mem 1 _ (lev_mem 0 [] (fun u _ hd => absurd hd (Nat.not_lt_zero _)))) t h.ok (by have := h.deep; omega)
def cutAt (b : List UInt8) : Nat → Nat × Nat × Nat
 | 0 => (0, 2, 0)
 | n + 1 =>
  let x := cutAt b n
  let c := b.getD (n + 2) 0
  if c = 40 then (x.1 + 1, x.2.1, x.2.2)
  else if x.1 = 0 ∧ (c = 44 ∨ c = 41) then (0, n + 4, x.2.2 + 1)
  else if c = 41 then (x.1 - 1, x.2.1, x.2.2)
  else x
def cutOK (t : T3) : Bool :=
 (List.range (t.txt.length - 2)).all (fun n =>
  let x := cutAt t.txt n
  let c := t.txt.getD (n + 2) 0
  decide (x.1 ≤ 100) && decide (x.2.1 ≤ 100) && decide (x.2.2 ≤ 100) &&
  (if x.1 = 0 ∧ (c = 44 ∨ c = 41) then decide (x.2.1 ≤ n + 2) && decide (x.2.2 < t.parts.length) && ((t.txt.drop x.2.1).take (n + 2 - x.2.1) == (t.parts.getD x.2.2 (.v 0)).txt) else true))
 && (cutAt t.txt (t.txt.length - 2)).2.2 == t.parts.length && (t.txt.take 1 == t.name.data.toList) && (t.txt.length == 1) == (t.parts.length == 0) && decide (t.txt.length ≤ 20)
theorem all3_cut : all3.all cutOK = true := by kernel_rfl
structure CutIs (t : T3) (n : Nat) (x : Nat × Nat × Nat) : Prop where
 b1 : x.1 ≤ 100
 b2 : x.2.1 ≤ 100
 b3 : x.2.2 ≤ 100
 cut : x.1 = 0 → (t.txt.getD (n + 2) 0 = 44 ∨ t.txt.getD (n + 2) 0 = 41) → x.2.1 ≤ n + 2 ∧ ∃ p, t.parts[x.2.2]? = some p ∧ (t.txt.drop x.2.1).take (n + 2 - x.2.1) = p.txt
theorem cut_is {t : T3} (h : t.small) : (∀ n, n + 2 < t.txt.length → CutIs t n (cutAt t.txt n)) ∧ (cutAt t.txt (t.txt.length - 2)).2.2 = t.parts.length ∧ t.txt.take 1 = t.name.data.toList ∧ (t.txt.length = 1 ↔ t.parts.length = 0) ∧ t.txt.length ≤ 20 := by
 have h1 := List.all_eq_true.1 all3_cut t (all3_mem h)
 unfold cutOK at h1
 simp only [Bool.and_eq_true, List.all_eq_true, List.mem_range, decide_eq_true_eq, beq_iff_eq] at h1
 obtain ⟨⟨⟨⟨h1, h2⟩, h3⟩, h4⟩, h5⟩ := h1
 refine ⟨fun n hn => ?_, h2, h3, ?_, h5⟩
 ·obtain ⟨⟨⟨a1, a2⟩, a3⟩, a4⟩ := h1 n (by omega)
  refine ⟨a1, a2, a3, fun h0 hc => ?_⟩
  rw [if_pos ⟨h0, hc⟩] at a4
  simp only [Bool.and_eq_true, decide_eq_true_eq, beq_iff_eq] at a4
  obtain ⟨⟨b1, b2⟩, b3⟩ := a4
  refine ⟨b1, _, List.getElem?_eq_getElem b2, ?_⟩
  rw [b3, List.getD_eq_getElem?_getD, List.getElem?_eq_getElem b2]
  rfl
 ·rw [Bool.eq_iff_iff] at h4
  simpa using h4
theorem T3.size (t : T3) : t.bytes.size = t.txt.length := by
 show t.txt.toArray.size = _
 simp
theorem T3.byte (t : T3) (i : Nat) : byteAt t.bytes i = ((t.txt.getD i 0).toNat : Int) := by
 unfold byteAt T3.bytes
 simp
theorem extract_list (l : List UInt8) (a b : Nat) : (⟨l.toArray⟩ : ByteArray).extract a b = ⟨((l.drop a).take (b - a)).toArray⟩ := by
 apply ByteArray.ext
 apply Array.ext'
 simp [List.extract]
theorem thing_sign {i : Nat} (h : i < 3) : UInt8.ofNat (97 + i) ≠ 61 := by
 match i, h with
 | 0, _ => decide
 | 1, _ => decide
 | 2, _ => decide
theorem no_sign : ∀ (t : T3), t.ok → ∀ c ∈ t.txt, c ≠ 61
 | .v i, h, c, hc => by
  simp only [T3.txt, List.mem_singleton] at hc
  subst hc
  exact thing_sign h
 | .f u, h, c, hc => by
  simp only [T3.txt, List.mem_cons, List.mem_append, List.not_mem_nil, or_false] at hc
  rcases hc with rfl | rfl | hc | rfl
  ·decide
  ·decide
  ·exact no_sign u h c hc
  ·decide
 | .g u i, h, c, hc => by
  simp only [T3.txt, List.mem_cons, List.mem_append, List.not_mem_nil, or_false] at hc
  rcases hc with rfl | rfl | hc | rfl | rfl | rfl | rfl
  ·decide
  ·decide
  ·exact no_sign u h.1 c hc
  ·decide
  ·decide
  ·exact thing_sign h.2
  ·decide
theorem no_sign_at {t : T3} (h : t.ok) {i : Nat} (hi : i < t.txt.length) : t.txt.getD i 0 ≠ 61 := by
 rw [List.getD_eq_getElem?_getD, List.getElem?_eq_getElem hi]
 exact no_sign t h _ (List.getElem_mem hi)
end Go.Proofs.YtmfkpllnmmfpiaaGreatDoor

namespace Go.Proofs.YtmfkpllnmmfpiaaGreatDoor
open Go.RowKit
theorem byte_list (l : List UInt8) (i : Nat) : byteAt ⟨l.toArray⟩ i = ((l.getD i 0).toNat : Int) := by
 unfold byteAt
 simp
theorem getD_left {l m : List UInt8} {i : Nat} (h : i < l.length) : (l ++ m).getD i 0 = l.getD i 0 := by
 rw [List.getD_eq_getElem?_getD, List.getD_eq_getElem?_getD, List.getElem?_append_left h]
theorem getD_right {l m : List UInt8} (i : Nat) : (l ++ m).getD (l.length + i) 0 = m.getD i 0 := by
 rw [List.getD_eq_getElem?_getD, List.getD_eq_getElem?_getD, List.getElem?_append_right (by omega)]
 congr 2
 omega
theorem byte_ne {c : UInt8} (h : c ≠ 61) : ((c.toNat : Int)) ≠ 61 := fun e => h (UInt8.toNat_inj.1 (by show c.toNat = 61; omega))
theorem text_eq {l r : T3} (hl : l.ok) : ∃ m, m + 3 ≤ (s3T l true r).size ∧ (∀ i, i < m + 1 → byteAt (s3T l true r) i ≠ 61) ∧ byteAt (s3T l true r) (m + 1) = 61 ∧ byteAt (s3T l true r) m = 32 ∧ (s3T l true r).extract 0 m = l.bytes ∧ (s3T l true r).extract (m + 3) (s3T l true r).size = r.bytes := by
 have e : s3T l true r = ⟨(l.txt ++ ([32, 61, 32] ++ r.txt)).toArray⟩ := rfl
 have hz : (s3T l true r).size = l.txt.length + 3 + r.txt.length := by
  rw [e]
  show (l.txt ++ ([32, 61, 32] ++ r.txt)).toArray.size = _
  simp; omega
 refine ⟨l.txt.length, by omega, fun i hi => ?_, ?_, ?_, ?_, ?_⟩
 ·rw [e, byte_list]
  by_cases h : i < l.txt.length
  ·rw [getD_left h]
   exact byte_ne (no_sign_at hl h)
  ·obtain rfl : i = l.txt.length + 0 := by omega
   rw [getD_right]
   show ((32 : UInt8).toNat : Int) ≠ 61
   decide
 ·rw [e, byte_list, getD_right]
  rfl
 ·rw [e, byte_list]
  have := getD_right (l := l.txt) (m := [32, 61, 32] ++ r.txt) 0
  rw [Nat.add_zero] at this
  rw [this]
  rfl
 ·rw [e, extract_list]
  simp [T3.bytes]
 ·rw [hz, e, extract_list]
  have : (l.txt ++ ([32, 61, 32] ++ r.txt)).drop (l.txt.length + 3) = r.txt := by
   rw [List.drop_append]
   simp
  rw [this]
  unfold T3.bytes
  congr 2
  rw [List.take_of_length_le (by omega)]
theorem text_ne {l r : T3} (hl : l.ok) : ∃ m, m + 4 ≤ (s3T l false r).size ∧ (∀ i, i < m + 2 → byteAt (s3T l false r) i ≠ 61) ∧ byteAt (s3T l false r) (m + 2) = 61 ∧ byteAt (s3T l false r) (m + 1) = 33 ∧ (s3T l false r).extract 0 m = l.bytes ∧ (s3T l false r).extract (m + 4) (s3T l false r).size = r.bytes := by
 have e : s3T l false r = ⟨(l.txt ++ ([32, 33, 61, 32] ++ r.txt)).toArray⟩ := rfl
 have hz : (s3T l false r).size = l.txt.length + 4 + r.txt.length := by
  rw [e]
  show (l.txt ++ ([32, 33, 61, 32] ++ r.txt)).toArray.size = _
  simp; omega
 refine ⟨l.txt.length, by omega, fun i hi => ?_, ?_, ?_, ?_, ?_⟩
 ·rw [e, byte_list]
  by_cases h : i < l.txt.length
  ·rw [getD_left h]
   exact byte_ne (no_sign_at hl h)
  ·by_cases h2 : i = l.txt.length + 0
   ·rw [h2, getD_right]
    show ((32 : UInt8).toNat : Int) ≠ 61
    decide
   ·obtain rfl : i = l.txt.length + 1 := by omega
    rw [getD_right]
    show ((33 : UInt8).toNat : Int) ≠ 61
    decide
 ·rw [e, byte_list, getD_right]
  rfl
 ·rw [e, byte_list, getD_right]
  rfl
 ·rw [e, extract_list]
  simp [T3.bytes]
 ·rw [hz, e, extract_list]
  have : (l.txt ++ ([32, 33, 61, 32] ++ r.txt)).drop (l.txt.length + 4) = r.txt := by
   rw [List.drop_append]
   simp
  rw [this]
  unfold T3.bytes
  congr 2
  rw [List.take_of_length_le (by omega)]
theorem wrap_small {m : Nat} (h : m + 1 ≤ 1000) : IntKind.i64.wrap (m : Int) = (m : Int) := by
 have := wrap_pred (j := m + 1) (jm := m) rfl (by omega)
 simpa using this
set_option maxHeartbeats 2000000 in
set_option maxRecDepth 100000 in
theorem sides_eq (t : ByteArray) (m : Nat) (L R : ByteArray) (hz : t.size ≤ 1000) (hm : m + 3 ≤ t.size) (hno : ∀ i, i < m + 1 → byteAt t i ≠ 61) (hq : byteAt t (m + 1) = 61) (hp : byteAt t m = 32) (hL : t.extract 0 m = L) (hR : t.extract (m + 3) t.size = R) (w : World) :
  Calls Tryz.prog 18 #[.string t] w fun e w' => e = .returned (.tuple #[.string L, .string R, .bool true]) ∧ Upd [] w w' := by
 have HL := hide hL
 have HR := hide hR
 have Hno := hide hno
 have Hq := hide hq
 have Hp := hide hp
 clear hL hR hno hq hp
 go_enter Tryz.func18, Tryz.ntmps18
 go_wp2
 go_loopw [5] (fun i wr => ∃ j n : Nat, j ≤ m + 1 ∧ i = .int .i64 j ∧ wr = w.drewN n) (fun i _ => m + 1 - (intOf i).toNat)
 case atStart => exact ⟨0, 0, by omega, rfl, rfl⟩
 case round =>
  obtain ⟨j, n, hj, rfl, rfl⟩ := hrel
  have hlt : j < t.size := by omega
  have hbt := byteAt_get t j hlt
  have hltI : (j : Int) < (t.size : Int) := by omega
  by_cases hjq : j < m + 1
  ·have hb : (byteAt t j == 61) = false := by simpa using Hno.out j hjq
   go_wp2
   exact ⟨⟨j + 1, n, by omega, by go_num, rfl⟩, by simp [intOf]; omega⟩
  ·have hje : j = m + 1 := by omega
   have hb : byteAt t j = 61 := by rw [hje]; exact Hq.out
   have hb2 : byteAt t m = 32 := Hp.out
   have hbm := byteAt_get t m (by omega)
   have hw1 : IntKind.i64.wrap ((j : Int) - 1) = (m : Int) := wrap_pred hje (by omega)
   have Hje := hide hje
   clear hje
   go_wp2
   go_quiet (fail)
   go_wp2
   go_ret3
   refine ⟨?_, by first | exact ((Upd.refl [] w).drewN n).drewN nq | exact (Upd.refl [] w).drewN _⟩
   show Ending.returned (.tuple #[.string (t.extract 0 m), .string (t.extract (j + 2) t.size), .bool true]) = _
   rw [HL.out, Hje.out, HR.out]
set_option maxHeartbeats 2000000 in
set_option maxRecDepth 100000 in
theorem sides_ne (t : ByteArray) (m : Nat) (L R : ByteArray) (hz : t.size ≤ 1000) (hm : m + 4 ≤ t.size) (hno : ∀ i, i < m + 2 → byteAt t i ≠ 61) (hq : byteAt t (m + 2) = 61) (hp : byteAt t (m + 1) = 33) (hL : t.extract 0 m = L) (hR : t.extract (m + 4) t.size = R) (w : World) :
  Calls Tryz.prog 18 #[.string t] w fun e w' => e = .returned (.tuple #[.string L, .string R, .bool false]) ∧ Upd [] w w' := by
 have HL := hide hL
 have HR := hide hR
 have Hno := hide hno
 have Hq := hide hq
 have Hp := hide hp
 clear hL hR hno hq hp
 go_enter Tryz.func18, Tryz.ntmps18
 go_wp2
 go_loopw [5] (fun i wr => ∃ j n : Nat, j ≤ m + 2 ∧ i = .int .i64 j ∧ wr = w.drewN n) (fun i _ => m + 2 - (intOf i).toNat)
 case atStart => exact ⟨0, 0, by omega, rfl, rfl⟩
 case round =>
  obtain ⟨j, n, hj, rfl, rfl⟩ := hrel
  have hlt : j < t.size := by omega
  have hbt := byteAt_get t j hlt
  have hltI : (j : Int) < (t.size : Int) := by omega
  by_cases hjq : j < m + 2
  ·have hb : (byteAt t j == 61) = false := by simpa using Hno.out j hjq
   go_wp2
   exact ⟨⟨j + 1, n, by omega, by go_num, rfl⟩, by simp [intOf]; omega⟩
  ·have hje : j = m + 2 := by omega
   have hb : byteAt t j = 61 := by rw [hje]; exact Hq.out
   obtain ⟨m1, hm1⟩ : ∃ m1, m1 = m + 1 := ⟨_, rfl⟩
   have hb2 : byteAt t m1 = 33 := by rw [hm1]; exact Hp.out
   have hm1s : m1 < t.size := by omega
   have hbm := byteAt_get t m1 hm1s
   have hw1 : IntKind.i64.wrap ((j : Int) - 1) = (m1 : Int) := wrap_pred (by omega) (by omega)
   have hw2 : IntKind.i64.wrap ((j : Int) - 2) = (m : Int) := by
    rw [show (j : Int) - 2 = (m : Int) by omega]
    exact wrap_small (by omega)
   have Hm1 := hide hm1
   have hm1l : (m1 : Int) < (t.size : Int) := by omega
   clear hm1
   have Hje := hide hje
   clear hje
   go_wp2
   go_quiet (fail)
   go_wp2
   go_ret3
   refine ⟨?_, by first | exact ((Upd.refl [] w).drewN n).drewN nq | exact (Upd.refl [] w).drewN _⟩
   show Ending.returned (.tuple #[.string (t.extract 0 m), .string (t.extract (j + 2) t.size), .bool false]) = _
   rw [HL.out, Hje.out, HR.out]
theorem sides_any (s : S3) (hs : s.ok) (w : World) :
  Calls Tryz.prog 18 #[.string s.text] w fun e w' => e = .returned (.tuple #[.string s.l.bytes, .string s.r.bytes, .bool s.b]) ∧ Upd [] w w' := by
 have hz := S3.size hs
 obtain ⟨l, b, r⟩ := s
 cases b with
 | true =>
  obtain ⟨m, h1, h2, h3, h4, h5, h6⟩ := text_eq (l := l) (r := r) hs.l
  exact sides_eq (s3T l true r) m _ _ (by have : (s3T l true r).size ≤ 30 := hz; omega) h1 h2 h3 h4 h5 h6 w
 | false =>
  obtain ⟨m, h1, h2, h3, h4, h5, h6⟩ := text_ne (l := l) (r := r) hs.l
  exact sides_ne (s3T l false r) m _ _ (by have : (s3T l false r).size ≤ 30 := hz; omega) h1 h2 h3 h4 h5 h6 w
end Go.Proofs.YtmfkpllnmmfpiaaGreatDoor
