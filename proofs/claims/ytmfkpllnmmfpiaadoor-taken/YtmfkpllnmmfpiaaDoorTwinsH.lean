/-
  'twins': the terms of two classes that have the same name and equal parts.
-/
import Derived.Test.YtmfkpllnmmfpiaaDoorMoveH
namespace Go.Proofs.YtmfkpllnmmfpiaaDoor
open Go.RowKit

theorem info_pair : (Tryd.prog.info? 174).map (fun i => (i.zero, i.size, i.bytes)) = some (some (.agg #[.int .i64 0, .int .i64 0]), 2, 16) := by kernel_rfl

def flat2 : List (Nat × Nat) → List Value
  | [] => []
  | p :: l => .int .i64 p.1 :: .int .i64 p.2 :: flat2 l
theorem flat2_append (a b : List (Nat × Nat)) : flat2 (a ++ b) = flat2 a ++ flat2 b := by
  induction a with
  | nil => rfl
  | cons c cs ih => simp [flat2, ih]

def noSh : Sh := (⟨#[]⟩, 0, 0, 0, 0)
def shapeAt (S : WS) (i : Nat) : Sh := S.shapes.getD i noSh
/-- The first i terms looked at. -/
def twinsTo (S : WS) : Nat → List (Nat × Nat) × WS
  | 0 => ([], S)
  | i + 1 => (if classAt S (fileM (twinsTo S i).2 (shapeAt S i) i).1 = classAt S i then (twinsTo S i).1 else (twinsTo S i).1 ++ [((fileM (twinsTo S i).2 (shapeAt S i) i).1, i)], (fileM (twinsTo S i).2 (shapeAt S i) i).2)
def twinsM (S : WS) : List (Nat × Nat) × WS := twinsTo S S.shapes.length

/-- What stays while twins are looked for. -/
structure Same (S R : WS) (i : Nat) : Prop where
  shapes : R.shapes = S.shapes
  classes : R.classes = S.classes
  numbers : R.numbers = S.numbers
  nums : R.nums = S.nums
  said : R.said = S.said
  trail : R.trail.length ≤ S.trail.length + i
  files : R.files ≤ S.files + i
  al : ∀ s t, R.alike s = some t → S.alike s = some t ∨ t < i

theorem twinsTo_same (S : WS) : ∀ i, Same S (twinsTo S i).2 i
  | 0 => ⟨rfl, rfl, rfl, rfl, rfl, Nat.le_refl _, Nat.le_refl _, fun _ _ h => .inl h⟩
  | i + 1 => by
    obtain ⟨h1, h2, h3, h4, h5, h6, h7, h8⟩ := twinsTo_same S i
    obtain ⟨r1, r2, r3, r4, r5, r6, r7⟩ := fileM_rows (twinsTo S i).2 (shapeAt S i) i
    refine ⟨r1.trans h1, r2.trans h2, r3.trans h3, r4.trans h4, r5.trans h5, by simp only [twinsTo]; omega, by simp only [twinsTo]; omega, fun s t h => ?_⟩
    simp only [twinsTo] at h
    unfold fileM at h
    split at h
    · exact (h8 s t h).imp id (fun e => by omega)
    · simp only [setF] at h
      split at h
      · cases h; exact .inr (by omega)
      · exact (h8 s t h).imp id (fun e => by omega)
theorem twinsTo_length (S : WS) : ∀ i, (twinsTo S i).1.length ≤ i
  | 0 => Nat.le_refl _
  | i + 1 => by
    have := twinsTo_length S i
    simp only [twinsTo]
    split
    · omega
    · simp; omega

theorem Fits.same {S R : WS} {s : Sh} (h : Fits S s) (hc : R.classes = S.classes) : Fits R s :=
  ⟨h.name, h.count, fun i hi => by rw [hc]; exact h.known i hi, h.small, fun i => by unfold classAt; rw [hc]; exact h.classes i⟩

theorem flatSh_get {l : List Sh} {i : Nat} {s : Sh} (h : l[i]? = some s) : (flatSh l)[i * 5]? = some (.string s.1) ∧ (flatSh l)[i * 5 + 1]? = some (.int .i64 s.2.1) ∧ (flatSh l)[i * 5 + 2]? = some (.int .i64 s.2.2.1) ∧ (flatSh l)[i * 5 + 3]? = some (.int .i64 s.2.2.2.1) ∧ (flatSh l)[i * 5 + 4]? = some (.int .i64 s.2.2.2.2) := by
  induction l generalizing i with
  | nil => simp at h
  | cons d ds ih =>
    cases i with
    | zero => simp at h; subst h; simp [flatSh]
    | succ i =>
      have := ih (i := i) (by simpa using h)
      have e : (i + 1) * 5 = i * 5 + 1 + 1 + 1 + 1 + 1 := by omega
      rw [e]
      simpa [flatSh] using this
/-- A shape in its row, cell by cell. -/
theorem row5_cells {w : World} {base e g len cap n : Nat} {l : List Sh} {s : Sh} {i : Nat} (h : w.ownsRow base e 5 (.slice (some ⟨g, 0, none⟩) len cap) n (flatSh l)) (hi : l[i]? = some s) :
    w.cell? ⟨g, i * 5, none⟩ = some (.string s.1) ∧ w.cell? ⟨g, i * 5 + 1, none⟩ = some (.int .i64 s.2.1) ∧ w.cell? ⟨g, i * 5 + 2, none⟩ = some (.int .i64 s.2.2.1) ∧ w.cell? ⟨g, i * 5 + 3, none⟩ = some (.int .i64 s.2.2.2.1) ∧ w.cell? ⟨g, i * 5 + 4, none⟩ = some (.int .i64 s.2.2.2.2) := by
  obtain ⟨hl, hr⟩ := h
  rcases hr with ⟨hv, _⟩ | ⟨g', cap', cur, hv, _, hg, _, _, hcs, htk⟩
  · cases hv
  · cases hv
    have hc := flatSh_get hi
    have key : ∀ j u, (flatSh l)[j]? = some u → w.cell? ⟨g, j, none⟩ = some u := by
      intro j u hu
      rw [cell_of_row w g j cur e (0, 0) hg]
      rw [← htk, List.getElem?_take] at hu
      split at hu
      · simpa using hu
      · cases hu
    exact ⟨key _ _ hc.1, key _ _ hc.2.1, key _ _ hc.2.2.1, key _ _ hc.2.2.2.1, key _ _ hc.2.2.2.2⟩

/-- Where the loop of 'twins' stands: the pairs in a row of their own. -/
structure Pairing (w wr : World) (wb : Nat) (H : Hd) (Z : Nat → Prop) (v : Value) (ps : List (Nat × Nat)) (S : WS) : Prop where
  ex : ∃ bk, WebAt wr wb { H with backs := bk } (fun k => (Z k ∨ w.heap.size ≤ k) ∧ v.ownBlock ≠ some k) S ∧ ∀ k ∈ ({ H with backs := bk } : Hd).blocks wb, k ∈ H.blocks wb ∨ w.heap.size ≤ k
  row : wr.ownsRow w.heap.size 174 2 v ps.length (flat2 ps)
  upd : Upd (H.blocks wb) w wr
end Go.Proofs.YtmfkpllnmmfpiaaDoor
