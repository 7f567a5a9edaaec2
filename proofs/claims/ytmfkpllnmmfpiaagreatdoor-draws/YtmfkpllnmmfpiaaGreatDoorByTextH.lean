/-
  The sort of package slices at this program, by the contract that the library has of it: which function and which type stands where.
-/
import Derived.Shelf.SlSortCmp.WholeK
import Derived.Ground.SlsfProg
import Derived.Test.YtmfkpllnmmfpiaaGreatDoorProg
import Derived.Test.YtmfkpllnmmfpiaaGreatDoorPlainTextH
import Derived.Laws.MakeOwn
import Derived.Lib.Bytealg
import Derived.Lib.Strings
namespace Go.Proofs.YtmfkpllnmmfpiaaGreatDoor
open Go.Shelf
def sortT_ren : Go.Shelf.Ren := ⟨fun | 6 => 115 | 15 => 119 | 14 => 135 | 28 => 145 | 29 => 146 | 20 => 161 | 21 => 162 | 22 => 163 | 23 => 164 | 24 => 165 | 25 => 166 | 26 => 167 | 27 => 168 | 46 => 179 | 47 => 171 | 48 => 172 | 49 => 180 | 50 => 181 | 57 => 184 | n => n, fun | 22 => 137 | 24 => 147 | 25 => 192 | 3 => 3 | 39 => 195 | 0 => 0 | 53 => 220 | 55 => 222 | 4 => 4 | 46 => 214 | 45 => 213 | 50 => 189 | 5 => 5 | 9 => 9 | 66 => 240 | 70 => 244 | 76 => 251 | 77 => 252 | n => n, fun | n => n⟩
theorem sortT : Go.Proofs.SlLaysF0.n6 Tryz.prog sortT_ren := {
  mixed := by kernel_rfl
  f6 := ⟨Tryz.f115.name, by decide, Tryz.func115.trans (congrArg some (by kernel_rfl))⟩
  f14 := ⟨Tryz.f135.name, by decide, Tryz.func135.trans (congrArg some (by kernel_rfl))⟩
  f15 := Tryz.func119.trans (congrArg some (by kernel_rfl))
  f20 := ⟨Tryz.f161.name, by decide, Tryz.func161.trans (congrArg some (by kernel_rfl))⟩
  f21 := ⟨Tryz.f162.name, by decide, Tryz.func162.trans (congrArg some (by kernel_rfl))⟩
  f22 := ⟨Tryz.f163.name, by decide, Tryz.func163.trans (congrArg some (by kernel_rfl))⟩
  f23 := ⟨Tryz.f164.name, by decide, Tryz.func164.trans (congrArg some (by kernel_rfl))⟩
  f24 := ⟨Tryz.f165.name, by decide, Tryz.func165.trans (congrArg some (by kernel_rfl))⟩
  f25 := ⟨Tryz.f166.name, by decide, Tryz.func166.trans (congrArg some (by kernel_rfl))⟩
  f26 := ⟨Tryz.f167.name, by decide, Tryz.func167.trans (congrArg some (by kernel_rfl))⟩
  f27 := ⟨Tryz.f168.name, by decide, Tryz.func168.trans (congrArg some (by kernel_rfl))⟩
  f28 := Tryz.func145.trans (congrArg some (by kernel_rfl))
  f29 := Tryz.func146.trans (congrArg some (by kernel_rfl))
  f46 := ⟨Tryz.f179.name, by decide, Tryz.func179.trans (congrArg some (by kernel_rfl))⟩
  f47 := Tryz.func171.trans (congrArg some (by kernel_rfl))
  f48 := Tryz.func172.trans (congrArg some (by kernel_rfl))
  f49 := ⟨Tryz.f180.name, by decide, Tryz.func180.trans (congrArg some (by kernel_rfl))⟩
  f50 := ⟨Tryz.f181.name, by decide, Tryz.func181.trans (congrArg some (by kernel_rfl))⟩
  f57 := ⟨Tryz.f184.name, by decide, Tryz.func184.trans (congrArg some (by kernel_rfl))⟩
  t0 := Tryz.underlying0
  a0 := Tryz.isAgg0
  z0 := Tryz.sizeOf0
  v0 := Tryz.zeroValue0
  t3 := Tryz.underlying3
  a3 := Tryz.isAgg3
  z3 := Tryz.sizeOf3
  v3 := Tryz.zeroValue3
  t4 := Tryz.underlying4
  a4 := Tryz.isAgg4
  z4 := Tryz.sizeOf4
  v4 := Tryz.zeroValue4
  t5 := Tryz.underlying5
  a5 := Tryz.isAgg5
  z5 := Tryz.sizeOf5
  v5 := Tryz.zeroValue5
  t9 := Tryz.underlying9
  a9 := Tryz.isAgg9
  z9 := Tryz.sizeOf9
  v9 := Tryz.zeroValue9
  t22 := Tryz.underlying137
  a22 := Tryz.isAgg137
  z22 := Tryz.sizeOf137
  v22 := Tryz.zeroValue137
  t25 := Tryz.underlying192
  a25 := Tryz.isAgg192
  z25 := Tryz.sizeOf192
  v25 := Tryz.zeroValue192
  t39 := Tryz.underlying195
  a39 := Tryz.isAgg195
  z39 := Tryz.sizeOf195
  v39 := Tryz.zeroValue195
  t45 := Tryz.underlying213
  a45 := Tryz.isAgg213
  z45 := Tryz.sizeOf213
  v45 := Tryz.zeroValue213
  t46 := Tryz.underlying214
  a46 := Tryz.isAgg214
  z46 := Tryz.sizeOf214
  v46 := Tryz.zeroValue214
  t50 := Tryz.underlying189
  a50 := Tryz.isAgg189
  z50 := Tryz.sizeOf189
  v50 := Tryz.zeroValue189
  t53 := Tryz.underlying220
  a53 := Tryz.isAgg220
  z53 := Tryz.sizeOf220
  v53 := Tryz.zeroValue220
  t55 := Tryz.underlying222
  a55 := Tryz.isAgg222
  z55 := Tryz.sizeOf222
  v55 := Tryz.zeroValue222
  t66 := Tryz.underlying240
  a66 := Tryz.isAgg240
  z66 := Tryz.sizeOf240
  v66 := Tryz.zeroValue240
  t70 := Tryz.underlying244
  a70 := Tryz.isAgg244
  z70 := Tryz.sizeOf244
  v70 := Tryz.zeroValue244
  t76 := Tryz.underlying251
  a76 := Tryz.isAgg251
  z76 := Tryz.sizeOf251
  v76 := Tryz.zeroValue251
  t77 := Tryz.underlying252
  a77 := Tryz.isAgg252
  z77 := Tryz.sizeOf252
  v77 := Tryz.zeroValue252 }
end Go.Proofs.YtmfkpllnmmfpiaaGreatDoor

/-
  The known terms' texts in their order: 'byText'.
-/
namespace Go.Proofs.YtmfkpllnmmfpiaaGreatDoor
open Go.RowKit Go.Shelf Go.Sort

set_option maxHeartbeats 400000 in
set_option maxRecDepth 100000 in
theorem cmpString_any (a b : ByteArray) (w : World) :
    Calls Tryz.prog 136 #[.string a, .string b] w fun e w' => e = .returned (.int .i64 (Lib.compareBytes a.data.toList b.data.toList)) ∧ w' = w := by
  go_enter Tryz.func136, Tryz.ntmps136
  go_wp2
  rw [run_callFunc_extern Tryz.func169 (by kernel_rfl) (by kernel_rfl) (by kernel_rfl) (e := Extern.BytealgCompare.compare) (by kernel_rfl), Lib.run_compareString]
  simp only [Result.andThen]
  rw [Oper.upon_value]
  go_wp2
  go_ret
  exact ⟨rfl, rfl⟩
set_option maxHeartbeats 400000 in
theorem stringsCompare_any (a b : ByteArray) (w : World) :
    Calls Tryz.prog 117 #[.string a, .string b] w fun e w' => e = .returned (.int .i64 (Lib.compareBytes a.data.toList b.data.toList)) ∧ w' = w := by
  have HC := hide (cmpString_any a b w)
  go_enter Tryz.func117, Tryz.ntmps117
  go_wp2_with (go_at_call 136; refine HC.out.mono ?_; rintro e w' ⟨rfl, hw⟩; rw [hw]; clear hw w')
  go_ret
  exact ⟨rfl, rfl⟩

/-- A text and its term's number: two cells. -/
abbrev TN := ByteArray × Nat
def encT (x : TN) : List Value := [.string x.1, .int .i64 x.2]
def cmpT (x y : TN) : Int := Lib.compareBytes x.1.data.toList y.1.data.toList
set_option maxHeartbeats 400000 in
theorem cmpText_any (x y : TN) (W : World) : Calls Tryz.prog 116 #[.agg #[.string x.1, .int .i64 x.2], .agg #[.string y.1, .int .i64 y.2]] W fun e w' => e = .returned (.int .i64 (cmpT x y)) ∧ ∃ q os', w' = grow (W.drewN q) os' := by
  have HC := hide (fun W' => stringsCompare_any x.1 y.1 W')
  unfold cmpT
  generalize Lib.compareBytes x.1.data.toList y.1.data.toList = r at *
  go_enter Tryz.func116, Tryz.ntmps116
  go_wp2_with (go_at_call 117; refine (HC.out _).mono ?_; rintro e w' ⟨rfl, hw⟩; rw [hw]; clear hw w')
  go_ret
  exact ⟨rfl, 0, _, by rw [alloc_eq_grow, alloc_eq_grow, grow_grow]; rfl⟩
theorem cmpLays_text (blk off size : Nat) (w : World) : CmpLays Tryz.prog 116 #[] encT 2 cmpT blk off size w := fun _ _ _ _ x y => cmpText_any x y _

theorem cmpB_cons (a b : UInt8) (l m : List UInt8) : Lib.compareBytes (a :: l) (b :: m) = if a < b then -1 else if b < a then 1 else Lib.compareBytes l m := rfl
theorem cmpB_lt : ∀ a b : List UInt8, (Lib.compareBytes a b < 0 ↔ a < b) ∧ (Lib.compareBytes a b = 0 ↔ a = b)
  | [], [] => by simp [Lib.compareBytes]
  | [], b :: m => by simp [Lib.compareBytes]
  | a :: l, [] => by simp [Lib.compareBytes]
  | a :: l, b :: m => by
    obtain ⟨h1, h2⟩ := cmpB_lt l m
    rw [cmpB_cons, List.cons_lt_cons_iff]
    by_cases hab : a < b
    · rw [if_pos hab]
      refine ⟨by simp [hab], by simp; rintro rfl; exact absurd hab (UInt8.lt_irrefl a)⟩
    · rw [if_neg hab]
      by_cases hba : b < a
      · rw [if_pos hba]
        have hne : a ≠ b := fun e => by subst e; exact UInt8.lt_irrefl a hba
        refine ⟨by simp [hab, hne], by simp [hne]⟩
      · rw [if_neg hba]
        have he : a = b := UInt8.toNat_inj.1 (by
          have g1 : ¬ a.toNat < b.toNat := hab
          have g2 : ¬ b.toNat < a.toNat := hba
          omega)
        subst he
        refine ⟨by simp [hab, h1], by simp [h2]⟩
def ltT : TN → TN → Bool := ltOf cmpT
theorem ltT_iff (x y : TN) : ltT x y = true ↔ x.1.data.toList < y.1.data.toList := by
  unfold ltT ltOf cmpT
  rw [decide_eq_true_eq]
  exact (cmpB_lt _ _).1
theorem swoT : SWO (ltOf cmpT) where
  irrefl x := by
    have h : ¬ ltT x x = true := fun h => List.lt_irrefl _ ((ltT_iff x x).1 h)
    simpa [ltT] using h
  trans x y z h1 h2 := (ltT_iff x z).2 (List.lt_trans ((ltT_iff x y).1 h1) ((ltT_iff y z).1 h2))
  ntrans x y z h1 h2 := by
    have g1 : ¬ x.1.data.toList < y.1.data.toList := fun h => by have := (ltT_iff x y).2 h; unfold ltT at this; rw [h1] at this; cases this
    have g2 : ¬ y.1.data.toList < z.1.data.toList := fun h => by have := (ltT_iff y z).2 h; unfold ltT at this; rw [h2] at this; cases this
    have g3 : ¬ ltT x z = true := fun h => List.not_lt.2 (List.le_trans (List.not_lt.1 g2) (List.not_lt.1 g1)) ((ltT_iff x z).1 h)
    simpa [ltT] using g3
end Go.Proofs.YtmfkpllnmmfpiaaGreatDoor

/-
  'byText', walked: the known terms' texts with their numbers, in the texts' order.
-/
namespace Go.Proofs.YtmfkpllnmmfpiaaGreatDoor
open Go.RowKit Go.Shelf Go.Sort

theorem info_textOf : (Tryz.prog.info? 147).map (fun i => (i.zero, i.size, i.bytes)) = some (some (.agg #[.string ⟨#[]⟩, .int .i64 0]), 2, 24) := by kernel_rfl

def flatT : List TN → List Value
  | [] => []
  | x :: l => .string x.1 :: .int .i64 x.2 :: flatT l
theorem flatT_append (a b : List TN) : flatT (a ++ b) = flatT a ++ flatT b := by
  induction a with
  | nil => rfl
  | cons c cs ih => simp [flatT, ih]
theorem flatT_get : ∀ (l : List TN) (j : Nat) (x : TN), l[j]? = some x → (flatT l)[j * 2]? = some (.string x.1) ∧ (flatT l)[j * 2 + 1]? = some (.int .i64 x.2)
  | [], _, _, h => by simp at h
  | y :: l, 0, x, h => by
    simp only [List.getElem?_cons_zero, Option.some.injEq] at h
    subst h
    exact ⟨rfl, rfl⟩
  | y :: l, j + 1, x, h => by
    have := flatT_get l j x (by simpa using h)
    rw [show (j + 1) * 2 = j * 2 + 1 + 1 by omega]
    exact this
theorem flatT_length : ∀ l : List TN, (flatT l).length = l.length * 2
  | [] => rfl
  | _ :: l => by simp [flatT, flatT_length l]; omega

/-- All known terms' texts, by their numbers. -/
def textsTo (S : WS) (j : Nat) : List TN := (List.range j).map fun i => (plainT S i, i)
theorem textsTo_succ (S : WS) (j : Nat) : textsTo S (j + 1) = textsTo S j ++ [(plainT S j, j)] := by simp [textsTo, List.range_succ]
theorem textsTo_length (S : WS) (j : Nat) : (textsTo S j).length = j := by simp [textsTo]

/-- Where the loop of 'byText' stands. -/
structure Texting (w wr : World) (wb : Nat) (H : Hd) (Z : Nat → Prop) (S : WS) (v : Value) (j : Nat) : Prop where
  web : WebAt wr wb H Z S
  row : wr.ownsRow w.heap.size 147 2 v j (flatT (textsTo S j))
  upd : Upd [] w wr
  made : v.ownBlock ≠ none
theorem own_ge {w : World} {base e size n k : Nat} {v : Value} {xs : List Value} (h : w.ownsRow base e size v n xs) (hk : v.ownBlock = some k) : base ≤ k := by
  rcases h.2 with ⟨hv, _⟩ | ⟨g, cap, cur, hv, hg, _⟩
  · rw [hv] at hk; simp [Value.ownBlock] at hk
  · rw [hv] at hk
    simp only [own_slice, Option.some.injEq] at hk
    subst hk
    exact hg
theorem Texting.next {w wr w2 w3 : World} {wb j g cap : Nat} {H : Hd} {Z : Nat → Prop} {S : WS} {v : Value} {t : ByteArray} {X : Obj} (h : Texting w wr wb H Z S v j) (hZ : ∀ k, Z k → k < w.heap.size) (hu2 : Upd [] wr w2) (ht : t = plainT S j)
    (hown : w3.ownsRow w.heap.size 147 2 (.slice (some ⟨g, 0, none⟩) (j + 1) cap) (j + 1) (flatT (textsTo S j) ++ [.string t, .int .i64 j])) (hgrow : (w2.alloc X).grownBy w3 v.ownBlock) : Texting w w3 wb H Z S (.slice (some ⟨g, 0, none⟩) (j + 1) cap) (j + 1) := by
  have U : Upd v.ownBlock.toList wr w3 := ((hu2.alloc X).mono (fun x hx _ => by cases hx)).trans (Upd.of_grown hgrow)
  have hge : ∀ k, v.ownBlock = some k → w.heap.size ≤ k := fun k hk => own_ge h.row hk
  refine ⟨h.web.later U (fun k hk hm => ?_), ?_, h.upd.trans' U (fun x hx hl => ?_), by simp [own_slice]⟩
  · have := hge k (by simpa using hm)
    have := hZ k hk
    omega
  · rw [textsTo_succ, flatT_append]
    subst ht
    exact hown
  · have := hge x (by simpa using hx)
    omega

/-- A slice of texts with their numbers, to be read. -/
structure TextsAt (w : World) (base : Nat) (v : Value) (ts : List TN) : Prop where
  ex : ∃ g cap, v = .slice (some ⟨g, 0, none⟩) ts.length cap ∧ ts.length ≤ cap ∧ cap ≤ maxLen ∧ base ≤ g ∧ g < w.heap.size ∧ ∀ (j : Nat) (x : TN), ts[j]? = some x → w.cell? ⟨g, j * 2, none⟩ = some (.string x.1) ∧ w.cell? ⟨g, j * 2 + 1, none⟩ = some (.int .i64 x.2)
theorem TextsAt.later {w w' : World} {L : List Nat} {base : Nat} {v : Value} {ts : List TN} (h : TextsAt w base v ts) (U : Upd L w w') (hL : ∀ k ∈ L, k < base ∨ w.heap.size ≤ k) : TextsAt w' base v ts := by
  obtain ⟨g, cap, h1, h2, h3, h4, h5, h6⟩ := h.ex
  have hn : g ∉ L := fun hm => by have := hL g hm; omega
  exact ⟨g, cap, h1, h2, h3, h4, Nat.lt_of_lt_of_le h5 U.size, fun j x hj => ⟨(U.cell (p := ⟨g, j * 2, none⟩) h5 hn).trans (h6 j x hj).1, (U.cell (p := ⟨g, j * 2 + 1, none⟩) h5 hn).trans (h6 j x hj).2⟩⟩

theorem flatK_T (d : Array TN) : flatK encT 2 d = (flatT d.toList).toArray := by
  refine ext_get! (by simp [flatT_length]) fun t ht => ?_
  rw [size_flatK] at ht
  rw [get_flatK encT 2 d t ht]
  have hq : t / 2 < d.size := by omega
  have hd : d.toList[t / 2]? = some d[t / 2] := by simp [hq]
  obtain ⟨g1, g2⟩ := flatT_get d.toList (t / 2) d[t / 2] hd
  have e1 : d[t / 2]! = d[t / 2] := getElem!_pos d (t / 2) hq
  rw [e1]
  have hsz : t < (flatT d.toList).toArray.size := by simp [flatT_length]; exact ht
  rw [getElem!_pos _ t hsz]
  have hl : t < (flatT d.toList).length := by simpa using hsz
  have e2 : (flatT d.toList).toArray[t] = (flatT d.toList)[t] := by simp
  rw [e2]
  rcases Nat.mod_two_eq_zero_or_one t with hm | hm
  · rw [hm]
    have ht2 : t / 2 * 2 = t := by omega
    rw [ht2, List.getElem?_eq_getElem hl] at g1
    rw [Option.some.inj g1]
    rfl
  · rw [hm]
    have ht2 : t / 2 * 2 + 1 = t := by omega
    rw [ht2, List.getElem?_eq_getElem hl] at g2
    rw [Option.some.inj g2]
    rfl
theorem upd_sort {w : World} (g m : Nat) (d : Array TN) (os : Array Obj) : Upd [g] w (sortWorldK encT 2 w g 0 m d os) := by
  unfold sortWorldK putRowK putRow
  refine ⟨rfl, rfl, rfl, ?_, fun k hk hn => ?_⟩
  · simp [grow, mapBlock, Sort.ahead]
  · simp only [List.mem_singleton] at hn
    simp only [grow, mapBlock, Sort.ahead]
    rw [Array.getElem?_append_left (by simpa using hk)]
    rw [Array.getElem?_modify, if_neg (fun e => hn e.symm)]

/-- The texts in their order. -/
def sortedT (S : WS) : List TN := (Sort.pdq (ltOf cmpT) (textsTo S S.shapes.length).toArray 0 (textsTo S S.shapes.length).toArray.size (Lib.bitLen (textsTo S S.shapes.length).toArray.size) true true).toList
theorem sortedT_perm (S : WS) : PermIn 0 S.shapes.length (textsTo S S.shapes.length).toArray (sortedT S).toArray ∧ SortedIn (ltOf cmpT) 0 S.shapes.length (sortedT S).toArray := by
  have h := pdq_sorts (ltOf cmpT) swoT (textsTo S S.shapes.length).toArray 0 (textsTo S S.shapes.length).toArray.size (Lib.bitLen (textsTo S S.shapes.length).toArray.size) true true (Nat.zero_le _) (Nat.le_refl _) (Or.inl rfl)
  have e : (textsTo S S.shapes.length).toArray.size = S.shapes.length := by simp [textsTo_length]
  unfold sortedT
  rw [Array.toArray_toList]
  rw [e] at h ⊢
  exact h
theorem holdsT {w : World} {base g cap n : Nat} {ts : List TN} (h : w.ownsRow base 147 2 (.slice (some ⟨g, 0, none⟩) n cap) n (flatT ts)) (hl : ts.length = n) : HoldsK encT 2 w g 0 ts.toArray := by
  intro j hj
  rw [flatK_T] at hj ⊢
  have hj' : j < (flatT ts).length := by simpa using hj
  have h2 := flatT_length ts
  rw [Nat.zero_add, h.cellAt j (by omega), List.getElem?_eq_getElem hj', getElem!_pos _ j hj]
  exact ⟨by simp, h.frozenAt j⟩
theorem sorted_at {w : World} {base g cap m : Nat} {ts : List TN} {d : Array TN} {os : Array Obj} (h : w.ownsRow base 147 2 (.slice (some ⟨g, 0, none⟩) ts.length cap) ts.length (flatT ts)) (hs : d.size = ts.length) : TextsAt (sortWorldK encT 2 w g 0 m d os) base (.slice (some ⟨g, 0, none⟩) ts.length cap) d.toList := by
  have hg : g < w.heap.size := ownsRow_lt h rfl
  have hH := holdsT h rfl
  have hP := holdsK_putRowK encT 2 (Sort.ahead w m) g 0 ts.toArray d (holdsK_ahead encT 2 w m g 0 _ hH) (by simp [hs])
  have hsz : (putRowK encT 2 (Sort.ahead w m) g 0 d).heap.size = w.heap.size := by simp [putRowK, putRow, mapBlock, Sort.ahead]
  have hG : HoldsK encT 2 (sortWorldK encT 2 w g 0 m d os) g 0 d := holdsK_grow encT 2 _ os g 0 d (by omega) hP
  rcases ownsRow_slice h with ⟨h1, _⟩ | ⟨g', cap', h1, h2, h3⟩
  · cases h1
  · cases h1
    refine ⟨g, cap, by simp [hs], by simpa [hs] using h2, h3, own_ge h rfl, Nat.lt_of_lt_of_le hg (upd_sort g m d os).size, fun j x hj => ?_⟩
    have hlt : j < d.size := by
      have := (List.getElem?_eq_some_iff.1 hj).1
      simpa using this
    have hx : d[j]! = x := by
      rw [getElem!_pos d j hlt]
      have : d.toList[j]? = some d[j] := by simp [hlt]
      rw [this] at hj
      exact Option.some.inj hj
    have c0 := (hG.cell (i := j) (c := 0) hlt (by omega)).1
    have c1 := (hG.cell (i := j) (c := 1) hlt (by omega)).1
    rw [hx] at c0 c1
    rw [Nat.zero_add] at c0 c1
    exact ⟨c0, c1⟩
theorem sortedT_length (S : WS) : (sortedT S).length = S.shapes.length := by
  have := (sortedT_perm S).1.1
  simpa [textsTo_length] using this

set_option maxHeartbeats 4000000 in
set_option maxRecDepth 100000 in
theorem byText_any (w : World) (wb : Nat) (H : Hd) (Z : Nat → Prop) (S : WS) (h : WebAt w wb H Z S) (hB : Base S) (hZ : ∀ k, Z k → k < w.heap.size) (hn : S.shapes.length ≤ 1000) (hsm : ∀ g j, (plainF S g j).length ≤ 1000) :
    Calls Tryz.prog 83 #[.pointer (some ⟨wb, 0, none⟩)] w fun e w' => ∃ v, e = .returned v ∧ Upd [] w w' ∧ TextsAt w' w.heap.size v (sortedT S) := by
  obtain ⟨i0, hi, hz0, hz1, hz2⟩ := info_parts info_textOf
  obtain ⟨w1, hmk, hown1, hgr1⟩ := run_make_own (P := Tryz.prog) w w.heap.size 137 147 i0 _ 2 Tryz.underlying137 hi hz0 hz1 .i64 .i64 S.shapes.length (by rw [hz2]; omega) (by unfold maxLen; omega) (Nat.le_refl _)
  have U1 : Upd [] w w1 := Upd.of_grown hgr1
  obtain ⟨g0, cap0, hv0⟩ := slice_len h.rs
  have c1 := h.c1
  rw [hv0] at c1
  have c1' := (U1.cell (p := ⟨wb, 2, none⟩) h.lt (by simp)).trans c1
  have hstart : Texting w w1 wb H Z S (.slice (some ⟨w.heap.size, 0, none⟩) 0 S.shapes.length) 0 := ⟨h.later U1 (fun _ _ => by simp), hown1, U1, by simp [own_slice]⟩
  have HZ := hide hZ
  have HP := hide (fun (wr : World) (v : Value) (j : Nat) (ht : Texting w wr wb H Z S v j) (hj : j < S.shapes.length) => plain_any wr wb H Z S j ht.web hB (fun k hk => Nat.lt_of_lt_of_le (hZ k hk) ht.upd.size) hj hn hsm)
  have eg : ∀ args w, (callFunc 116 args).run Tryz.prog w = .ok (.enter 116 args) w := enters_of Tryz.func116 (by kernel_rfl) rfl
  have HCon : Hid (∀ (wr : World) (g cap : Nat) (ht : Texting w wr wb H Z S (.slice (some ⟨g, 0, none⟩) S.shapes.length cap) S.shapes.length), Calls Tryz.prog 115 #[.slice (some ⟨g, 0, none⟩) S.shapes.length cap, .func (.func 116) #[] #[]] wr fun e w' => e = .returned (.tuple #[]) ∧ TextsAt w' w.heap.size (.slice (some ⟨g, 0, none⟩) S.shapes.length cap) (sortedT S) ∧ Upd [] w w') := fun wr g cap ht => by
    have hl := textsTo_length S S.shapes.length
    have hrow := ht.row
    have hsz : (textsTo S S.shapes.length).toArray.size = S.shapes.length := by simp [hl]
    have hc := AnyQ.slices_SortFunc_eq sortT 2 Tryz.isAgg147 Tryz.sizeOf147 encT (fun _ => rfl) (fun x v hv => by simp [encT] at hv; rcases hv with rfl | rfl <;> rfl) cmpT swoT 116 #[] g 0 cap (textsTo S S.shapes.length).toArray wr eg (cmpLays_text g 0 _ wr) (holdsT hrow hl) (ownsRow_lt hrow rfl) (by rw [hsz]; omega)
    rw [hsz] at hc
    change Calls Tryz.prog 115 _ _ _ at hc
    refine hc.mono fun e w' hw => ?_
    obtain ⟨he, m, os, rfl⟩ := hw
    have hd : (Sort.pdq (ltOf cmpT) (textsTo S S.shapes.length).toArray 0 S.shapes.length (Lib.bitLen S.shapes.length) true true).toList = sortedT S := by unfold sortedT; rw [hsz]
    have hds : (Sort.pdq (ltOf cmpT) (textsTo S S.shapes.length).toArray 0 S.shapes.length (Lib.bitLen S.shapes.length) true true).size = (textsTo S S.shapes.length).length := by
      rw [hl]
      have := sortedT_length S
      rw [← hd] at this
      simpa using this
    refine ⟨he, ?_, ht.upd.trans' (upd_sort g m _ os) (fun x hx hlt => by simp only [List.mem_singleton] at hx; subst hx; have := own_ge hrow (k := x) rfl; omega)⟩
    have := sorted_at (m := m) (os := os) (by rw [hl]; exact hrow) hds
    rw [hd, hl] at this
    exact this
  clear h hB hsm hown1 hgr1 hv0
  go_enter Tryz.func83, Tryz.ntmps83
  go_wp2
  go_loopw [3, 16] (fun v i wr => ∃ j : Nat, j ≤ S.shapes.length ∧ i = .int .i64 j ∧ Hid (Texting w wr wb H Z S v j)) (fun _ i _ => S.shapes.length - (intOf i).toNat)
  case atStart => exact ⟨0, Nat.zero_le _, rfl, hstart⟩
  case round =>
    obtain ⟨j, hj, rfl, HT⟩ := hrel
    clear hstart hmk c1 c1' U1 hZ
    by_cases hjn : j < S.shapes.length
    · have hjn' : (j : Int) < (S.shapes.length : Int) := by omega
      have HC := HP.out wr u3 j HT.out hjn
      obtain ⟨t, ht⟩ : ∃ t, t = plainT S j := ⟨_, rfl⟩
      rw [← ht] at HC
      have Ht := hide ht
      have HC := hide HC
      have hone : ∀ u ∈ [Value.string t, .int .i64 j], u.oneCell' = true := by intro u hu'; simp at hu'; rcases hu' with rfl | rfl <;> rfl
      have hlm : j + 1 ≤ maxLen := by unfold maxLen; omega
      clear ht HP HCon eg
      go_wp2_with (first
        | (go_at_call 88; refine HC.out.mono ?_; rintro e w2 ⟨rfl, hu2⟩; have Hrow2 := hide ((hu2.alloc (.cells #[.string t, .int .i64 j] 147)).ownsRow HT.out.row (fun _ _ => by simp)); have Hnews := hide (World.news_of_block (heap_alloc_new w2 (.cells #[.string t, .int .i64 j] 147))); have Hbase : Hid (w.heap.size ≤ (w2.alloc (.cells #[.string t, .int .i64 j] 147)).heap.size) := (by have h1 := HT.out.upd.size; have h2 := hu2.size; show _ ≤ _; simp; omega); have Hu2 := hide hu2; clear hu2)
        | (at_builtin; refine wpList_append_lies _ rfl _ _ 137 rfl w.heap.size 147 i0 (.agg #[.string ⟨#[]⟩, .int .i64 0]) 2 24 Tryz.underlying137 hi hz0 hz1 hz2 rfl (by decide) _ _ _ rfl Hrow2.out ⟨w2.heap.size, 0, none⟩ 1 1 [.string t, .int .i64 j] rfl rfl Hnews.out hone (by decide) hlm (by omega) Hbase.out _ rfl ?_; intro g cap w3 hown' hgrow hat hlt3))
      refine ⟨⟨j + 1, by omega, by go_num, ?_⟩, by simp [intOf]; omega⟩
      exact HT.out.next HZ.out Hu2.out Ht.out hown' hgrow
    · obtain rfl : j = S.shapes.length := by omega
      have hge : ¬ ((S.shapes.length : Nat) : Int) < (S.shapes.length : Int) := by omega
      obtain ⟨g, cap, rfl⟩ : ∃ g cap, u3 = .slice (some ⟨g, 0, none⟩) S.shapes.length cap := by
        rcases ownsRow_slice HT.out.row with ⟨h1, _⟩ | ⟨g, cap, h1, _⟩
        · exact absurd (by rw [h1]; rfl) HT.out.made
        · exact ⟨g, cap, h1⟩
      have HC := hide (HCon.out wr g cap HT.out)
      clear HP HCon HT hjn
      go_wp2_with (go_at_call 115; refine HC.out.mono ?_; rintro e w2 ⟨rfl, ht2, hu2⟩; have Ht2 := hide ht2; have Hu2 := hide hu2; clear ht2 hu2)
      go_ret
      exact ⟨_, rfl, Hu2.out, Ht2.out⟩
end Go.Proofs.YtmfkpllnmmfpiaaGreatDoor
