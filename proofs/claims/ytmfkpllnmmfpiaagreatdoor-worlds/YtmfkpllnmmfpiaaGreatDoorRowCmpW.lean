/- ByText, RowCmp -/
import Derived.Test.YtmfkpllnmmfpiaaGreatDoorTellW
import Derived.Deep.RegionHeld3
namespace Go.Proofs.YtmfkpllnmmfpiaaGreatDoor
open Go.RowKit Go.Shelf Go.Sort
theorem info_textOf : (Tryz.prog.info? 147).map (fun i => (i.zero, i.size, i.bytes)) = some (some (.agg #[.string ⟨#[]⟩, .int .i64 0]), 2, 24) := by kernel_rfl
def flatT : List TN → List Value
 | [] => []
 | x :: l => .string x.1 :: .int .i64 x.2 :: flatT l
theorem flatT_append (a b : List TN) : flatT (a ++ b) = flatT a ++ flatT b := by
 induction a with
 | nil => rfl
 | cons c cs ih => simp [flatT, ih]
theorem flatT_get : ∀ (l : List TN) (j : Nat) (x : TN), l[j]? = some x → (flatT l)[j * 2]? = some (.string x.1) ∧ (flatT l)[j * 2 + 1]? = some (.int .i64 x.2)
 | [], _, _, h => by simp at h
 | y :: l, 0, x, h => by
  simp only [List.getElem?_cons_zero, Option.some.injEq] at h
  subst h
  exact ⟨rfl, rfl⟩
 | y :: l, j + 1, x, h => by
  have := flatT_get l j x (by simpa using h)
  rw [show (j + 1) * 2 = j * 2 + 1 + 1 by omega]
  exact this
theorem flatT_length : ∀ l : List TN, (flatT l).length = l.length * 2
 | [] => rfl
 | _ :: l => by simp [flatT, flatT_length l]; omega
def textsTo (S : WS) (j : Nat) : List TN := (List.range j).map fun i => (plainT S i, i)
theorem textsTo_succ (S : WS) (j : Nat) : textsTo S (j + 1) = textsTo S j ++ [(plainT S j, j)] := by simp [textsTo, List.range_succ]
theorem textsTo_length (S : WS) (j : Nat) : (textsTo S j).length = j := by simp [textsTo]
structure Texting (w wr : World) (wb : Nat) (H : Hd) (Z : Nat → Prop) (S : WS) (v : Value) (j : Nat) : Prop where
 web : WebAt wr wb H Z S
 row : wr.ownsRow w.heap.size 147 2 v j (flatT (textsTo S j))
 upd : Upd [] w wr
 made : v.ownBlock ≠ none
theorem own_ge {w : World} {base e size n k : Nat} {v : Value} {xs : List Value} (h : w.ownsRow base e size v n xs) (hk : v.ownBlock = some k) : base ≤ k := by
 rcases h.2 with ⟨hv, _⟩ | ⟨g, cap, cur, hv, hg, _⟩
 ·rw [hv] at hk; simp [Value.ownBlock] at hk
 ·rw [hv] at hk
  simp only [own_slice, Option.some.injEq] at hk
  subst hk
  exact hg
theorem Texting.next {w wr w2 w3 : World} {wb j g cap : Nat} {H : Hd} {Z : Nat → Prop} {S : WS} {v : Value} {t : ByteArray} {X : Obj} (h : Texting w wr wb H Z S v j) (hZ : ∀ k, Z k → k < w.heap.size) (hu2 : Upd [] wr w2) (ht : t = plainT S j)
  (hown : w3.ownsRow w.heap.size 147 2 (.slice (some ⟨g, 0, none⟩) (j + 1) cap) (j + 1) (flatT (textsTo S j) ++ [.string t, .int .i64 j])) (hgrow : (w2.alloc X).grownBy w3 v.ownBlock) : Texting w w3 wb H Z S (.slice (some ⟨g, 0, none⟩) (j + 1) cap) (j + 1) := by
 have U : Upd v.ownBlock.toList wr w3 := ((hu2.alloc X).mono (fun x hx _ => by cases hx)).trans (Upd.of_grown hgrow)
 have hge : ∀ k, v.ownBlock = some k → w.heap.size ≤ k := fun k hk => own_ge h.row hk
 refine ⟨h.web.later U (fun k hk hm => ?_), ?_, h.upd.trans' U (fun x hx hl => ?_), by simp [own_slice]⟩
 ·have := hge k (by simpa using hm)
  have := hZ k hk
  omega
 ·rw [textsTo_succ, flatT_append]
  subst ht
  exact hown
 ·have := hge x (by simpa using hx)
  omega
structure TextsAt (w : World) (base : Nat) (v : Value) (ts : List TN) : Prop where
 ex : ∃ g cap, v = .slice (some ⟨g, 0, none⟩) ts.length cap ∧ ts.length ≤ cap ∧ cap ≤ maxLen ∧ base ≤ g ∧ g < w.heap.size ∧ ∀ (j : Nat) (x : TN), ts[j]? = some x → w.cell? ⟨g, j * 2, none⟩ = some (.string x.1) ∧ w.cell? ⟨g, j * 2 + 1, none⟩ = some (.int .i64 x.2)
theorem TextsAt.later {w w' : World} {L : List Nat} {base : Nat} {v : Value} {ts : List TN} (h : TextsAt w base v ts) (U : Upd L w w') (hL : ∀ k ∈ L, k < base ∨ w.heap.size ≤ k) : TextsAt w' base v ts := by
 obtain ⟨g, cap, h1, h2, h3, h4, h5, h6⟩ := h.ex
 have hn : g ∉ L := fun hm => by have := hL g hm; omega
 exact ⟨g, cap, h1, h2, h3, h4, Nat.lt_of_lt_of_le h5 U.size, fun j x hj => ⟨(U.cell (p := ⟨g, j * 2, none⟩) h5 hn).trans (h6 j x hj).1, (U.cell (p := ⟨g, j * 2 + 1, none⟩) h5 hn).trans (h6 j x hj).2⟩⟩
theorem flatK_T (d : Array TN) : flatK encT 2 d = (flatT d.toList).toArray := by
 refine ext_get! (by simp [flatT_length]) fun t ht => ?_
 rw [size_flatK] at ht
 rw [get_flatK encT 2 d t ht]
 have hq : t / 2 < d.size := by omega
 have hd : d.toList[t / 2]? = some d[t / 2] := by simp [hq]
 obtain ⟨g1, g2⟩ := flatT_get d.toList (t / 2) d[t / 2] hd
 have e1 : d[t / 2]! = d[t / 2] := getElem!_pos d (t / 2) hq
 rw [e1]
 have hsz : t < (flatT d.toList).toArray.size := by simp [flatT_length]; exact ht
 rw [getElem!_pos _ t hsz]
 have hl : t < (flatT d.toList).length := by simpa using hsz
 have e2 : (flatT d.toList).toArray[t] = (flatT d.toList)[t] := by simp
 rw [e2]
 rcases Nat.mod_two_eq_zero_or_one t with hm | hm
 ·rw [hm]
  have ht2 : t / 2 * 2 = t := by omega
  rw [ht2, List.getElem?_eq_getElem hl] at g1
  rw [Option.some.inj g1]
  rfl
 ·rw [hm]
  have ht2 : t / 2 * 2 + 1 = t := by omega
  rw [ht2, List.getElem?_eq_getElem hl] at g2
  rw [Option.some.inj g2]
  rfl
theorem upd_sort {w : World} (g m : Nat) (d : Array TN) (os : Array Obj) : Upd [g] w (sortWorldK encT 2 w g 0 m d os) := by
 unfold sortWorldK putRowK putRow
 refine ⟨rfl, rfl, rfl, ?_, fun k hk hn => ?_⟩
 ·simp [grow, mapBlock, Sort.ahead]
 ·simp only [List.mem_singleton] at hn
  simp only [grow, mapBlock, Sort.ahead]
  rw [Array.getElem?_append_left (by simpa using hk)]
  rw [Array.getElem?_modify, if_neg (fun e => hn e.symm)]
def sortedT (S : WS) : List TN := (Sort.pdq (ltOf cmpT) (textsTo S S.shapes.length).toArray 0 (textsTo S S.shapes.length).toArray.size (Lib.bitLen (textsTo S S.shapes.length).toArray.size) true true).toList
theorem sortedT_perm (S : WS) : PermIn 0 S.shapes.length (textsTo S S.shapes.length).toArray (sortedT S).toArray ∧ SortedIn (ltOf cmpT) 0 S.shapes.length (sortedT S).toArray := by
 have h := pdq_sorts (ltOf cmpT) swoT (textsTo S S.shapes.length).toArray 0 (textsTo S S.shapes.length).toArray.size (Lib.bitLen (textsTo S S.shapes.length).toArray.size) true true (Nat.zero_le _) (Nat.le_refl _) (Or.inl rfl)
 have e : (textsTo S S.shapes.length).toArray.size = S.shapes.length := by simp [textsTo_length]
 unfold sortedT
 rw [Array.toArray_toList]
 rw [e] at h ⊢
 exact h
theorem holdsT {w : World} {base g cap n : Nat} {ts : List TN} (h : w.ownsRow base 147 2 (.slice (some ⟨g, 0, none⟩) n cap) n (flatT ts)) (hl : ts.length = n) : HoldsK encT 2 w g 0 ts.toArray := by
 intro j hj
 rw [flatK_T] at hj ⊢
 have hj' : j < (flatT ts).length := by simpa using hj
 have h2 := flatT_length ts
 rw [Nat.zero_add, h.cellAt j (by omega), List.getElem?_eq_getElem hj', getElem!_pos _ j hj]
 exact ⟨by simp, h.frozenAt j⟩
theorem sorted_at {w : World} {base g cap m : Nat} {ts : List TN} {d : Array TN} {os : Array Obj} (h : w.ownsRow base 147 2 (.slice (some ⟨g, 0, none⟩) ts.length cap) ts.length (flatT ts)) (hs : d.size = ts.length) : TextsAt (sortWorldK encT 2 w g 0 m d os) base (.slice (some ⟨g, 0, none⟩) ts.length cap) d.toList := by
 have hg : g < w.heap.size := ownsRow_lt h rfl
 have hH := holdsT h rfl
 have hP := holdsK_putRowK encT 2 (Sort.ahead w m) g 0 ts.toArray d (holdsK_ahead encT 2 w m g 0 _ hH) (by simp [hs])
 have hsz : (putRowK encT 2 (Sort.ahead w m) g 0 d).heap.size = w.heap.size := by simp [putRowK, putRow, mapBlock, Sort.ahead]
 have hG : HoldsK encT 2 (sortWorldK encT 2 w g 0 m d os) g 0 d := holdsK_grow encT 2 _ os g 0 d (by omega) hP
 rcases ownsRow_slice h with ⟨h1, _⟩ | ⟨g', cap', h1, h2, h3⟩
 ·cases h1
 ·cases h1
  refine ⟨g, cap, by simp [hs], by simpa [hs] using h2, h3, own_ge h rfl, Nat.lt_of_lt_of_le hg (upd_sort g m d os).size, fun j x hj => ?_⟩
  have hlt : j < d.size := by
   have := (List.getElem?_eq_some_iff.1 hj).1
   simpa using this
  have hx : d[j]! = x := by
   rw [getElem!_pos d j hlt]
   have : d.toList[j]? = some d[j] := by simp [hlt]
   rw [this] at hj
   exact Option.some.inj hj
  have c0 := (hG.cell (i := j) (c := 0) hlt (by omega)).1
  have c1 := (hG.cell (i := j) (c := 1) hlt (by omega)).1
  rw [hx] at c0 c1
  rw [Nat.zero_add] at c0 c1
  exact ⟨c0, c1⟩
theorem sortedT_length (S : WS) : (sortedT S).length = S.shapes.length := by
 have := (sortedT_perm S).1.1
 simpa [textsTo_length] using this
set_option maxHeartbeats 4000000 in
set_option maxRecDepth 100000 in
theorem byText_any (w : World) (wb : Nat) (H : Hd) (Z : Nat → Prop) (S : WS) (h : WebAt w wb H Z S) (hB : Base S) (hZ : ∀ k, Z k → k < w.heap.size) (hn : S.shapes.length ≤ 1000) (hsm : ∀ g j, (plainF S g j).length ≤ 1000) :
  Calls Tryz.prog 83 #[.pointer (some ⟨wb, 0, none⟩)] w fun e w' => ∃ v, e = .returned v ∧ Upd [] w w' ∧ TextsAt w' w.heap.size v (sortedT S) := by
 obtain ⟨i0, hi, hz0, hz1, hz2⟩ := info_parts info_textOf
 obtain ⟨w1, hmk, hown1, hgr1⟩ := run_make_own (P := Tryz.prog) w w.heap.size 137 147 i0 _ 2 Tryz.underlying137 hi hz0 hz1 .i64 .i64 S.shapes.length (by rw [hz2]; omega) (by unfold maxLen; omega) (Nat.le_refl _)
 have U1 : Upd [] w w1 := Upd.of_grown hgr1
 obtain ⟨g0, cap0, hv0⟩ := slice_len h.rs
 have c1 := h.c1
 rw [hv0] at c1
 have c1' := (U1.cell (p := ⟨wb, 2, none⟩) h.lt (by simp)).trans c1
 have hstart : Texting w w1 wb H Z S (.slice (some ⟨w.heap.size, 0, none⟩) 0 S.shapes.length) 0 := ⟨h.later U1 (fun _ _ => by simp), hown1, U1, by simp [own_slice]⟩
 have HZ := hide hZ
 have HP := hide (fun (wr : World) (v : Value) (j : Nat) (ht : Texting w wr wb H Z S v j) (hj : j < S.shapes.length) => plain_any wr wb H Z S j ht.web hB (fun k hk => Nat.lt_of_lt_of_le (hZ k hk) ht.upd.size) hj hn hsm)
 have eg : ∀ args w, (callFunc 116 args).run Tryz.prog w = .ok (.enter 116 args) w := enters_of Tryz.func116 (by kernel_rfl) rfl
 have HCon : Hid (∀ (wr : World) (g cap : Nat) (ht : Texting w wr wb H Z S (.slice (some ⟨g, 0, none⟩) S.shapes.length cap) S.shapes.length), Calls Tryz.prog 115 #[.slice (some ⟨g, 0, none⟩) S.shapes.length cap, .func (.func 116) #[] #[]] wr fun e w' => e = .returned (.tuple #[]) ∧ TextsAt w' w.heap.size (.slice (some ⟨g, 0, none⟩) S.shapes.length cap) (sortedT S) ∧ Upd [] w w') := fun wr g cap ht => by
  have hl := textsTo_length S S.shapes.length
  have hrow := ht.row
  have hsz : (textsTo S S.shapes.length).toArray.size = S.shapes.length := by simp [hl]
  have hc := AnyQ.slices_SortFunc_eq sortT 2 Tryz.isAgg147 Tryz.sizeOf147 encT (fun _ => rfl) (fun x v hv => by simp [encT] at hv; rcases hv with rfl | rfl <;> rfl) cmpT swoT 116 #[] g 0 cap (textsTo S S.shapes.length).toArray wr eg (cmpLays_text g 0 _ wr) (holdsT hrow hl) (ownsRow_lt hrow rfl) (by rw [hsz]; omega)
  rw [hsz] at hc
  change Calls Tryz.prog 115 _ _ _ at hc
  refine hc.mono fun e w' hw => ?_
  obtain ⟨he, m, os, rfl⟩ := hw
  have hd : (Sort.pdq (ltOf cmpT) (textsTo S S.shapes.length).toArray 0 S.shapes.length (Lib.bitLen S.shapes.length) true true).toList = sortedT S := by unfold sortedT; rw [hsz]
  have hds : (Sort.pdq (ltOf cmpT) (textsTo S S.shapes.length).toArray 0 S.shapes.length (Lib.bitLen S.shapes.length) true true).size = (textsTo S S.shapes.length).length := by
   rw [hl]
   have := sortedT_length S
   rw [← hd] at this
   simpa using this
  refine ⟨he, ?_, ht.upd.trans' (upd_sort g m _ os) (fun x hx hlt => by simp only [List.mem_singleton] at hx; subst hx; have := own_ge hrow (k := x) rfl; omega)⟩
  have := sorted_at (m := m) (os := os) (by rw [hl]; exact hrow) hds
  rw [hd, hl] at this
  exact this
 clear h hB hsm hown1 hgr1 hv0
 go_enter Tryz.func83, Tryz.ntmps83
 go_wp2
 go_loopw [3, 16] (fun v i wr => ∃ j : Nat, j ≤ S.shapes.length ∧ i = .int .i64 j ∧ Hid (Texting w wr wb H Z S v j)) (fun _ i _ => S.shapes.length - (intOf i).toNat)
 case atStart => exact ⟨0, Nat.zero_le _, rfl, hstart⟩
 case round =>
  obtain ⟨j, hj, rfl, HT⟩ := hrel
  clear hstart hmk c1 c1' U1 hZ
  by_cases hjn : j < S.shapes.length
  ·have hjn' : (j : Int) < (S.shapes.length : Int) := by omega
   have HC := HP.out wr u3 j HT.out hjn
   obtain ⟨t, ht⟩ : ∃ t, t = plainT S j := ⟨_, rfl⟩
   rw [← ht] at HC
   have Ht := hide ht
   have HC := hide HC
   have hone : ∀ u ∈ [Value.string t, .int .i64 j], u.oneCell' = true := by intro u hu'; simp at hu'; rcases hu' with rfl | rfl <;> rfl
   have hlm : j + 1 ≤ maxLen := by unfold maxLen; omega
   clear ht HP HCon eg
   go_wp2_with (first
    | (go_at_call 88; refine HC.out.mono ?_; rintro e w2 ⟨rfl, hu2⟩; have Hrow2 := hide ((hu2.alloc (.cells #[.string t, .int .i64 j] 147)).ownsRow HT.out.row (fun _ _ => by simp)); have Hnews := hide (World.news_of_block (heap_alloc_new w2 (.cells #[.string t, .int .i64 j] 147))); have Hbase : Hid (w.heap.size ≤ (w2.alloc (.cells #[.string t, .int .i64 j] 147)).heap.size) := (by have h1 := HT.out.upd.size; have h2 := hu2.size; show _ ≤ _; simp; omega); have Hu2 := hide hu2; clear hu2)
    | (at_builtin; refine wpList_append_lies _ rfl _ _ 137 rfl w.heap.size 147 i0 (.agg #[.string ⟨#[]⟩, .int .i64 0]) 2 24 Tryz.underlying137 hi hz0 hz1 hz2 rfl (by decide) _ _ _ rfl Hrow2.out ⟨w2.heap.size, 0, none⟩ 1 1 [.string t, .int .i64 j] rfl rfl Hnews.out hone (by decide) hlm (by omega) Hbase.out _ rfl ?_; intro g cap w3 hown' hgrow hat hlt3))
   refine ⟨⟨j + 1, by omega, by go_num, ?_⟩, by simp [intOf]; omega⟩
   exact HT.out.next HZ.out Hu2.out Ht.out hown' hgrow
  ·obtain rfl : j = S.shapes.length := by omega
   have hge : ¬ ((S.shapes.length : Nat) : Int) < (S.shapes.length : Int) := by omega
   obtain ⟨g, cap, rfl⟩ : ∃ g cap, u3 = .slice (some ⟨g, 0, none⟩) S.shapes.length cap := by
    rcases ownsRow_slice HT.out.row with ⟨h1, _⟩ | ⟨g, cap, h1, _⟩
    ·exact absurd (by rw [h1]; rfl) HT.out.made
    ·exact ⟨g, cap, h1⟩
   have HC := hide (HCon.out wr g cap HT.out)
   clear HP HCon HT hjn
   go_wp2_with (go_at_call 115; refine HC.out.mono ?_; rintro e w2 ⟨rfl, ht2, hu2⟩; have Ht2 := hide ht2; have Hu2 := hide hu2; clear ht2 hu2)
   go_ret
   exact ⟨_, rfl, Hu2.out, Ht2.out⟩
end Go.Proofs.YtmfkpllnmmfpiaaGreatDoor

namespace Go.Proofs.YtmfkpllnmmfpiaaGreatDoor
open Go.RowKit Go.Shelf Go.Sort
structure RowP where
 name : ByteArray
 args : List Nat
 value : Nat
instance : Inhabited RowP := ⟨⟨⟨#[]⟩, [], 0⟩⟩
def cmpI (a b : Nat) : Int := if a < b then -1 else if b < a then 1 else 0
def cmpArgs : List Nat → List Nat → Int
 | [], [] => 0
 | [], _ :: _ => -1
 | _ :: _, [] => 1
 | a :: l, b :: m => if cmpI a b ≠ 0 then cmpI a b else cmpArgs l m
def firstNZ : List Int → Int
 | [] => 0
 | a :: l => if a ≠ 0 then a else firstNZ l
def cmpRow (x y : RowP) : Int := firstNZ [Lib.compareBytes x.name.data.toList y.name.data.toList, cmpI x.args.length y.args.length, cmpArgs x.args y.args]
theorem cmpI_zero {a b : Nat} : cmpI a b = 0 ↔ a = b := by
 unfold cmpI
 split
 ·simp; omega
 ·split
  ·simp; omega
  ·simp; omega
theorem cmpArgs_step {l m : List Nat} {j a b : Nat} (h1 : l[j]? = some a) (h2 : m[j]? = some b) : cmpArgs (l.drop j) (m.drop j) = if cmpI a b ≠ 0 then cmpI a b else cmpArgs (l.drop (j + 1)) (m.drop (j + 1)) := by
 have e1 := (List.getElem?_eq_some_iff.1 h1)
 have e2 := (List.getElem?_eq_some_iff.1 h2)
 obtain ⟨p1, q1⟩ := e1
 obtain ⟨p2, q2⟩ := e2
 rw [List.drop_eq_getElem_cons p1, List.drop_eq_getElem_cons p2, q1, q2]
 rfl
def IntsAt (w : World) (v : Value) (l : List Nat) : Prop := ∃ a cap, v = .slice a l.length cap ∧ l.length ≤ cap ∧ cap ≤ maxLen ∧ (0 < l.length → ∃ g, a = some ⟨g, 0, none⟩ ∧ g < w.heap.size ∧ ∀ (i t : Nat), l[i]? = some t → w.cell? ⟨g, i, none⟩ = some (.int .i64 t))
theorem IntsAt.later {w w' : World} {v : Value} {l : List Nat} {K : List Nat} (h : IntsAt w v l) (hu : Upd K w w') (hK : ∀ k, v.ownBlock = some k → k ∉ K) : IntsAt w' v l := by
 obtain ⟨a, cap, hv, h1, h2, h3⟩ := h
 refine ⟨a, cap, hv, h1, h2, fun hp => ?_⟩
 obtain ⟨g, rfl, hg, hc⟩ := h3 hp
 refine ⟨g, rfl, Nat.lt_of_lt_of_le hg hu.size, fun i t ht => (hu.cell (p := ⟨g, i, none⟩) hg (hK g (by rw [hv]; rfl))).trans (hc i t ht)⟩
theorem isNaN_any (a : Int) (w : World) : Calls Tryz.prog 147 #[.int .i64 a] w fun e w' => e = .returned (.bool false) ∧ w' = w := by
 go_enter Tryz.func147, Tryz.ntmps147
 go_wp2
 go_ret
 exact ⟨by simp, rfl⟩
set_option maxHeartbeats 1000000 in
theorem cmpInt_any (a b : Nat) (w : World) : Calls Tryz.prog 121 #[.int .i64 a, .int .i64 b] w fun e w' => e = .returned (.int .i64 (cmpI a b)) ∧ w' = w := by
 unfold cmpI
 by_cases h1 : a < b
 ·have h1' : (a : Int) < (b : Int) := by omega
  rw [if_pos h1]
  go_enter Tryz.func121, Tryz.ntmps121
  go_wp2_with (go_at_call 147; refine (isNaN_any _ _).mono ?_; rintro e w3 ⟨rfl, hw3⟩; rw [hw3]; clear hw3 w3)
  go_ret
  exact ⟨rfl, rfl⟩
 ·have h1' : ¬ (a : Int) < (b : Int) := by omega
  rw [if_neg h1]
  by_cases h2 : b < a
  ·have h2' : (b : Int) < (a : Int) := by omega
   rw [if_pos h2]
   go_enter Tryz.func121, Tryz.ntmps121
   go_wp2_with (go_at_call 147; refine (isNaN_any _ _).mono ?_; rintro e w3 ⟨rfl, hw3⟩; rw [hw3]; clear hw3 w3)
   go_ret
   exact ⟨rfl, rfl⟩
  ·have h2' : ¬ (b : Int) < (a : Int) := by omega
   rw [if_neg h2]
   go_enter Tryz.func121, Tryz.ntmps121
   go_wp2_with (go_at_call 147; refine (isNaN_any _ _).mono ?_; rintro e w3 ⟨rfl, hw3⟩; rw [hw3]; clear hw3 w3)
   go_ret
   exact ⟨rfl, rfl⟩
set_option maxHeartbeats 4000000 in
set_option maxRecDepth 100000 in
theorem slicesCompare_any (w : World) (v1 v2 : Value) (l1 l2 : List Nat) (h1 : IntsAt w v1 l1) (h2 : IntsAt w v2 l2) :
  Calls Tryz.prog 122 #[v1, v2] w fun e w' => e = .returned (.int .i64 (cmpArgs l1 l2)) ∧ w' = w := by
 obtain ⟨a1, cap1, hv1, c11, c12, f1⟩ := h1
 obtain ⟨a2, cap2, hv2, c21, c22, f2⟩ := h2
 subst hv1 hv2
 obtain ⟨n1, hn1⟩ : ∃ n, l1.length = n := ⟨_, rfl⟩
 obtain ⟨n2, hn2⟩ : ∃ n, l2.length = n := ⟨_, rfl⟩
 rw [hn1] at c11 f1 ⊢
 rw [hn2] at c21 f2 ⊢
 have F1 := hide f1
 have F2 := hide f2
 have Hn1 := hide hn1
 have Hn2 := hide hn2
 unfold maxLen at c12 c22
 clear f1 f2 hn1 hn2
 go_enter Tryz.func122, Tryz.ntmps122
 go_wp2
 go_loopw [11] (fun i wr => ∃ j : Nat, j ≤ n1 ∧ j ≤ n2 ∧ i = .int .i64 j ∧ wr = w ∧ Hid (cmpArgs l1 l2 = cmpArgs (l1.drop j) (l2.drop j))) (fun i _ => n1 - (intOf i).toNat)
 case atStart => exact ⟨0, Nat.zero_le _, Nat.zero_le _, rfl, rfl, rfl⟩
 case round =>
  obtain ⟨j, hj1, hj2, rfl, hwr, HJ⟩ := hrel
  rw [hwr]
  clear hwr wr
  by_cases hjn : j < n1
  ·have hjI : (j : Int) < (n1 : Int) := by omega
   obtain ⟨a, ha⟩ : ∃ a, l1[j]? = some a := ⟨_, List.getElem?_eq_getElem (by rw [Hn1.out]; exact hjn)⟩
   obtain ⟨g1, rfl, _, k1⟩ := F1.out (by omega)
   have q1 := k1 j a ha
   by_cases hjm : j < n2
   ·have hjm' : ¬ (n2 : Int) ≤ (j : Int) := by omega
    have hjm2 : (j : Int) < (n2 : Int) := by omega
    obtain ⟨b, hb⟩ : ∃ b, l2[j]? = some b := ⟨_, List.getElem?_eq_getElem (by rw [Hn2.out]; exact hjm)⟩
    obtain ⟨g2, rfl, _, k2⟩ := F2.out (by omega)
    have q2 := k2 j b hb
    have hst := cmpArgs_step ha hb
    have HC := hide (cmpInt_any a b w)
    obtain ⟨c, hc⟩ : ∃ c, cmpI a b = c := ⟨_, rfl⟩
    rw [hc] at hst HC
    clear k1 k2 ha hb hc
    by_cases hc0 : c = 0
    ·have HN : Hid (cmpArgs l1 l2 = cmpArgs (l1.drop (j + 1)) (l2.drop (j + 1))) := by show _ = _; rw [HJ.out, hst, if_neg (by simp [hc0])]
     subst hc0
     clear hst
     go_wp2_with (go_at_call 121; refine HC.out.mono ?_; rintro e w3 ⟨rfl, hw3⟩; rw [hw3]; clear hw3 w3)
     refine ⟨⟨j + 1, by omega, by omega, by simp, trivial, HN⟩, ?_⟩
     simp [intOf]
     omega
    ·have HN : Hid (cmpArgs l1 l2 = c) := by show _ = _; rw [HJ.out, hst, if_pos hc0]
     have hcb : (c != 0) = true := by simpa using hc0
     clear hst
     go_wp2_with (go_at_call 121; refine HC.out.mono ?_; rintro e w3 ⟨rfl, hw3⟩; rw [hw3]; clear hw3 w3)
     go_ret
     exact ⟨by rw [HN.out]; rfl, rfl⟩
   ·have hjm' : (n2 : Int) ≤ (j : Int) := by omega
    have HN : Hid (cmpArgs l1 l2 = 1) := by
     show _ = _
     have p1 := (List.getElem?_eq_some_iff.1 ha).1
     rw [HJ.out, List.drop_eq_getElem_cons p1, show l2.drop j = [] from List.drop_eq_nil_of_le (by rw [Hn2.out]; omega)]
     rfl
    clear k1 ha
    go_wp2
    go_ret
    exact ⟨by rw [HN.out]; rfl, rfl⟩
  ·have hjI : ¬ (j : Int) < (n1 : Int) := by omega
   by_cases hlt : n1 < n2
   ·have hlt' : (n1 : Int) < (n2 : Int) := by omega
    have HN : Hid (cmpArgs l1 l2 = -1) := by
     show _ = _
     rw [HJ.out, show l1.drop j = [] from List.drop_eq_nil_of_le (by rw [Hn1.out]; omega), List.drop_eq_getElem_cons (l := l2) (by rw [Hn2.out]; omega)]
     rfl
    go_wp2
    go_ret
    exact ⟨by rw [HN.out]; rfl, rfl⟩
   ·have hlt' : ¬ (n1 : Int) < (n2 : Int) := by omega
    have HN : Hid (cmpArgs l1 l2 = 0) := by
     show _ = _
     rw [HJ.out, show l1.drop j = [] from List.drop_eq_nil_of_le (by rw [Hn1.out]; omega), show l2.drop j = [] from List.drop_eq_nil_of_le (by rw [Hn2.out]; omega)]
     rfl
    go_wp2
    go_ret
    exact ⟨by rw [HN.out]; rfl, rfl⟩
set_option maxHeartbeats 4000000 in
set_option maxRecDepth 100000 in
theorem cmpOr_any (w : World) (g : Nat) (a b c : Int) (h0 : w.cell? ⟨g, 0, none⟩ = some (.int .i64 a)) (h1 : w.cell? ⟨g, 1, none⟩ = some (.int .i64 b)) (h2 : w.cell? ⟨g, 2, none⟩ = some (.int .i64 c)) :
  Calls Tryz.prog 120 #[.slice (some ⟨g, 0, none⟩) 3 3] w fun e w' => e = .returned (.int .i64 (firstNZ [a, b, c])) ∧ w' = w := by
 have hf : firstNZ [a, b, c] = if a ≠ 0 then a else if b ≠ 0 then b else c := by
  simp only [firstNZ]
  by_cases ha : a = 0
  ·by_cases hb : b = 0
   ·by_cases hc : c = 0
    ·simp [ha, hb, hc]
    ·simp [ha, hb, hc]
   ·simp [ha, hb]
  ·simp [ha]
 rw [hf]
 obtain ⟨R, hR⟩ : ∃ R, (if a ≠ 0 then a else if b ≠ 0 then b else c) = R := ⟨_, rfl⟩
 rw [hR]
 have HRR := hide hR
 clear hR
 have HC : Hid (∀ j, j < 3 → w.cell? ⟨g, j, none⟩ = some (.int .i64 ([a, b, c].getD j 0))) := fun j hj => by
  match j, hj with
  | 0, _ => exact h0
  | 1, _ => exact h1
  | 2, _ => exact h2
 clear h0 h1 h2 hf
 go_enter Tryz.func120, Tryz.ntmps120
 go_wp2
 go_loopw [8] (fun i wr => ∃ j : Nat, j ≤ 3 ∧ i = .int .i64 j ∧ wr = w ∧ Hid (∀ q, q < j → [a, b, c].getD q 0 = 0)) (fun i _ => 3 - (intOf i).toNat)
 case atStart => exact ⟨0, Nat.zero_le _, rfl, rfl, fun q hq => by omega⟩
 case round =>
  obtain ⟨j, hj, rfl, hwr, HJ⟩ := hrel
  rw [hwr]
  clear hwr wr
  by_cases hjn : j < 3
  ·have hjI : (j : Int) < 3 := by omega
   have q0 := HC.out j hjn
   obtain ⟨z, hz⟩ : ∃ z, [a, b, c].getD j 0 = z := ⟨_, rfl⟩
   rw [hz] at q0
   have Hz := hide hz
   clear hz
   by_cases hz0 : z = 0
   ·have HN : Hid (∀ q, q < j + 1 → [a, b, c].getD q 0 = 0) := fun q hq => by
     by_cases e : q < j
     ·exact HJ.out q e
     ·obtain rfl : q = j := by omega
      rw [Hz.out, hz0]
    subst hz0
    go_wp2
    refine ⟨⟨j + 1, by omega, by simp, trivial, HN⟩, ?_⟩
    simp [intOf]
    omega
   ·have hzb : (z != 0) = true := by simpa using hz0
    have HN : Hid (R = z) := by
     show _ = _
     rw [← HRR.out]
     have hz := Hz.out
     match j, hjn with
     | 0, _ =>
      have e : a = z := hz
      rw [if_pos (by rw [e]; exact hz0), e]
     | 1, _ =>
      have e0 : a = 0 := HJ.out 0 (by omega)
      have e : b = z := hz
      rw [if_neg (by simp [e0]), if_pos (by rw [e]; exact hz0), e]
     | 2, _ =>
      have e0 : a = 0 := HJ.out 0 (by omega)
      have e1 : b = 0 := HJ.out 1 (by omega)
      have e : c = z := hz
      rw [if_neg (by simp [e0]), if_neg (by simp [e1]), e]
    go_wp2
    go_ret
    exact ⟨by rw [HN.out]; rfl, rfl⟩
  ·have hjI : ¬ (j : Int) < 3 := by omega
   have HN : Hid (R = 0) := by
    show _ = _
    rw [← HRR.out]
    have e0 : a = 0 := HJ.out 0 (by omega)
    have e1 : b = 0 := HJ.out 1 (by omega)
    have e2 : c = 0 := HJ.out 2 (by omega)
    rw [if_neg (by simp [e0]), if_neg (by simp [e1]), e2]
   go_wp2
   go_ret
   exact ⟨by rw [HN.out]; rfl, rfl⟩
set_option maxHeartbeats 4000000 in
set_option maxRecDepth 100000 in
theorem compareRows_any (x y : RowP) (vx vy : Value) (W : World) (hx : IntsAt W vx x.args) (hy : IntsAt W vy y.args) :
  Calls Tryz.prog 85 #[.agg #[.string x.name, vx, .int .i64 x.value], .agg #[.string y.name, vy, .int .i64 y.value]] W fun e w' => e = .returned (.int .i64 (cmpRow x y)) ∧ ∃ q os', w' = grow (W.drewN q) os' := by
 have HS := hide (fun W' => stringsCompare_any x.name y.name W')
 have HI := hide (fun W' => cmpInt_any x.args.length y.args.length W')
 have HA := hide (fun W' (hU : Upd [] W W') => slicesCompare_any W' vx vy x.args y.args (hx.later hU (fun _ _ => by simp)) (hy.later hU (fun _ _ => by simp)))
 obtain ⟨ax, capx, hvx, _, _, _⟩ := hx
 obtain ⟨ay, capy, hvy, _, _, _⟩ := hy
 unfold cmpRow
 obtain ⟨a, ha⟩ : ∃ a, Lib.compareBytes x.name.data.toList y.name.data.toList = a := ⟨_, rfl⟩
 obtain ⟨b, hb⟩ : ∃ b, cmpI x.args.length y.args.length = b := ⟨_, rfl⟩
 obtain ⟨c, hc⟩ : ∃ c, cmpArgs x.args y.args = c := ⟨_, rfl⟩
 obtain ⟨nx, hnx⟩ : ∃ nx, x.args.length = nx := ⟨_, rfl⟩
 obtain ⟨ny, hny⟩ : ∃ ny, y.args.length = ny := ⟨_, rfl⟩
 rw [ha] at HS ⊢
 rw [hb] at HI ⊢
 rw [hc] at HA ⊢
 rw [hnx] at HI hvx
 rw [hny] at HI hvy
 subst hvx hvy
 clear ha hb hc hnx hny
 obtain ⟨xn, hxn⟩ : ∃ xn, x.name = xn := ⟨_, rfl⟩
 obtain ⟨yn, hyn⟩ : ∃ yn, y.name = yn := ⟨_, rfl⟩
 rw [hxn] at HS ⊢
 rw [hyn] at HS ⊢
 clear hxn hyn
 obtain ⟨R, hR⟩ : ∃ R, firstNZ [a, b, c] = R := ⟨_, rfl⟩
 rw [hR]
 have HRr := hide hR
 clear hR
 go_enter Tryz.func85, Tryz.ntmps85
 go_wp2_with fail
 obtain ⟨W1, hW1⟩ : ∃ W1, W1 = (W.alloc (.cells #[.string xn, .slice ax nx capx, .int .i64 x.value] 88)).alloc (.cells #[.string yn, .slice ay ny capy, .int .i64 y.value] 88) := ⟨_, rfl⟩
 have hU1 : Upd [] W W1 := by rw [hW1]; exact ((Upd.refl [] W).alloc _).alloc _
 have e0 : W1.cell? ⟨W.heap.size, 0, none⟩ = some (.string xn) := by rw [hW1]; go_simp
 have e1 : W1.cell? ⟨W.heap.size, 1, none⟩ = some (.slice ax nx capx) := by rw [hW1]; go_simp
 have d0 : W1.cell? ⟨W.heap.size + 1, 0, none⟩ = some (.string yn) := by rw [hW1]; go_simp
 have d1 : W1.cell? ⟨W.heap.size + 1, 1, none⟩ = some (.slice ay ny capy) := by rw [hW1]; go_simp
 have HW1 : Hid (∃ os, W1 = grow W os) := ⟨_, by rw [hW1, alloc_eq_grow, alloc_eq_grow, grow_grow]⟩
 rw [← hW1]
 have HA1 := hide (HA.out W1.drew hU1.drew)
 clear hW1 hU1 HA
 have HO : Hid (Calls Tryz.prog 120 #[.slice (some ⟨W1.heap.size, 0, none⟩) 3 3] (W1.drew.alloc (.cells #[.int .i64 a, .int .i64 b, .int .i64 c] 3)) fun e w' => e = .returned (.int .i64 (firstNZ [a, b, c])) ∧ w' = W1.drew.alloc (.cells #[.int .i64 a, .int .i64 b, .int .i64 c] 3)) :=
  cmpOr_any (W1.drew.alloc (.cells #[.int .i64 a, .int .i64 b, .int .i64 c] 3)) W1.heap.size a b c (by go_simp) (by go_simp) (by go_simp)
 rw [HRr.out] at HO
 go_region_held3 (fun w' => w'.cell? ⟨W.heap.size, 0, none⟩ = some (.string xn) ∧ w'.cell? ⟨W.heap.size, 1, none⟩ = some (.slice ax nx capx) ∧ w'.cell? ⟨W.heap.size + 1, 0, none⟩ = some (.string yn) ∧ w'.cell? ⟨W.heap.size + 1, 1, none⟩ = some (.slice ay ny capy)) ((first | go_keep | (refine ⟨?_, ?_, ?_, ?_⟩ <;> go_simp)))
  (first
   | (go_at_call 117; refine (HS.out _).mono ?_; rintro e w3 ⟨rfl, hw3⟩; rw [hw3]; clear hw3 w3)
   | (go_at_call 121; refine (HI.out _).mono ?_; rintro e w3 ⟨rfl, hw3⟩; rw [hw3]; clear hw3 w3)
   | (go_at_call 122; refine HA1.out.mono ?_; rintro e w3 ⟨rfl, hw3⟩; rw [hw3]; clear hw3 w3)
   | (go_at_call 120; refine HO.out.mono ?_; rintro e w3 ⟨rfl, hw3⟩; rw [hw3]; clear hw3 w3))
 all_goals (
  go_wp2
  go_ret
  obtain ⟨os, hos⟩ := HW1.out
  exact ⟨rfl, 1, _, by rw [hos, alloc_eq_grow, grow_grow]; rfl⟩)
end Go.Proofs.YtmfkpllnmmfpiaaGreatDoor
