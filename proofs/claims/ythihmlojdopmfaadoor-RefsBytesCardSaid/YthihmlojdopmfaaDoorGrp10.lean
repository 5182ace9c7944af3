/-
  Merged: RfFind, RfSlices, RfDelete.
-/
import Derived.Test.YthihmlojdopmfaaDoorGrp9
import Derived.Test.YthihmlojdopmfaaDoorGrp1
import Derived.Test.YthihmlojdopmfaaDoorRfShelf
import Derived.BigQuiet
import Derived.Laws.IdiomCopy
import Derived.Laws.OwnMore
import Derived.Lib.Overlaps
import Derived.Lib.AppendZerosOnto
import Derived.Deep.RegionLaw
namespace Go.Proofs.YthihmlojdopmfaaDoor
open Go.RowKit Go.Lib Go.Sort Go.Shelf

def Asc (L : List RName) : Prop := ∀ i j, i < j → j < L.length → (gd L i).1 < (gd L j).1
theorem asc_of {L : List RName} (h : ∀ j, j + 1 < L.length → (gd L j).1 < (gd L (j + 1)).1) : Asc L := by
 intro i j hij hj
 induction j with
 | zero => omega
 | succ j ih =>
  rcases Nat.lt_or_ge i j with h1 | h1
  ·exact List.lt_trans (ih h1 (by omega)) (h j hj)
  ·obtain rfl : i = j := by omega
   exact h i hj
def findF (L : List RName) (s : List UInt8) : Nat := (List.range L.length).countP fun i => decide ((gd L i).1 < s)
theorem findF_le (L : List RName) (s : List UInt8) : findF L s ≤ L.length := by
 have := List.countP_le_length (p := fun i => decide ((gd L i).1 < s)) (l := List.range L.length)
 unfold findF
 rwa [List.length_range] at this
theorem count_split {p : Nat → Bool} : ∀ n, (∀ i j, i ≤ j → j < n → p j = true → p i = true) → ∀ j, j < n → (p j = true ↔ j < (List.range n).countP p)
 | 0, _ => fun j hj => by omega
 | n + 1, h => fun j hj => by
  have ih := count_split n (fun i j h1 h2 h3 => h i j h1 (by omega) h3)
  rw [List.range_succ, List.countP_append]
  have hle : (List.range n).countP p ≤ n := by
   have := List.countP_le_length (p := p) (l := List.range n)
   rwa [List.length_range] at this
  cases hp : p n with
  | false =>
   simp only [List.countP_cons, List.countP_nil, hp, Bool.false_eq_true, if_false, Nat.add_zero]
   rcases Nat.lt_or_ge j n with h1 | h1
   ·exact ih j h1
   ·obtain rfl : j = n := by omega
    rw [hp]
    exact ⟨(fun h => by cases h), fun h => by omega⟩
  | true =>
   simp only [List.countP_cons, List.countP_nil, hp, if_true, Nat.zero_add]
   have hall : ∀ i, i < n → p i = true := fun i hi => h i n (by omega) (by omega) hp
   have hc : (List.range n).countP p = n := by
    have : (List.range n).countP p = (List.range n).length := List.countP_eq_length.2 fun i hi => hall i (List.mem_range.1 hi)
    rwa [List.length_range] at this
   rw [hc]
   rcases Nat.lt_or_ge j n with h1 | h1
   ·exact ⟨fun _ => by omega, fun _ => hall j h1⟩
   ·obtain rfl : j = n := by omega
    exact ⟨fun _ => by omega, fun _ => hp⟩
theorem findF_iff {L : List RName} (h : Asc L) (s : List UInt8) {j : Nat} (hj : j < L.length) : (gd L j).1 < s ↔ j < findF L s := by
 have := count_split (p := fun i => decide ((gd L i).1 < s)) L.length (fun i k h1 h2 h3 => by
  have h3 := of_decide_eq_true h3
  rcases Nat.lt_or_ge i k with h4 | h4
  ·exact decide_eq_true (List.lt_trans (h i k h4 h2) h3)
  ·obtain rfl : i = k := by omega
   exact decide_eq_true h3) j hj
 rw [decide_eq_true_iff] at this
 exact this
def thereF (L : List RName) (s : List UInt8) : Bool := decide (findF L s < L.length) && decide ((gd L (findF L s)).1 = s)
theorem str_is (x y : List UInt8) : ((strB x).toList == (strB y).toList) = decide (x = y) := by
 rw [Lib.toList_data, Lib.toList_data, strB_list, strB_list, Bool.eq_iff_iff, beq_iff_eq, decide_eq_true_iff]

set_option maxHeartbeats 1000000 in
theorem findC_any (gb gs b o c n i : Nat) (p q : ByteArray) (l : Bool) (W : World) (hi : i < n) (ha : W.cell? ⟨gb, 0, none⟩ = some (.slice (some ⟨b, o, none⟩) n c)) (hs : W.cell? ⟨gs, 0, none⟩ = some (.string q)) (hc : W.cell? ⟨b, o + i * 33, none⟩ = some (.string p)) (hl : Op.bytesLess p.toList q.toList = l) :
  Calls Tryd.prog 79 (#[.int .i64 i] ++ #[.pointer (some ⟨gb, 0, none⟩), .pointer (some ⟨gs, 0, none⟩)]) W fun e w' => e = .returned (.bool (!l)) ∧ ∃ q, w' = W.drewN q := by
 have hiz : (i : Int) < (n : Int) := by omega
 go_enter Tryd.func79, Tryd.ntmps79
 go_wp2
 go_region
 all_goals go_wp2
 all_goals go_ret
 all_goals exact ⟨by first | rfl | (rw [hl]; rfl) | simp [hl], 1, rfl⟩

theorem search_any (a : Option Addr) (n c : Nat) (L : List RName) (s : List UInt8) (w W0 : World) (gb gs : Nat) (h : AtG rnK w a n c L) (hA : Asc L) (hn : n < 4611686018427387904) (hb : Below w.heap.size w W0) (hgb : gb < W0.heap.size) (hgs : gs < W0.heap.size)
  (ca : W0.cell? ⟨gb, 0, none⟩ = some (.slice a n c)) (cs : W0.cell? ⟨gs, 0, none⟩ = some (.string (strB s))) :
  Calls Tryd.prog 78 #[.int .i64 n, .func (.func 79) #[] #[.pointer (some ⟨gb, 0, none⟩), .pointer (some ⟨gs, 0, none⟩)]] W0 fun e w' => e = .returned (.int .i64 (findF L s : Nat)) ∧ Below W0.heap.size W0 w' := by
 have eg : ∀ args w, (callFunc 79 args).run Tryd.prog w = .ok (.enter 79 args) w := enters_of Tryd.func79 (by kernel_rfl) rfl
 have hS := Tryd.sort_Search 79 #[.pointer (some ⟨gb, 0, none⟩), .pointer (some ⟨gs, 0, none⟩)] n (fun i => !decide ((gd L i).1 < s)) W0 eg hn
  (fun m os i hi => by
   obtain ⟨b, o, rfl⟩ := h.some_ (by omega)
   refine (findC_any gb gs b o c n i (strB (gd L i).1) (strB s) (decide ((gd L i).1 < s)) _ hi (cell_grown hgb ca m os) (cell_grown hgs cs m os) (rn_name ((h.below hb).below (below_grown_sl W0.heap.size W0 m os (Nat.le_refl _))) hi) (less_is _ _)).mono fun _ _ ⟨he, q, hq⟩ => ⟨he, q, #[], by rw [hq, grow_empty]⟩)
  (fun i j hij hj h1 => by
   have hl := h.1
   rcases Nat.lt_or_ge i j with h4 | h4
   ·have h2 := hA i j h4 (by omega)
    simp only [Bool.not_eq_true', decide_eq_false_iff_not] at h1 ⊢
    exact fun h3 => h1 (List.lt_trans h2 h3)
   ·obtain rfl : i = j := by omega
    exact h1)
 refine hS.mono fun e w' ⟨he, q, os, hw⟩ => ⟨?_, by rw [hw]; exact below_grown_sl _ _ _ _ (Nat.le_refl _)⟩
 rw [he]
 unfold findF
 rw [h.1]
 simp only [Bool.not_not]

set_option maxRecDepth 100000 in
set_option maxHeartbeats 1000000 in
theorem find_any (a : Option Addr) (n c : Nat) (L : List RName) (s : List UInt8) (w : World) (h : AtG rnK w a n c L) (hA : Asc L) (hn : n ≤ 100000) (k : Nat) (hk : findF L s = k) (t : Bool) (ht : thereF L s = t) :
  Calls Tryd.prog 55 #[.slice a n c, .string (strB s)] w fun e w' => e = .returned (.tuple #[.int .i64 k, .bool t]) ∧ Below w.heap.size w w' := by
 have hkn : k ≤ n := by rw [← hk, ← h.1]; exact findF_le L s
 have HLN := Lib.hid h.1
 have HN := Lib.hid h
 have hnI : (n : Int) ≤ 100000 := by omega
 have hk0 : (0 : Int) ≤ (k : Int) := by omega
 have hknI : (k : Int) ≤ (n : Int) := by omega
 have HS := Lib.hid (fun W0 gb gs hb hgb hgs ca cs => search_any a n c L s w W0 gb gs h hA (by omega) hb hgb hgs ca cs)
 rw [hk] at HS
 have HK := Lib.hid hk
 have HTH := Lib.hid ht
 obtain ⟨q, hq⟩ : ∃ q, strB s = q := ⟨_, rfl⟩
 have HQE := Lib.hid hq
 rw [hq] at HS ⊢
 obtain ⟨W0, hW0⟩ : ∃ W0, W0 = (w.alloc (.cells #[.slice a n c] 33)).alloc (.cells #[.string q] 9) := ⟨_, rfl⟩
 have hsz : W0.heap.size = w.heap.size + 1 + 1 := by rw [hW0]; simp
 have ca : W0.cell? ⟨w.heap.size, 0, none⟩ = some (.slice a n c) := by rw [hW0]; exact cell_alloc_sl _ (cell_new_sl w _ _)
 have cs : W0.cell? ⟨w.heap.size + 1, 0, none⟩ = some (.string q) := by rw [hW0]; have := cell_new_sl (w.alloc (.cells #[.slice a n c] 33)) (.string q) 9; rwa [World.size_alloc] at this
 have HB0 : Hid (Below w.heap.size w W0) := Lib.hid (by rw [hW0]; exact ((Below.refl _ w).alloc (Nat.le_refl _) _).alloc (by simp) _)
 have HSW := Lib.hid (HS.out W0 w.heap.size (w.heap.size + 1) HB0.out (by omega) (by omega) ca cs)
 have HSZ := Lib.hid hsz
 have HW0 := Lib.hid hW0
 have CA := Lib.hid (fun W (hW : Below W0.heap.size W0 W) => (by rw [hW.cell (p := ⟨w.heap.size, 0, none⟩) (show w.heap.size < W0.heap.size by omega)]; exact ca : W.cell? ⟨w.heap.size, 0, none⟩ = some (.slice a n c)))
 have CS := Lib.hid (fun W (hW : Below W0.heap.size W0 W) => (by rw [hW.cell (p := ⟨w.heap.size + 1, 0, none⟩) (show w.heap.size + 1 < W0.heap.size by omega)]; exact cs : W.cell? ⟨w.heap.size + 1, 0, none⟩ = some (.string q)))
 clear h hA hn hk ht hq hsz HS hW0
 by_cases hlt : (k : Int) < (n : Int)
 ·have hltN : k < n := by omega
  obtain ⟨b, o, rfl⟩ := HN.out.some_ (by omega)
  obtain ⟨p, hp⟩ : ∃ p, strB (gd L k).1 = p := ⟨_, rfl⟩
  have CP := Lib.hid (fun W (hW : Below W0.heap.size W0 W) => (hp ▸ rn_name ((HN.out.below HB0.out).below hW) hltN : W.cell? ⟨b, o + k * 33, none⟩ = some (.string p)))
  have htq : (p.toList == q.toList) = t := by
   rw [← hp, ← HQE.out, str_is, ← HTH.out]
   unfold thereF
   rw [HK.out, HLN.out, decide_eq_true hltN]; rfl
  clear hp hltN ca cs
  go_enter Tryd.func55, Tryd.ntmps55
  go_wp2_with (go_at_call 78; rw [← HW0.out]; go_must (refine HSW.out.mono ?_); rintro e w2 ⟨rfl, hb2⟩; have ca2 := CA.out _ hb2; have cs2 := CS.out _ hb2; have cp2 := CP.out _ hb2; have HB2 := thn HB0 hb2; clear hb2)
  go_quiet (fail)
  have HBq := Lib.hid (below_drewK HB2.out nq)
  generalize w2.drewN nq = wq at HBq ⊢
  go_wp2
  go_ret2
  exact ⟨rfl, HBq.out⟩
 ·have hf : t = false := by
   rw [← HTH.out]
   unfold thereF
   rw [HK.out, HLN.out, decide_eq_false (by omega : ¬ k < n)]; rfl
  subst hf
  have hnl : decide ((k : Int) < (n : Int)) = false := decide_eq_false hlt
  have hnl2 : decide (k < n) = false := decide_eq_false (by omega)
  clear ca cs
  go_enter Tryd.func55, Tryd.ntmps55
  go_wp2_with (go_at_call 78; rw [← HW0.out]; go_must (refine HSW.out.mono ?_); rintro e w2 ⟨rfl, hb2⟩; have ca2 := CA.out _ hb2; have cs2 := CS.out _ hb2; have HB2 := thn HB0 hb2; clear hb2)
  go_quiet (fail)
  have HBq := Lib.hid (below_drewK HB2.out nq)
  generalize w2.drewN nq = wq at HBq ⊢
  go_wp2
  go_ret2
  exact ⟨rfl, HBq.out⟩
end Go.Proofs.YthihmlojdopmfaaDoor

namespace Go.Proofs.YthihmlojdopmfaaDoor
open Go.RowKit

def putL : List Value → Nat → List Value → List Value
 | xs, _, [] => xs
 | xs, o, v :: r => putL (xs.set o v) (o + 1) r
theorem putL_length : ∀ (vs xs : List Value) (o : Nat), (putL xs o vs).length = xs.length
 | [], _, _ => rfl
 | v :: r, xs, o => by rw [putL, putL_length r]; simp
theorem putL_get : ∀ (vs xs : List Value) (o j : Nat), (putL xs o vs)[j]? = if o ≤ j ∧ j < o + vs.length ∧ j < xs.length then vs[j - o]? else xs[j]?
 | [], xs, o, j => by rw [putL, if_neg (fun h => by have h1 := h.1; have h2 := h.2.1; simp only [List.length_nil] at h2; omega)]
 | v :: r, xs, o, j => by
  rw [putL, putL_get r]
  simp only [List.length_set, List.length_cons, List.getElem?_set]
  by_cases h1 : o + 1 ≤ j ∧ j < o + 1 + r.length ∧ j < xs.length
  ·rw [if_pos h1, if_pos ⟨by omega, by omega, h1.2.2⟩, show j - o = (j - (o + 1)) + 1 from by omega, List.getElem?_cons_succ]
  ·rw [if_neg h1]
   by_cases h2 : o = j
   ·subst h2
    by_cases h3 : o < xs.length
    ·rw [if_pos rfl, if_pos h3, if_pos ⟨Nat.le_refl _, by omega, h3⟩, Nat.sub_self]; rfl
    ·rw [if_pos rfl, if_neg h3, if_neg (by omega), List.getElem?_eq_none (by omega)]
   ·rw [if_neg h2, if_neg (by omega)]
theorem putL_take (vs xs : List Value) (o m : Nat) (h : m ≤ o) : (putL xs o vs).take m = xs.take m := by
 apply List.ext_getElem?
 intro j
 rw [List.getElem?_take, List.getElem?_take, putL_get]
 by_cases hj : j < m
 ·rw [if_pos hj, if_pos hj, if_neg (by omega)]
 ·rw [if_neg hj, if_neg hj]
section
variable {w : World} {base : Nat} {e : TypeId} {size g cap n : Nat} {xs : List Value}
theorem own_setCells : ∀ (vs : List Value) (o : Nat) {w : World} {xs : List Value}, w.ownsRow base e size (.slice (some ⟨g, 0, none⟩) n cap) n xs →
  (w.setCells g o vs).ownsRow base e size (.slice (some ⟨g, 0, none⟩) n cap) n (putL xs o vs) ∧ w.grownBy (w.setCells g o vs) (some g)
 | [], _, w, xs, h => ⟨h, ⟨rfl, rfl, rfl, Nat.le_refl _, fun _ _ _ => rfl⟩⟩
 | v :: r, o, w, xs, h => by
  obtain ⟨h1, h2⟩ := World.ownsRow.stored h o v
  obtain ⟨h3, h4⟩ := own_setCells r (o + 1) h1
  exact ⟨h3, h2.trans h4⟩
theorem own_less (h : w.ownsRow base e size (.slice (some ⟨g, 0, none⟩) n cap) n xs) {m : Nat} (hm : m ≤ n) : w.ownsRow base e size (.slice (some ⟨g, 0, none⟩) m cap) m (xs.take (m * size)) := by
 have hle : m * size ≤ n * size := Nat.mul_le_mul_right _ hm
 refine ⟨by rw [List.length_take, h.1]; omega, ?_⟩
 rcases h.2 with ⟨h', _⟩ | ⟨g', cap', cur, h', hb, hg, hnc, hcm, hcs, htake⟩
 ·simp at h'
 ·simp only [Value.slice.injEq, Option.some.injEq, Addr.mk.injEq, and_true, true_and] at h'
  obtain ⟨rfl, rfl⟩ := h'
  exact .inr ⟨g, cap, cur, rfl, hb, hg, by omega, hcm, hcs, by rw [← htake, List.take_take, Nat.min_eq_left hle]⟩
theorem own_more (h : w.ownsRow base e size (.slice (some ⟨g, 0, none⟩) n cap) n xs) {m : Nat} (hm : n ≤ m) (hc : m ≤ cap) : ∃ ys, w.ownsRow base e size (.slice (some ⟨g, 0, none⟩) m cap) m (xs ++ ys) ∧ ys.length = (m - n) * size := by
 rcases h.2 with ⟨h', _⟩ | ⟨g', cap', cur, h', hb, hg, hnc, hcm, hcs, htake⟩
 ·simp at h'
 ·simp only [Value.slice.injEq, Option.some.injEq, Addr.mk.injEq, and_true, true_and] at h'
  obtain ⟨rfl, rfl⟩ := h'
  have h1 : n * size ≤ m * size := Nat.mul_le_mul_right _ hm
  have h2 : m * size ≤ cap * size := Nat.mul_le_mul_right _ hc
  have hcl : cur.toList.length = cap * size := by simpa using hcs
  have hms : m * size = n * size + (m - n) * size := by rw [← Nat.add_mul]; congr 1; omega
  refine ⟨(cur.toList.drop (n * size)).take ((m - n) * size), ⟨?_, .inr ⟨g, cap, cur, rfl, hb, hg, hc, hcm, hcs, ?_⟩⟩, ?_⟩
  ·rw [List.length_append, h.1, List.length_take, List.length_drop, hcl]; omega
  ·rw [← htake, hms, List.take_add]
  ·rw [List.length_take, List.length_drop, hcl]; omega
theorem own_cap (h : w.ownsRow base e size (.slice (some ⟨g, 0, none⟩) n cap) n xs) : n ≤ cap ∧ cap ≤ maxLen ∧ g < w.heap.size ∧ base ≤ g ∧ ∃ cur, w.heap[g]? = some (.cells cur e (0, 0)) ∧ cur.size = cap * size := by
 rcases h.2 with ⟨h', _⟩ | ⟨g', cap', cur, h', hb, hg, hnc, hcm, hcs, htake⟩
 ·simp at h'
 ·simp only [Value.slice.injEq, Option.some.injEq, Addr.mk.injEq, and_true, true_and] at h'
  obtain ⟨rfl, rfl⟩ := h'
  exact ⟨hnc, hcm, (Array.getElem?_eq_some_iff.1 hg).1, hb, cur, hg, hcs⟩
theorem own_there (h : w.ownsRow base e size (.slice (some ⟨g, 0, none⟩) n cap) n xs) (j : Nat) (hj : j < cap * size) : (w.cell? ⟨g, j, none⟩).isSome = true ∧ w.frozen? ⟨g, j, none⟩ = false := by
 obtain ⟨h1, h2, h3, h4, cur, hg, hs⟩ := own_cap h
 refine ⟨?_, World.ownsRow.frozenAt h j⟩
 have := cell_of_row w g j cur e (0, 0) hg
 rw [this, Array.getElem?_eq_getElem (by omega)]
 rfl
end
theorem run_copy_k {P : Program} (w : World) (dT sT ty elem : TypeId) (size b o dLen dCap : Nat) (a : Addr) (sLen sCap m : Nat) (cs : List Value)
  (hu : P.underlying dT = some (.slice elem)) (hs : (P.info? elem).map (·.size) = some size) (hm : m = Nat.min sLen dLen) (hn : cs.length = m * size)
  (hsrc : ∀ j v, cs[j]? = some v → w.cell? (a.add j) = some v) (hc : ∀ j, j < cs.length → (w.cell? ⟨b, o + j, none⟩).isSome = true ∧ w.frozen? ⟨b, o + j, none⟩ = false) (h1 : ∀ v ∈ cs, v.oneCell' = true) :
  (Builtin.copy_ #[dT, sT] ty #[.slice (some ⟨b, o, none⟩) dLen dCap, .slice (some a) sLen sCap]).run P w = .ok (goInt m) (w.setCells b o cs) := by
 have hl := run_firstCells_some (P := P) w size m a sLen sCap cs hn hsrc
 have hst := run_storeCells_cells (P := P) b o cs 0 w (fun j hj => by simpa using (hc j hj).1) (fun j hj => by simpa using (hc j hj).2) h1
 cases hq : P.info? elem with
 | none => simp [hq] at hs
 | some i =>
  have hi : i.size = size := by simpa [hq] using hs
  simp [Builtin.copy_, run_underlying hu, Builtin.lenOf, sizeOf, typeInfo, hq, hi, ← hm, hl, hst]
theorem run_clear_k {P : Program} (w : World) (T E ty : TypeId) (z : Array Value) (k : Nat) (hU : P.underlying T = some (.slice E)) (hv : (zeroValue E).run P w = .ok (.agg z) w) (hz : z.size = k) (hone : ∀ v ∈ z.toList, v.oneCell' = true)
  (b o c : Nat) (ht : ∀ j, j < 1 * k → (w.cell? ⟨b, o + j, none⟩).isSome = true ∧ w.frozen? ⟨b, o + j, none⟩ = false) :
  ∃ zs, zs.length = k ∧ (Builtin.clear_ #[T] ty #[.slice (some ⟨b, o, none⟩) 1 c]).run P w = .ok (.tuple #[]) (w.setCells b o zs) := by
 obtain ⟨zs, hzs⟩ : ∃ zs, zs = (Builtin.zeroCells (Value.agg z).cells 1).toList := ⟨_, rfl⟩
 have hlen : zs.length = k := by
  rw [hzs]
  show ((Array.range (1 * z.size)).map _).toList.length = k
  simp [hz]
 have hon : ∀ v ∈ zs, v.oneCell' = true := by
  intro v hv2
  rw [hzs] at hv2
  have h2 : v ∈ ((Array.range (1 * z.size)).map fun i => z[i % z.size]!).toList := hv2
  simp only [Array.toList_map, List.mem_map] at h2
  obtain ⟨i, hi, rfl⟩ := h2
  have hi2 : i < 1 * z.size := by simpa using hi
  have hlt : i % z.size < z.size := Nat.mod_lt _ (by omega)
  rw [getElem!_pos z (i % z.size) hlt]
  exact hone _ (by simp)
 have hst := run_storeCells_cells (P := P) b o zs 0 w (by rw [hlen]; simpa using fun j hj => (ht j (by omega)).1) (by rw [hlen]; simpa using fun j hj => (ht j (by omega)).2) hon
 simp only [Nat.add_zero] at hst
 rw [hzs] at hst
 refine ⟨zs, hlen, ?_⟩
 rw [hzs]
 simp [Builtin.clear_, run_underlying hU, hv, hst]
section
variable {α : Type} {K : Kind α} {L : List α}
theorem flatG_len (h : ∀ x ∈ L, K.ok x) : (flatG K L).length = L.length * K.k := flatG_length K h
theorem flatG_take (h : ∀ x ∈ L, K.ok x) (i : Nat) : (flatG K L).take (i * K.k) = flatG K (L.take i) := by
 rcases Nat.le_total i L.length with hi | hi
 ·have e : flatG K L = flatG K (L.take i) ++ flatG K (L.drop i) := by rw [← flatG_append, List.take_append_drop]
  have hl : (flatG K (L.take i)).length = i * K.k := by rw [flatG_length K (fun x hx => h x (List.mem_of_mem_take hx)), List.length_take, Nat.min_eq_left hi]
  rw [e, List.take_append_of_le_length (by omega), List.take_of_length_le (by omega)]
 ·rw [List.take_of_length_le hi, List.take_of_length_le]
  rw [flatG_length K h]
  exact Nat.mul_le_mul_right _ hi
theorem flatG_drop (h : ∀ x ∈ L, K.ok x) (i : Nat) : (flatG K L).drop (i * K.k) = flatG K (L.drop i) := by
 rcases Nat.le_total i L.length with hi | hi
 ·have e : flatG K L = flatG K (L.take i) ++ flatG K (L.drop i) := by rw [← flatG_append, List.take_append_drop]
  have hl : (flatG K (L.take i)).length = i * K.k := by rw [flatG_length K (fun x hx => h x (List.mem_of_mem_take hx)), List.length_take, Nat.min_eq_left hi]
  rw [e, ← hl, List.drop_left]
 ·rw [List.drop_eq_nil_of_le hi, List.drop_eq_nil_of_le]
  ·rfl
  ·rw [flatG_length K h]
   exact Nat.mul_le_mul_right _ hi
theorem flatG_erase (h : ∀ x ∈ L, K.ok x) {i n : Nat} (hn : L.length = n) (hi : i < n) (zs : List Value) : (putL (putL (flatG K L) (i * K.k) (flatG K (L.drop (i + 1)))) ((n - 1) * K.k) zs).take ((n - 1) * K.k) = flatG K (L.eraseIdx i) := by
 rw [putL_take _ _ _ _ (Nat.le_refl _)]
 have hd : ∀ x ∈ L.drop (i + 1), K.ok x := fun x hx => h x (List.mem_of_mem_drop hx)
 have h1 : (flatG K L).length = n * K.k := by rw [flatG_length K h, hn]
 have h2 : (flatG K (L.drop (i + 1))).length = (n - (i + 1)) * K.k := by rw [flatG_length K hd, List.length_drop, hn]
 have hm : (n - 1) * K.k = i * K.k + (n - (i + 1)) * K.k := by rw [← Nat.add_mul]; congr 1; omega
 have hle : (n - 1) * K.k ≤ n * K.k := Nat.mul_le_mul_right _ (by omega)
 rw [List.eraseIdx_eq_take_drop_succ, flatG_append, ← flatG_take h]
 apply List.ext_getElem?
 intro j
 rw [List.getElem?_take, putL_get, h1, h2]
 have hl : ((flatG K L).take (i * K.k)).length = i * K.k := by rw [List.length_take, h1]; exact Nat.min_eq_left (Nat.mul_le_mul_right _ (by omega))
 by_cases hj : j < (n - 1) * K.k
 ·rw [if_pos hj]
  by_cases hji : j < i * K.k
  ·rw [if_neg (by omega), List.getElem?_append_left (by omega), List.getElem?_take, if_pos hji]
  ·rw [if_pos ⟨by omega, by omega, by omega⟩, List.getElem?_append_right (by omega), hl]
 ·rw [if_neg hj, List.getElem?_append_right (by omega), hl, List.getElem?_eq_none (by omega)]
theorem flatG_insert (h : ∀ x ∈ L, K.ok x) {X : α} (hX : K.ok X) {i n : Nat} (hn : L.length = n) (hi : i ≤ n) (ys : List Value) (hy : ys.length = K.k) :
  putL (putL (flatG K L ++ ys) ((i + 1) * K.k) (flatG K (L.drop i))) (i * K.k) (K.cells X) = flatG K (L.take i ++ X :: L.drop i) := by
 have hd : ∀ x ∈ L.drop i, K.ok x := fun x hx => h x (List.mem_of_mem_drop hx)
 have h1 : (flatG K L).length = n * K.k := by rw [flatG_length K h, hn]
 have h2 : (flatG K (L.drop i)).length = (n - i) * K.k := by rw [flatG_length K hd, List.length_drop, hn]
 have h3 : (K.cells X).length = K.k := K.len X hX
 have hm : n * K.k = i * K.k + (n - i) * K.k := by rw [← Nat.add_mul]; congr 1; omega
 have hs : (i + 1) * K.k = i * K.k + K.k := by rw [Nat.add_mul, Nat.one_mul]
 have hle : i * K.k ≤ n * K.k := Nat.mul_le_mul_right _ hi
 rw [flatG_append, ← flatG_take h, show flatG K (X :: L.drop i) = K.cells X ++ flatG K (L.drop i) from by simp [flatG]]
 have hl : ((flatG K L).take (i * K.k)).length = i * K.k := by rw [List.length_take, h1]; exact Nat.min_eq_left hle
 apply List.ext_getElem?
 intro j
 rw [putL_get, putL_length, putL_get, List.length_append, h1, h2, h3, hy, hs]
 by_cases a1 : j < i * K.k
 ·rw [if_neg (by omega), if_neg (by omega), List.getElem?_append_left (by omega), List.getElem?_append_left (by omega), List.getElem?_take, if_pos a1]
 ·by_cases a2 : j < i * K.k + K.k
  ·rw [if_pos ⟨by omega, a2, by omega⟩, List.getElem?_append_right (by omega), hl, List.getElem?_append_left (by omega)]
  ·have hR : ((flatG K L).take (i * K.k) ++ (K.cells X ++ flatG K (L.drop i)))[j]? = (flatG K (L.drop i))[j - i * K.k - K.k]? := by
    rw [List.getElem?_append_right (by omega), hl, List.getElem?_append_right (by omega), h3]
   rw [hR, if_neg (by omega)]
   by_cases a3 : j < n * K.k + K.k
   ·rw [if_pos ⟨by omega, by omega, a3⟩]
    congr 1; omega
   ·rw [if_neg (by omega), List.getElem?_eq_none (by rw [List.length_append, h1, hy]; omega), List.getElem?_eq_none (by omega)]
end
end Go.Proofs.YthihmlojdopmfaaDoor

namespace Go.Proofs.YthihmlojdopmfaaDoor
open Go.RowKit

theorem sizeNf : (Value.agg (rnL ([], zId)).toArray).cells.size = rnK.k := by kernel_rfl
theorem sizeEf : (Value.agg (enL default).toArray).cells.size = enK.k := by kernel_rfl
theorem size_le_alloc (w : World) (o : Obj) : w.heap.size ≤ (w.alloc o).heap.size := by simp

set_option maxRecDepth 100000 in
set_option maxHeartbeats 1000000 in
theorem cloneN_any (a : Option Addr) (n c : Nat) (L : List RName) (w : World) (h : AtG rnK w a n c L) (hn : n ≤ 1000000) :
  Calls Tryd.prog 72 #[.slice a n c] w fun e w' => ∃ a' c', e = .returned (.slice a' n c') ∧ OwnG rnK NEf w' w.heap.size (.slice a' n c') L ∧ Below w.heap.size w w' := by
 have HLN := Lib.hid h.1
 have q := fun W (a : Option Addr) n c n' c' => Lib.run_eql_slice_nil (P := Tryd.prog) W _ _ a n c n' c' Tryd.underlying33
 cases a with
 | none =>
  have h0 : n = 0 ∧ c = 0 := by
   rcases h.2.2.2.2 with h1 | ⟨b, o, h1, _⟩
   ·exact h1
   ·cases h1
  obtain ⟨rfl, rfl⟩ := h0
  have hL : L = [] := List.length_eq_zero_iff.1 h.1
  subst hL
  clear h
  go_enter Tryd.func72, Tryd.ntmps72
  go_wp2
  go_ret
  exact ⟨none, 0, rfl, OwnG.nil, Below.refl _ _⟩
 | some ad =>
  have HN := Lib.hid h
  have HB := Lib.hid ((Below.refl w.heap.size w).alloc (Nat.le_refl _) (.cells #[] NEf))
  have HO := Lib.hid (OwnG.lit (K := rnK) (E := NEf) (w := w) (L := []) rfl #[] rfl)
  have HS := Lib.hid (size_le_alloc w (.cells #[] NEf))
  have HH : Hid ((([] : List RName).length + n) * (48 + 1) ≤ 140737488355328) := Lib.hid (by simp; omega)
  have HR : Hid (n = ([] : List RName).length + n) := Lib.hid (by simp)
  clear h hn
  go_enter Tryd.func72, Tryd.ntmps72
  go_wp2_with ((with_reducible refine atS 7 ?_); go_must (refine appG rnK Tryd.underlying33 infoNf sizeNf rfl _ _ rfl w.heap.size _ [] rfl HO.out _ n c L rfl (HN.out.below HB.out) HH.out HS.out n HR.out ?_); intro a7 c7 W7 ho7 hg7; have HB7 := Lib.hid (HB.out.grown hg7 HB.out.size (fun k hk => by cases hk; exact Nat.le_refl _)); have HO7 := Lib.hid ho7; clear ho7 hg7)
  go_ret
  exact ⟨a7, c7, rfl, by have := HO7.out; rwa [List.nil_append] at this, HB7.out⟩

set_option maxRecDepth 100000 in
set_option maxHeartbeats 2000000 in
theorem deleteN_any (g n c i j base : Nat) (z : Int) (L : List RName) (w : World) (h : OwnG rnK NEf w base (.slice (some ⟨g, 0, none⟩) n c) L) (hi : i < n) (hj : j = i + 1) (hz : z = (j : Int)) (hn : n ≤ 1000000) :
  Calls Tryd.prog 92 #[.slice (some ⟨g, 0, none⟩) n c, .int .i64 i, .int .i64 z] w fun e w' => e = .returned (.slice (some ⟨g, 0, none⟩) (n - 1) c) ∧ OwnG rnK NEf w' base (.slice (some ⟨g, 0, none⟩) (n - 1) c) (L.eraseIdx i) ∧ w.grownBy w' (some g) := by
 subst hz
 have hln := h.len
 obtain ⟨hnc, hcm, hgl, hgb, _⟩ := own_cap (hln ▸ h.1 : w.ownsRow base NEf 33 (.slice (some ⟨g, 0, none⟩) n c) n (flatG rnK L))
 have hcM : c ≤ 9223372036854775807 := by unfold maxLen at hcm; omega
 have hown0 : w.ownsRow base NEf 33 (.slice (some ⟨g, 0, none⟩) n c) n (flatG rnK L) := hln ▸ h.1
 obtain ⟨news, hnews⟩ : ∃ news, news = flatG rnK (L.drop j) := ⟨_, rfl⟩
 have hdok : ∀ x ∈ L.drop j, (rnK).ok x := fun x hx => h.2 x (List.mem_of_mem_drop hx)
 have hnl : news.length = (n - j) * 33 := by rw [hnews, flatG_len hdok, List.length_drop, hln]; rfl
 have hfl : (flatG rnK L).length = n * 33 := by rw [flatG_len h.2, hln]; rfl
 have hdr : (flatG rnK L).drop (j * 33) = news := by rw [hnews]; exact flatG_drop h.2 j
 obtain ⟨A, hA, hsrc⟩ : ∃ A : Addr, (if c = j then some (⟨g, 0, none⟩ : Addr) else some ⟨g, j * 33, none⟩) = some A ∧ Hid (∀ t u, news[t]? = some u → w.drew.cell? (A.add t) = some u) := by
  by_cases hc : c = j
  ·refine ⟨⟨g, 0, none⟩, by simp [hc], Lib.hid (fun t u hu => ?_)⟩
   have h0 : news.length = 0 := by rw [hnl, show n - j = 0 by omega, Nat.zero_mul]
   rw [List.length_eq_zero_iff.1 h0] at hu
   simp at hu
  ·refine ⟨⟨g, j * 33, none⟩, by simp [hc], Lib.hid (fun t u hu => ?_)⟩
   rw [← hdr, List.getElem?_drop] at hu
   have hlt := (List.getElem?_eq_some_iff.1 hu).1
   have h2 := World.ownsRow.cellAt hown0 (j * 33 + t) (by rw [hfl] at hlt; exact hlt)
   rw [Addr.add_lit]
   exact h2.trans hu
 have s1 := Lib.hid hnl
 have s2 : Hid (∀ u ∈ news, u.oneCell' = true) := Lib.hid (by rw [hnews]; exact flatG_one rnK hdok)
 have s3 : Hid (∀ t, t < news.length → (w.drew.cell? ⟨g, 0 + i * 33 + t, none⟩).isSome = true ∧ w.drew.frozen? ⟨g, 0 + i * 33 + t, none⟩ = false) := Lib.hid (fun t ht => by
  rw [Nat.zero_add]
  refine own_there (w := w.drew) hown0 (i * 33 + t) ?_
  rw [hnl] at ht
  omega)
 obtain ⟨W1, hW1⟩ : ∃ W1, W1 = w.drew.setCells g (0 + i * 33) news := ⟨_, rfl⟩
 obtain ⟨ho1, hg1⟩ := own_setCells news (i * 33) (w := w.drew) hown0
 rw [Nat.zero_add] at hW1
 rw [← hW1] at ho1 hg1
 have HW1 : Hid (W1 = w.drew.setCells g (0 + i * 33) news) := Lib.hid (by rw [Nat.zero_add]; exact hW1)
 obtain ⟨i0, hi0, hz0, hz1, hz2⟩ := info_parts infoNf
 have HCL := Lib.hid (fun ty => run_clear_k (P := Tryd.prog) W1 33 NEf ty _ 33 Tryd.underlying33 (show (zeroValue NEf).run Tryd.prog W1 = .ok (.agg (rnL ([], zId)).toArray) W1 by kernel_rfl) (by kernel_rfl) (fun v hv => rnL_one ([], zId) v (by simpa using hv)) g ((n - 1) * 33) (c - (n - 1)) (fun j hj => own_there ho1 ((n - 1) * 33 + j) (by omega)))
 have HO1 := Lib.hid ho1
 have HG1 := Lib.hid hg1
 have HNE := Lib.hid hnews
 have HLE := Lib.hid hln
 have HOK := Lib.hid h.2
 have HGW : Hid (w.grownBy W1 (some g)) := Lib.hid ⟨hg1.os, hg1.tape, hg1.output, hg1.size, hg1.block⟩
 have hi0I : (0 : Int) ≤ (i : Int) := by omega
 have hiI : (i : Int) < (n : Int) := by omega
 have hnI : (n : Int) ≤ 1000000 := by omega
 have hncI : (n : Int) ≤ (c : Int) := by omega
 have hcI : (c : Int) ≤ 9223372036854775807 := by omega
 have hne1 : ¬ ((i : Int) = (j : Int)) := by omega
 have hij : i ≤ j := by omega
 have hijI : (i : Int) ≤ (j : Int) := by omega
 have hjI : (j : Int) ≤ (n : Int) := by omega
 have hj0 : (0 : Int) ≤ (j : Int) := by omega
 have hic : i ≤ c := by omega
 have hjc : j ≤ c := by omega
 have hjn : j ≤ n := by omega
 have hie : i + (n - j) = n - 1 := by omega
 have HIN := Lib.hid hi
 have HJ := Lib.hid hj
 clear hW1 hnews hdok hnl hfl hdr hown0 ho1 hg1 h hgl hgb hcm hln hj
 go_enter Tryd.func92, Tryd.ntmps92
 go_wp2
 go_region_law ((refine step_append_room rfl (.tmp 22) (.tmp 25) 33 rfl NEf i0 33 Tryd.underlying33 hi0 hz1 g 0 i c (by simp [Act.eval, Act.put]) A (n - j) (c - j) news (by simp [Act.eval, Act.put]) s1.out hsrc.out s2.out (by omega) s3.out ?_); rw [← HW1.out, hie])
 clear hA hsrc
 go_wp2
 obtain ⟨zs, hzl, hrun⟩ := HCL.out 0
 have hnn : n - (n - 1) = 1 := by have := HIN.out; omega
 rw [hnn, hrun]
 have HRN := Lib.hid hrun
 have HZL := Lib.hid hzl
 clear hrun hzl hnn
 go_wp2
 go_ret
 obtain ⟨h1, h2⟩ := own_setCells zs ((n - 1) * 33) HO1.out
 have h3 := own_less h1 (Nat.sub_le n 1)
 have h4 := flatG_erase HOK.out HLE.out HIN.out zs
 have hle : (L.eraseIdx i).length = n - 1 := by rw [List.length_eraseIdx, if_pos (by rw [HLE.out]; exact HIN.out), HLE.out]
 rw [HNE.out, show j = i + 1 from HJ.out, show flatG rnK (L.drop (i + 1)) = flatG rnK (L.drop (i + 1)) from rfl] at h3
 refine ⟨rfl, ⟨?_, fun x hx => HOK.out x (List.mem_of_mem_eraseIdx hx)⟩, HGW.out.trans h2⟩
 rw [hle, ← h4]
 exact h3

set_option maxRecDepth 100000 in
set_option maxHeartbeats 1000000 in
theorem cloneE_any (a : Option Addr) (n c : Nat) (L : List EntV) (w : World) (h : AtG enK w a n c L) (hn : n ≤ 1000000) :
  Calls Tryd.prog 73 #[.slice a n c] w fun e w' => ∃ a' c', e = .returned (.slice a' n c') ∧ OwnG enK EEf w' w.heap.size (.slice a' n c') L ∧ Below w.heap.size w w' := by
 have HLN := Lib.hid h.1
 have q := fun W (a : Option Addr) n c n' c' => Lib.run_eql_slice_nil (P := Tryd.prog) W _ _ a n c n' c' Tryd.underlying25
 cases a with
 | none =>
  have h0 : n = 0 ∧ c = 0 := by
   rcases h.2.2.2.2 with h1 | ⟨b, o, h1, _⟩
   ·exact h1
   ·cases h1
  obtain ⟨rfl, rfl⟩ := h0
  have hL : L = [] := List.length_eq_zero_iff.1 h.1
  subst hL
  clear h
  go_enter Tryd.func73, Tryd.ntmps73
  go_wp2
  go_ret
  exact ⟨none, 0, rfl, OwnG.nil, Below.refl _ _⟩
 | some ad =>
  have HN := Lib.hid h
  have HB := Lib.hid ((Below.refl w.heap.size w).alloc (Nat.le_refl _) (.cells #[] EEf))
  have HO := Lib.hid (OwnG.lit (K := enK) (E := EEf) (w := w) (L := []) rfl #[] rfl)
  have HS := Lib.hid (size_le_alloc w (.cells #[] EEf))
  have HH : Hid ((([] : List EntV).length + n) * (104 + 1) ≤ 140737488355328) := Lib.hid (by simp; omega)
  have HR : Hid (n = ([] : List EntV).length + n) := Lib.hid (by simp)
  clear h hn
  go_enter Tryd.func73, Tryd.ntmps73
  go_wp2_with ((with_reducible refine atS 7 ?_); go_must (refine appG enK Tryd.underlying25 infoEf sizeEf rfl _ _ rfl w.heap.size _ [] rfl HO.out _ n c L rfl (HN.out.below HB.out) HH.out HS.out n HR.out ?_); intro a7 c7 W7 ho7 hg7; have HB7 := Lib.hid (HB.out.grown hg7 HB.out.size (fun k hk => by cases hk; exact Nat.le_refl _)); have HO7 := Lib.hid ho7; clear ho7 hg7)
  go_ret
  exact ⟨a7, c7, rfl, by have := HO7.out; rwa [List.nil_append] at this, HB7.out⟩

set_option maxRecDepth 100000 in
set_option maxHeartbeats 2000000 in
theorem deleteE_any (g n c i j base : Nat) (z : Int) (L : List EntV) (w : World) (h : OwnG enK EEf w base (.slice (some ⟨g, 0, none⟩) n c) L) (hi : i < n) (hj : j = i + 1) (hz : z = (j : Int)) (hn : n ≤ 1000000) :
  Calls Tryd.prog 77 #[.slice (some ⟨g, 0, none⟩) n c, .int .i64 i, .int .i64 z] w fun e w' => e = .returned (.slice (some ⟨g, 0, none⟩) (n - 1) c) ∧ OwnG enK EEf w' base (.slice (some ⟨g, 0, none⟩) (n - 1) c) (L.eraseIdx i) ∧ w.grownBy w' (some g) := by
 subst hz
 have hln := h.len
 obtain ⟨hnc, hcm, hgl, hgb, _⟩ := own_cap (hln ▸ h.1 : w.ownsRow base EEf 67 (.slice (some ⟨g, 0, none⟩) n c) n (flatG enK L))
 have hcM : c ≤ 9223372036854775807 := by unfold maxLen at hcm; omega
 have hown0 : w.ownsRow base EEf 67 (.slice (some ⟨g, 0, none⟩) n c) n (flatG enK L) := hln ▸ h.1
 obtain ⟨news, hnews⟩ : ∃ news, news = flatG enK (L.drop j) := ⟨_, rfl⟩
 have hdok : ∀ x ∈ L.drop j, (enK).ok x := fun x hx => h.2 x (List.mem_of_mem_drop hx)
 have hnl : news.length = (n - j) * 67 := by rw [hnews, flatG_len hdok, List.length_drop, hln]; rfl
 have hfl : (flatG enK L).length = n * 67 := by rw [flatG_len h.2, hln]; rfl
 have hdr : (flatG enK L).drop (j * 67) = news := by rw [hnews]; exact flatG_drop h.2 j
 obtain ⟨A, hA, hsrc⟩ : ∃ A : Addr, (if c = j then some (⟨g, 0, none⟩ : Addr) else some ⟨g, j * 67, none⟩) = some A ∧ Hid (∀ t u, news[t]? = some u → w.drew.cell? (A.add t) = some u) := by
  by_cases hc : c = j
  ·refine ⟨⟨g, 0, none⟩, by simp [hc], Lib.hid (fun t u hu => ?_)⟩
   have h0 : news.length = 0 := by rw [hnl, show n - j = 0 by omega, Nat.zero_mul]
   rw [List.length_eq_zero_iff.1 h0] at hu
   simp at hu
  ·refine ⟨⟨g, j * 67, none⟩, by simp [hc], Lib.hid (fun t u hu => ?_)⟩
   rw [← hdr, List.getElem?_drop] at hu
   have hlt := (List.getElem?_eq_some_iff.1 hu).1
   have h2 := World.ownsRow.cellAt hown0 (j * 67 + t) (by rw [hfl] at hlt; exact hlt)
   rw [Addr.add_lit]
   exact h2.trans hu
 have s1 := Lib.hid hnl
 have s2 : Hid (∀ u ∈ news, u.oneCell' = true) := Lib.hid (by rw [hnews]; exact flatG_one enK hdok)
 have s3 : Hid (∀ t, t < news.length → (w.drew.cell? ⟨g, 0 + i * 67 + t, none⟩).isSome = true ∧ w.drew.frozen? ⟨g, 0 + i * 67 + t, none⟩ = false) := Lib.hid (fun t ht => by
  rw [Nat.zero_add]
  refine own_there (w := w.drew) hown0 (i * 67 + t) ?_
  rw [hnl] at ht
  omega)
 obtain ⟨W1, hW1⟩ : ∃ W1, W1 = w.drew.setCells g (0 + i * 67) news := ⟨_, rfl⟩
 obtain ⟨ho1, hg1⟩ := own_setCells news (i * 67) (w := w.drew) hown0
 rw [Nat.zero_add] at hW1
 rw [← hW1] at ho1 hg1
 have HW1 : Hid (W1 = w.drew.setCells g (0 + i * 67) news) := Lib.hid (by rw [Nat.zero_add]; exact hW1)
 obtain ⟨i0, hi0, hz0, hz1, hz2⟩ := info_parts infoEf
 have HCL := Lib.hid (fun ty => run_clear_k (P := Tryd.prog) W1 25 EEf ty _ 67 Tryd.underlying25 (show (zeroValue EEf).run Tryd.prog W1 = .ok (.agg (enL default).toArray) W1 by kernel_rfl) (by kernel_rfl) (fun v hv => enL_one default v (by simpa using hv)) g ((n - 1) * 67) (c - (n - 1)) (fun j hj => own_there ho1 ((n - 1) * 67 + j) (by omega)))
 have HO1 := Lib.hid ho1
 have HG1 := Lib.hid hg1
 have HNE := Lib.hid hnews
 have HLE := Lib.hid hln
 have HOK := Lib.hid h.2
 have HGW : Hid (w.grownBy W1 (some g)) := Lib.hid ⟨hg1.os, hg1.tape, hg1.output, hg1.size, hg1.block⟩
 have hi0I : (0 : Int) ≤ (i : Int) := by omega
 have hiI : (i : Int) < (n : Int) := by omega
 have hnI : (n : Int) ≤ 1000000 := by omega
 have hncI : (n : Int) ≤ (c : Int) := by omega
 have hcI : (c : Int) ≤ 9223372036854775807 := by omega
 have hne1 : ¬ ((i : Int) = (j : Int)) := by omega
 have hij : i ≤ j := by omega
 have hijI : (i : Int) ≤ (j : Int) := by omega
 have hjI : (j : Int) ≤ (n : Int) := by omega
 have hj0 : (0 : Int) ≤ (j : Int) := by omega
 have hic : i ≤ c := by omega
 have hjc : j ≤ c := by omega
 have hjn : j ≤ n := by omega
 have hie : i + (n - j) = n - 1 := by omega
 have HIN := Lib.hid hi
 have HJ := Lib.hid hj
 clear hW1 hnews hdok hnl hfl hdr hown0 ho1 hg1 h hgl hgb hcm hln hj
 go_enter Tryd.func77, Tryd.ntmps77
 go_wp2
 go_region_law ((refine step_append_room rfl (.tmp 22) (.tmp 25) 25 rfl EEf i0 67 Tryd.underlying25 hi0 hz1 g 0 i c (by simp [Act.eval, Act.put]) A (n - j) (c - j) news (by simp [Act.eval, Act.put]) s1.out hsrc.out s2.out (by omega) s3.out ?_); rw [← HW1.out, hie])
 clear hA hsrc
 go_wp2
 obtain ⟨zs, hzl, hrun⟩ := HCL.out 0
 have hnn : n - (n - 1) = 1 := by have := HIN.out; omega
 rw [hnn, hrun]
 have HRN := Lib.hid hrun
 have HZL := Lib.hid hzl
 clear hrun hzl hnn
 go_wp2
 go_ret
 obtain ⟨h1, h2⟩ := own_setCells zs ((n - 1) * 67) HO1.out
 have h3 := own_less h1 (Nat.sub_le n 1)
 have h4 := flatG_erase HOK.out HLE.out HIN.out zs
 have hle : (L.eraseIdx i).length = n - 1 := by rw [List.length_eraseIdx, if_pos (by rw [HLE.out]; exact HIN.out), HLE.out]
 rw [HNE.out, show j = i + 1 from HJ.out, show flatG enK (L.drop (i + 1)) = flatG enK (L.drop (i + 1)) from rfl] at h3
 refine ⟨rfl, ⟨?_, fun x hx => HOK.out x (List.mem_of_mem_eraseIdx hx)⟩, HGW.out.trans h2⟩
 rw [hle, ← h4]
 exact h3
end Go.Proofs.YthihmlojdopmfaaDoor
