/-
  Rows of ints in memory, each in a block of its own; a part of one, sorted.
-/
import Derived.Test.YtheigemfbcgjcaaDlSmall
import Derived.Test.YtheigemfbcgjcaaDlShelf
namespace Go.Proofs.Ytheigemfbcgjcaa
open Go.RowKit Go.Sort Go.Lib

/-- Block g holds these ints. -/
def IntsAt (w : World) (g n : Nat) (L : List Nat) : Prop := L.length = n ∧ g < w.heap.size ∧ ∀ j, j < n → w.cell? ⟨g, j, none⟩ = some (.int .i64 (L.getD j 0 : Nat)) ∧ w.frozen? ⟨g, j, none⟩ = false
theorem IntsAt.block {w w' : World} {g n : Nat} {L : List Nat} (h : IntsAt w g n L) (hk : w'.heap[g]? = w.heap[g]?) (hs : w.heap.size ≤ w'.heap.size) : IntsAt w' g n L :=
  ⟨h.1, by have := h.2.1; omega, fun j hj => ⟨by rw [World.cell?_of_block (a := ⟨g, j, none⟩) hk]; exact (h.2.2 j hj).1, by rw [World.frozen?_of_block (a := ⟨g, j, none⟩) hk]; exact (h.2.2 j hj).2⟩⟩
theorem IntsAt.below {w w' : World} {g n : Nat} {L : List Nat} (h : IntsAt w g n L) (hb : Below w.heap.size w w') : IntsAt w' g n L := h.block (hb.block g h.2.1) hb.size
theorem IntsAt.grown {w w' : World} {g n : Nat} {L : List Nat} {row : Option Nat} (h : IntsAt w g n L) (hg : w.grownBy w' row) (hne : some g ≠ row) : IntsAt w' g n L := h.block (hg.block g h.2.1 hne) hg.size
theorem IntsAt.other {w : World} {g n : Nat} {L : List Nat} (h : IntsAt w g n L) {a : Addr} (ha : g ≠ a.block) (v : Value) : IntsAt (w.setCell a v) g n L :=
  ⟨h.1, by have := h.2.1; simpa using this, fun j hj => ⟨by rw [World.cell?_setCell_other (w := w) (a := a) (b := ⟨g, j, none⟩) (v := v) (h := fun e => ha (by rw [e]))]; exact (h.2.2 j hj).1, by rw [World.frozen?_setCell]; exact (h.2.2 j hj).2⟩⟩
theorem IntsAt.set {w : World} {g n : Nat} {L : List Nat} (h : IntsAt w g n L) {i : Nat} (hi : i < n) (x : Nat) : IntsAt (w.setCell ⟨g, i, none⟩ (.int .i64 (x : Nat))) g n (L.set i x) := by
  refine ⟨by rw [List.length_set]; exact h.1, by have := h.2.1; simpa using this, fun j hj => ⟨?_, by rw [World.frozen?_setCell]; exact (h.2.2 j hj).2⟩⟩
  by_cases hij : i = j
  · subst hij
    rw [World.cell?_setCell_same (w := w) (a := ⟨g, i, none⟩) (v := _) (h := (h.2.2 i hi).1)]
    rw [List.getD_eq_getElem?_getD, List.getElem?_set_self (by rw [h.1]; exact hi)]
    rfl
  · rw [World.cell?_setCell_other (w := w) (a := ⟨g, i, none⟩) (b := ⟨g, j, none⟩) (v := _) (h := fun e => hij (by injection e))]
    rw [(h.2.2 j hj).1, List.getD_eq_getElem?_getD, List.getD_eq_getElem?_getD, List.getElem?_set_ne hij]
theorem getD_mid {L : List Nat} {from_ to_ j : Nat} (h : from_ + j < to_) : ((L.take to_).drop from_).getD j 0 = L.getD (from_ + j) 0 := by
  rw [List.getD_eq_getElem?_getD, List.getD_eq_getElem?_getD, List.getElem?_drop, List.getElem?_take, if_pos h]

set_option maxHeartbeats 1000000 in
theorem ints_sort (g n from_ to_ cap m : Nat) (L : List Nat) (w : World) (hL : IntsAt w g n L) (hft : from_ ≤ to_) (ht : to_ ≤ n) (hn : n ≤ 1000000) (hm : ∀ x ∈ L, x < m) (hm0 : 0 < m) (f : Nat) (cb : Array Value) (cf : Nat → Nat → Int)
    (hO : SWO (ltOf fun x y : Fin m => cf x.val y.val)) (eg : ∀ args w, (callFunc f args).run Try.prog w = .ok (.enter f args) w)
    (hcmp : ∀ W, (∀ k, k < w.heap.size → k ≠ g → W.heap[k]? = w.heap[k]?) → w.heap.size ≤ W.heap.size → ∀ x y, x < m → y < m → Calls Try.prog f (#[.int .i64 (x : Nat), .int .i64 (y : Nat)] ++ cb) W fun e w' => e = .returned (.int .i64 (cf x y)) ∧ ∃ q os', w' = grow (W.drewN q) os') :
    Calls Try.prog 42 #[.slice (some ⟨g, from_, none⟩) (to_ - from_) cap, .func (.func f) #[] cb] w fun e w' => e = .returned (.tuple #[]) ∧ ∃ L', IntsAt w' g n L' ∧ L'.take from_ = L.take from_ ∧ L'.drop to_ = L.drop to_ ∧ ((L'.take to_).drop from_).Perm ((L.take to_).drop from_) ∧ ((L'.take to_).drop from_).Pairwise (fun x y => ¬ cf y x < 0) ∧ w.grownBy w' (some g) := by
  have hlen := hL.1
  obtain ⟨M, hM⟩ : ∃ M, M = (L.take to_).drop from_ := ⟨_, rfl⟩
  have hMl : M.length = to_ - from_ := by rw [hM, List.length_drop, List.length_take]; omega
  have hMm : ∀ x ∈ M, x < m := fun x hx => hm x (by rw [hM] at hx; exact List.mem_of_mem_take (List.mem_of_mem_drop hx))
  haveI : Inhabited (Fin m) := ⟨⟨0, hm0⟩⟩
  let enc : Fin m → Value := fun i => .int .i64 (i.val : Nat)
  let dl : List (Fin m) := M.pmap (fun x hx => (⟨x, hx⟩ : Fin m)) hMm
  have hdl : dl.map Fin.val = M := by
    show (M.pmap (fun x hx => (⟨x, hx⟩ : Fin m)) hMm).map Fin.val = M
    rw [List.map_pmap]
    simp
  let d : Array (Fin m) := dl.toArray
  have hds : d.size = to_ - from_ := by show dl.toArray.size = _; rw [List.size_toArray, ← hMl, ← hdl, List.length_map]
  have at_ : ∀ (e : Array (Fin m)) (j : Nat), j < e.size → (e[j]!).val = (e.toList.map Fin.val).getD j 0 := fun e j hj => by
    rw [getElem!_pos e j hj, List.getD_eq_getElem?_getD, List.getElem?_map, List.getElem?_eq_getElem (by simpa using hj)]
    simp
  have hH : Holds enc w g from_ d := fun j hj => by
    have h1 := hL.2.2 (from_ + j) (by rw [hds] at hj; omega)
    refine ⟨?_, h1.2⟩
    rw [h1.1]
    show _ = some (Value.int .i64 ((d[j]!).val : Nat))
    rw [at_ d j hj]
    show _ = some (Value.int .i64 ((dl.map Fin.val).getD j 0 : Nat))
    rw [hdl, hM, getD_mid (by rw [hds] at hj; omega)]
  have hold : ∀ (q : Nat) (dk : Array (Fin m)) (os : Array Obj) k, k < w.heap.size → k ≠ g → (sortWorld enc w g from_ q dk os).heap[k]? = w.heap[k]? := fun q dk os k hk hne => by
    unfold sortWorld
    rw [heap_grow_old _ _ (by simpa using hk)]
    unfold putRow mapBlock
    simp only [Sort.heap_ahead]
    rw [Array.getElem?_modify, if_neg (fun e => hne e.symm)]
  have hsize : ∀ (q : Nat) (dk : Array (Fin m)) (os : Array Obj), w.heap.size ≤ (sortWorld enc w g from_ q dk os).heap.size := fun q dk os => by
    unfold sortWorld
    rw [size_grow, Sort.size_putRow]
    simp only [Sort.heap_ahead]
    omega
  have hcmp' : CmpLays1 Try.prog f cb enc (fun x y : Fin m => cf x.val y.val) g from_ d.size w := fun q os dk _ x y => hcmp _ (hold q dk os) (hsize q dk os) x.val y.val x.isLt y.isLt
  have h := Try.sortFunc_any enc (fun _ => rfl) (fun x y : Fin m => cf x.val y.val) hO f cb g from_ cap d w eg hcmp' hH hL.2.1 (by rw [hds]; omega)
  rw [hds] at h
  refine h.mono ?_
  rintro e w' ⟨rfl, d', q, os, hp, hs, rfl⟩
  rw [← hds] at hp hs
  have hd's : d'.size = to_ - from_ := by rw [hp.1, hds]
  obtain ⟨M', hM'⟩ : ∃ M', M' = d'.toList.map Fin.val := ⟨_, rfl⟩
  have hM'l : M'.length = to_ - from_ := by rw [hM', List.length_map, Array.length_toList, hd's]
  have hperm : M'.Perm M := by
    have h3 := hp.2.2
    rw [show d'.extract 0 d.size = d' by rw [← hp.1]; simp, show d.extract 0 d.size = d by simp] at h3
    rw [hM', ← hdl]
    exact h3.map _
  have e1 : (L.take from_ ++ M' ++ L.drop to_).take from_ = L.take from_ := by
    rw [List.append_assoc, List.take_append_of_le_length (by rw [List.length_take]; omega), List.take_take, Nat.min_self]
  have e2 : ((L.take from_ ++ M' ++ L.drop to_).take to_).drop from_ = M' := by
    rw [List.take_append_of_le_length (by rw [List.length_append, List.length_take]; omega), List.take_of_length_le (by rw [List.length_append, List.length_take]; omega), List.drop_append_of_le_length (by rw [List.length_take]; omega), List.drop_eq_nil_of_le (by rw [List.length_take]; omega), List.nil_append]
  have e3 : (L.take from_ ++ M' ++ L.drop to_).drop to_ = L.drop to_ := by
    rw [List.drop_append, List.drop_eq_nil_of_le (by rw [List.length_append, List.length_take]; omega), List.nil_append]
    have : to_ - (L.take from_ ++ M').length = 0 := by rw [List.length_append, List.length_take]; omega
    rw [this, List.drop_zero]
  refine ⟨rfl, L.take from_ ++ M' ++ L.drop to_, ?_, e1, e3, ?_, ?_, ?_⟩
  · refine ⟨by rw [List.length_append, List.length_append, List.length_take, List.length_drop]; omega, by have := hsize q d' os; have := hL.2.1; omega, fun j hj => ?_⟩
    have hgl : (⟨g, j, none⟩ : Addr).block < (putRow enc (Sort.ahead w q) g from_ d').heap.size := by rw [Sort.size_putRow]; exact hL.2.1
    refine ⟨?_, ?_⟩
    · unfold sortWorld
      rw [Sort.cell?_grow _ _ _ hgl]
      by_cases hin : from_ ≤ j ∧ j < to_
      · obtain ⟨i, rfl⟩ : ∃ i, j = from_ + i := ⟨j - from_, by omega⟩
        have hh := Sort.cell?_putRow enc (Sort.ahead w q) g from_ d d' (Sort.holds_ahead enc w q g from_ d hH) (by rw [hp.1]) i (by rw [hd's]; omega)
        rw [hh]
        show some (Value.int .i64 ((d'[i]!).val : Nat)) = _
        rw [at_ d' i (by rw [hd's]; omega), ← hM']
        have : (L.take from_ ++ M' ++ L.drop to_).getD (from_ + i) 0 = M'.getD i 0 := by
          rw [← e2, getD_mid (by omega), e2]
        rw [this]
      · rw [Sort.cell?_putRow_other enc _ g from_ d' ⟨g, j, none⟩ (.inr (by show j < from_ ∨ from_ + d'.size ≤ j; rw [hd's]; omega))]
        show w.cell? ⟨g, j, none⟩ = _
        rw [(hL.2.2 j hj).1]
        have : (L.take from_ ++ M' ++ L.drop to_).getD j 0 = L.getD j 0 := by
          rw [List.getD_eq_getElem?_getD, List.getD_eq_getElem?_getD]
          by_cases h1 : j < from_
          · rw [List.append_assoc, List.getElem?_append_left (by rw [List.length_take]; omega), List.getElem?_take, if_pos h1]
          · rw [List.getElem?_append_right (by rw [List.length_append, List.length_take]; omega), List.getElem?_drop, List.length_append, List.length_take]
            congr 2
            omega
        rw [this]
    · unfold sortWorld
      rw [Sort.frozen?_grow _ _ _ hgl, Sort.frozen?_putRow]
      exact (hL.2.2 j hj).2
  · rw [e2, ← hM]; exact hperm
  · rw [e2, hM', List.pairwise_iff_getElem]
    intro i j hi hj hij
    simp only [List.length_map, Array.length_toList] at hi hj
    have h5 := hs i j (Nat.zero_le _) hij (by rw [← hp.1]; exact hj)
    unfold ltOf at h5
    rw [decide_eq_false_iff_not, getElem!_pos d' j hj, getElem!_pos d' i hi] at h5
    simpa using h5
  · refine ⟨rfl, rfl, rfl, hsize q d' os, fun k hk hne => hold q d' os k hk (fun e => hne (by rw [e]))⟩
#print axioms ints_sort
end Go.Proofs.Ytheigemfbcgjcaa
