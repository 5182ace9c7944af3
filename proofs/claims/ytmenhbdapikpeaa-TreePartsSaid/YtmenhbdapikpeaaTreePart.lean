/-
  A closed part of a list: its elements told anew, with their order.
-/
import Derived.Test.YtmenhbdapikpeaaTreeSub
namespace Go.Proofs.Ytmenhbdapikpeaa
open Go.RowKit

/-- Those kept, below a bound. -/
def keptL (T : List Nat) (n : Nat) : List Nat := (List.range n).filter fun i => T.getD i 0 == 1
def idxT (T : List Nat) (i : Nat) : Nat := (keptL T i).length
theorem keptL_zero (T : List Nat) : keptL T 0 = [] := rfl
theorem keptL_yes {T : List Nat} {n : Nat} (h : T.getD n 0 = 1) : keptL T (n + 1) = keptL T n ++ [n] := by
  unfold keptL
  rw [List.range_succ, List.filter_append]
  simp only [List.getD_eq_getElem?_getD] at h
  simp [h]
theorem keptL_no {T : List Nat} {n : Nat} (h : T.getD n 0 ≠ 1) : keptL T (n + 1) = keptL T n := by
  unfold keptL
  rw [List.range_succ, List.filter_append]
  simp only [List.getD_eq_getElem?_getD] at h
  simp [h]
theorem keptL_mem {T : List Nat} {n i : Nat} : i ∈ keptL T n ↔ i < n ∧ T.getD i 0 = 1 := by
  unfold keptL
  rw [List.mem_filter, List.mem_range, beq_iff_eq]
theorem keptL_nodup (T : List Nat) (n : Nat) : (keptL T n).Nodup := List.Nodup.sublist (List.filter_sublist) List.nodup_range
theorem keptL_len (T : List Nat) (n : Nat) : (keptL T n).length ≤ n := by
  have := List.length_filter_le (fun i => T.getD i 0 == 1) (List.range n)
  rw [List.length_range] at this
  exact this
theorem keptL_at {T : List Nat} {i : Nat} (h : T.getD i 0 = 1) : ∀ n, i < n → idxT T i < (keptL T n).length ∧ (keptL T n).getD (idxT T i) 0 = i
  | 0, hi => by omega
  | n + 1, hi => by
    rcases Nat.lt_or_ge i n with h1 | h1
    · obtain ⟨h2, h3⟩ := keptL_at h n h1
      by_cases hn : T.getD n 0 = 1
      · rw [keptL_yes hn]
        refine ⟨by rw [List.length_append]; omega, ?_⟩
        rw [List.getD_eq_getElem?_getD, List.getElem?_append_left h2, ← List.getD_eq_getElem?_getD]
        exact h3
      · rw [keptL_no hn]
        exact ⟨h2, h3⟩
    · obtain rfl : i = n := by omega
      rw [keptL_yes h]
      unfold idxT
      refine ⟨by simp, ?_⟩
      rw [List.getD_eq_getElem?_getD, List.getElem?_append_right (Nat.le_refl _)]
      simp
theorem keptL_get {T : List Nat} {n j : Nat} (h : j < (keptL T n).length) : (keptL T n).getD j 0 < n ∧ T.getD ((keptL T n).getD j 0) 0 = 1 ∧ idxT T ((keptL T n).getD j 0) = j := by
  have hm : (keptL T n).getD j 0 ∈ keptL T n := getD_mem h
  obtain ⟨h1, h2⟩ := keptL_mem.1 hm
  obtain ⟨h3, h4⟩ := keptL_at h2 n h1
  refine ⟨h1, h2, ?_⟩
  have hnd := keptL_nodup T n
  have e1 : (keptL T n).getD j 0 = (keptL T n)[j] := by simp [h]
  have e2 : (keptL T n).getD (idxT T ((keptL T n).getD j 0)) 0 = (keptL T n)[idxT T ((keptL T n).getD j 0)] := by simp only [List.getD_eq_getElem?_getD] at h3 ⊢; simp [h3]
  rcases Nat.lt_trichotomy (idxT T ((keptL T n).getD j 0)) j with h5 | h5 | h5
  · exact absurd (by rw [← e2, ← e1, h4]) (List.pairwise_iff_getElem.1 hnd _ _ h3 h h5)
  · exact h5
  · exact absurd (by rw [← e2, ← e1, h4]) (List.pairwise_iff_getElem.1 hnd _ _ h h3 h5)

/-- With each element its parent is kept. -/
def ClT (L : List NodeV) (T : List Nat) : Prop := ∀ i, i < L.length → T.getD i 0 = 1 → (nd L i).p = -1 ∨ ∃ j : Nat, (nd L i).p = (j : Int) ∧ j < L.length ∧ T.getD j 0 = 1
theorem clT_zero (L : List NodeV) (n : Nat) : ClT L (List.replicate n 0) := fun i _ h => by
  rw [List.getD_eq_getElem?_getD, List.getElem?_replicate] at h
  split at h <;> simp at h
theorem set_get {T : List Nat} {i j : Nat} (hi : i < T.length) : (T.set i 1).getD j 0 = if j = i then 1 else T.getD j 0 := by
  rw [List.getD_eq_getElem?_getD, List.getD_eq_getElem?_getD, List.getElem?_set]
  by_cases h : j = i
  · subst h; simp [hi]
  · rw [if_neg (fun e => h e.symm), if_neg h]
theorem ClT.put {L : List NodeV} {T : List Nat} (h : ClT L T) (hl : T.length = L.length) {i : Nat} (hi : i < L.length) (hp : (nd L i).p = -1 ∨ ∃ j : Nat, (nd L i).p = (j : Int) ∧ j < L.length ∧ T.getD j 0 = 1) : ClT L (T.set i 1) := fun k hk hk1 => by
  have hw : ((nd L k).p = -1 ∨ ∃ j : Nat, (nd L k).p = (j : Int) ∧ j < L.length ∧ T.getD j 0 = 1) := by
    rw [set_get (by omega)] at hk1
    by_cases hki : k = i
    · rw [hki]; exact hp
    · rw [if_neg hki] at hk1
      exact h k hk hk1
  rcases hw with h1 | ⟨j, h1, h2, h3⟩
  · exact .inl h1
  · refine .inr ⟨j, h1, h2, ?_⟩
    rw [set_get (by omega), h3]
    split <;> rfl
/-- How many are not yet kept. -/
def zeros (T : List Nat) : Nat := T.countP fun x => x != 1
theorem zeros_set : ∀ {T : List Nat} {i : Nat}, i < T.length → T.getD i 0 ≠ 1 → zeros (T.set i 1) + 1 = zeros T
  | [], _, h, _ => by simp at h
  | x :: r, 0, _, h => by
    have : x ≠ 1 := by simpa using h
    unfold zeros
    rw [List.set_cons_zero, List.countP_cons, List.countP_cons]
    simp [this]
  | x :: r, i + 1, hi, h => by
    have h2 := zeros_set (T := r) (i := i) (by simpa using hi) (by simpa using h)
    unfold zeros at *
    rw [List.set_cons_succ, List.countP_cons, List.countP_cons]
    omega

/-- An element as it stands in the part. -/
def remapT (T : List Nat) (x : NodeV) : NodeV := if 0 ≤ x.p then ⟨x.k, (idxT T x.p.toNat : Int), x.r, x.d⟩ else x
theorem remap_in {T : List Nat} {x : NodeV} (h : 0 ≤ x.p) : remapT T x = ⟨x.k, (idxT T x.p.toNat : Int), x.r, x.d⟩ := if_pos h
theorem remap_out {T : List Nat} {x : NodeV} (h : ¬ 0 ≤ x.p) : remapT T x = x := if_neg h
theorem remap_key (T : List Nat) (x : NodeV) : (remapT T x).k = x.k := by unfold remapT; split <;> rfl
def partL (L : List NodeV) (T : List Nat) : List NodeV := (keptL T L.length).map fun i => remapT T (nd L i)
theorem partL_length (L : List NodeV) (T : List Nat) : (partL L T).length = (keptL T L.length).length := by simp [partL]
theorem nd_partL {L : List NodeV} {T : List Nat} {j : Nat} (hj : j < (keptL T L.length).length) : nd (partL L T) j = remapT T (nd L ((keptL T L.length).getD j 0)) := by
  unfold partL
  have e : nd ((keptL T L.length).map fun i => remapT T (nd L i)) j = remapT T (nd L (keptL T L.length)[j]) := by
    show ((keptL T L.length).map fun i => remapT T (nd L i)).getD j default = _
    simp [hj]
  rw [e]
  congr 2
  simp [hj]
theorem sub_part {L : List NodeV} {T : List Nat} (hC : ClT L T) : SubT L (partL L T) (fun j => (keptL T L.length).getD j 0) := by
  refine ⟨fun j hj => ?_, fun i j hi hj e => ?_, fun j hj => ?_, fun j hj => ?_⟩
  · rw [partL_length] at hj
    exact (keptL_get hj).1
  · rw [partL_length] at hi hj
    rw [← (keptL_get hi).2.2, ← (keptL_get hj).2.2, e]
  · rw [partL_length] at hj
    rw [nd_partL hj, remap_key]
  · rw [partL_length] at hj ⊢
    rw [nd_partL hj]
    obtain ⟨h1, h2, h3⟩ := keptL_get hj
    rcases hC _ h1 h2 with h | ⟨i, h, hi, hk⟩
    · refine .inl ⟨?_, h⟩
      rw [remap_out (by rw [h]; omega), h]
    · obtain ⟨h4, h5⟩ := keptL_at hk L.length hi
      refine .inr ⟨idxT T i, h4, ?_, ?_⟩
      · rw [remap_in (by rw [h]; omega)]
        simp only [h, Int.toNat_natCast]
      · rw [h, h5]
theorem ord_part {L : List NodeV} {T : List Nat} (hT : TreeP L) (hC : ClT L T) {l m : List Nat} (hl : OrdT L l) (hm : OrdT (partL L T) m) : m = (l.filter fun i => T.getD i 0 == 1).map (idxT T) := by
  have h1 : m.map (fun j => (keptL T L.length).getD j 0) = l.filter fun i => T.getD i 0 == 1 := sorted_unique ((sub_part hC).ord hT hm) (hl.1.sublist List.filter_sublist) (fun i => by
    rw [List.mem_map, List.mem_filter, hl.2 i, beq_iff_eq]
    constructor
    · rintro ⟨a, ha, rfl⟩
      have := (hm.2 a).1 ha
      rw [partL_length] at this
      have := keptL_get this
      exact ⟨this.1, this.2.1⟩
    · rintro ⟨hi, hk⟩
      obtain ⟨h4, h5⟩ := keptL_at hk L.length hi
      exact ⟨idxT T i, (hm.2 _).2 (by rw [partL_length]; exact h4), h5⟩)
  rw [← h1, List.map_map]
  have h2 : m.map (idxT T ∘ fun j => (keptL T L.length).getD j 0) = m.map id := List.map_congr_left (fun j hj => by
    have := (hm.2 j).1 hj
    rw [partL_length] at this
    exact (keptL_get this).2.2)
  rw [h2, List.map_id]
theorem right_part {L : List NodeV} {T : List Nat} (h : RightT L) (hC : ClT L T) : RightT (partL L T) := by
  refine ⟨fun j hj => ?_, (sub_part hC).tree h.2⟩
  rw [partL_length] at hj
  rw [nd_partL hj]
  have e : ∀ x : NodeV, (remapT T x).r = x.r := fun x => by unfold remapT; split <;> rfl
  rw [e]
  exact h.1 _ (keptL_get hj).1
/-- Where the kept ones stand in the part, so far told. -/
def atL (T : List Nat) (n i : Nat) : List Nat := (List.range n).map fun k => if k < i then (if T.getD k 0 = 1 then idxT T k + 1 else 0) else 1
theorem atL_zero (T : List Nat) (n : Nat) : atL T n 0 = List.replicate n 1 := by
  apply List.ext_getElem
  · simp [atL]
  · intro k h1 h2
    simp [atL]
theorem atL_step {T : List Nat} {n i x : Nat} (hx : x = if T.getD i 0 = 1 then idxT T i + 1 else 0) : (atL T n i).set i x = atL T n (i + 1) := by
  apply List.ext_getElem
  · simp [atL]
  · intro k h1 h2
    have hk : k < n := by simpa [atL] using h2
    rw [List.getElem_set]
    by_cases h : i = k
    · subst h
      rw [if_pos rfl, hx]
      simp only [atL, List.getElem_map, List.getElem_range]
      rw [if_pos (by omega : i < i + 1)]
    · rw [if_neg h]
      simp only [atL, List.getElem_map, List.getElem_range]
      by_cases h3 : k < i
      · rw [if_pos h3, if_pos (by omega : k < i + 1)]
      · rw [if_neg h3, if_neg (by omega : ¬ k < i + 1)]
theorem atL_get {T : List Nat} {n k : Nat} (hk : k < n) : (atL T n n).getD k 0 = if T.getD k 0 = 1 then idxT T k + 1 else 0 := by
  have h : k < (atL T n n).length := by simpa [atL] using hk
  have e : (atL T n n).getD k 0 = (atL T n n)[k] := by simp [h]
  rw [e]
  simp only [atL, List.getElem_map, List.getElem_range]
  rw [if_pos hk]
/-- The part, so far turned. -/
def partJ (L : List NodeV) (T : List Nat) (j : Nat) : List NodeV := (List.range (keptL T L.length).length).map fun t => if t < j then remapT T (nd L ((keptL T L.length).getD t 0)) else nd L ((keptL T L.length).getD t 0)
theorem partJ_length (L : List NodeV) (T : List Nat) (j : Nat) : (partJ L T j).length = (keptL T L.length).length := by simp [partJ]
theorem partJ_zero (L : List NodeV) (T : List Nat) : partJ L T 0 = (keptL T L.length).map (nd L) := by
  apply List.ext_getElem
  · simp [partJ]
  · intro k h1 h2
    have hk : k < (keptL T L.length).length := by simpa using h2
    simp [partJ, hk]
theorem partJ_end (L : List NodeV) (T : List Nat) : partJ L T (keptL T L.length).length = partL L T := by
  apply List.ext_getElem
  · simp [partJ, partL]
  · intro k h1 h2
    have hk : k < (keptL T L.length).length := by simpa [partL] using h2
    simp [partJ, partL, hk]
theorem partJ_get {L : List NodeV} {T : List Nat} {j : Nat} (hj : j < (keptL T L.length).length) : nd (partJ L T j) j = nd L ((keptL T L.length).getD j 0) := by
  show ((partJ L T j)).getD j default = _
  unfold partJ
  simp [hj]
theorem partJ_step {L : List NodeV} {T : List Nat} {j : Nat} {x : NodeV} (hx : x = remapT T (nd L ((keptL T L.length).getD j 0))) : (partJ L T j).set j x = partJ L T (j + 1) := by
  apply List.ext_getElem
  · simp [partJ]
  · intro k h1 h2
    rw [List.getElem_set]
    by_cases h : j = k
    · subst h
      rw [if_pos rfl, hx]
      simp only [partJ, List.getElem_map, List.getElem_range]
      rw [if_pos (by omega : j < j + 1)]
    · rw [if_neg h]
      simp only [partJ, List.getElem_map, List.getElem_range]
      by_cases h3 : k < j
      · rw [if_pos h3, if_pos (by omega : k < j + 1)]
      · rw [if_neg h3, if_neg (by omega : ¬ k < j + 1)]
theorem partJ_same {L : List NodeV} {T : List Nat} {j : Nat} (hj : j < (keptL T L.length).length) (h : ¬ 0 ≤ (nd L ((keptL T L.length).getD j 0)).p) : partJ L T (j + 1) = partJ L T j := by
  apply List.ext_getElem
  · simp [partJ]
  · intro k h1 h2
    simp only [partJ, List.getElem_map, List.getElem_range]
    by_cases h3 : k < j
    · rw [if_pos h3, if_pos (by omega : k < j + 1)]
    · by_cases h4 : k = j
      · subst h4
        rw [if_pos (by omega : k < k + 1), if_neg h3, remap_out h]
      · rw [if_neg (by omega : ¬ k < j + 1), if_neg h3]
#print axioms ord_part
#print axioms partJ_same
end Go.Proofs.Ytmenhbdapikpeaa
