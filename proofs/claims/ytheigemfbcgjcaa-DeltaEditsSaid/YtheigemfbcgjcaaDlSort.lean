/-
  Places in order of what stands from there on, twice as far each time. (No program yet.)
-/
import Derived.Test.YtheigemfbcgjcaaDlMath
namespace Go.Proofs.Ytheigemfbcgjcaa
open Go.Lib

/-- So many bytes from a place on. -/
def keyB (b : List UInt8) (K p : Nat) : List UInt8 := (b.drop p).take K
/-- Numbers that stand in the order of so many bytes. -/
def RankOk (b : List UInt8) (K : Nat) (R : List Nat) : Prop :=
  R.length = b.length ∧ (∀ p, p < b.length → R.getD p 0 < 1000000) ∧ ∀ p q, p < b.length → q < b.length → (R.getD p 0 < R.getD q 0 ↔ compareBytes (keyB b K p) (keyB b K q) < 0)
/-- The rank of what stands behind the known bytes of a place. -/
def behF (b : List UInt8) (K : Nat) (R : List Nat) (p : Nat) : Int := if b.length ≤ p + K then -1 else (R.getD (p + K) 0 : Nat)
def leK (b : List UInt8) (K p q : Nat) : Prop := compareBytes (keyB b K p) (keyB b K q) ≤ 0
def ltK (b : List UInt8) (K p q : Nat) : Prop := compareBytes (keyB b K p) (keyB b K q) < 0
theorem RankOk.eq {b : List UInt8} {K : Nat} {R : List Nat} (h : RankOk b K R) {p q : Nat} (hp : p < b.length) (hq : q < b.length) : R.getD p 0 = R.getD q 0 ↔ keyB b K p = keyB b K q := by
  have h1 := h.2.2 p q hp hq
  have h2 := h.2.2 q p hq hp
  have h3 := cmpB_swap (keyB b K p) (keyB b K q)
  constructor
  · intro e
    apply cmpB_eq
    omega
  · intro e
    rw [e, cmpB_self] at h1
    rw [e, cmpB_self] at h2
    omega
theorem keyB_nil {b : List UInt8} {K p : Nat} (h : b.length ≤ p) : keyB b K p = [] := by
  unfold keyB
  rw [List.drop_eq_nil_of_le h, List.take_nil]
theorem keyB_one {b : List UInt8} {p : Nat} (h : p < b.length) : keyB b 1 p = [b.getD p 0] := by
  unfold keyB
  rw [List.drop_eq_getElem_cons h, List.take_succ_cons, List.take_zero, List.getD_eq_getElem?_getD, List.getElem?_eq_getElem h]
  rfl
theorem cmp_one (x y : UInt8) : compareBytes [x] [y] < 0 ↔ x.toNat < y.toNat := by
  unfold compareBytes
  simp only [UInt8.lt_iff_toNat_lt]
  by_cases h : x.toNat < y.toNat
  · simp [h]
  · by_cases h2 : y.toNat < x.toNat <;> simp [h, h2, compareBytes]
theorem rank_first (b : List UInt8) : RankOk b 1 (b.map fun x => x.toNat) := by
  refine ⟨by simp, fun p hp => ?_, fun p q hp hq => ?_⟩
  · have := (b.getD p 0).toNat_lt
    simp [List.getD_eq_getElem?_getD, List.getElem?_eq_getElem hp] at *
    omega
  · rw [keyB_one hp, keyB_one hq, cmp_one]
    simp [List.getD_eq_getElem?_getD, List.getElem?_eq_getElem hp, List.getElem?_eq_getElem hq]
theorem beh_lt {b : List UInt8} {K : Nat} {R : List Nat} (h : RankOk b K R) (hK : 1 ≤ K) (p q : Nat) : behF b K R p < behF b K R q ↔ compareBytes (keyB b K (p + K)) (keyB b K (q + K)) < 0 := by
  unfold behF
  by_cases hp : b.length ≤ p + K
  · rw [if_pos hp, keyB_nil hp]
    by_cases hq : b.length ≤ q + K
    · rw [if_pos hq, keyB_nil hq]; simp [compareBytes]
    · rw [if_neg hq]
      obtain ⟨x, l, e⟩ : ∃ x l, keyB b K (q + K) = x :: l := by
        obtain ⟨k, rfl⟩ : ∃ k, K = k + 1 := ⟨K - 1, by omega⟩
        unfold keyB
        rw [List.drop_eq_getElem_cons (by omega), List.take_succ_cons]
        exact ⟨_, _, rfl⟩
      rw [e]
      simp [compareBytes]
      omega
  · rw [if_neg hp]
    by_cases hq : b.length ≤ q + K
    · rw [if_pos hq, keyB_nil hq]
      constructor
      · intro h1; omega
      · intro h1
        have := cmpB_swap (keyB b K (p + K)) []
        have h2 := cmpB_nil (keyB b K (p + K))
        omega
    · rw [if_neg hq, ← h.2.2 _ _ (by omega) (by omega)]
      omega
theorem key_twice {b : List UInt8} {K p q : Nat} (h : keyB b K p = keyB b K q) : compareBytes (keyB b (K + K) p) (keyB b (K + K) q) = compareBytes (keyB b K (p + K)) (keyB b K (q + K)) := by
  unfold keyB at *
  rw [cmpB_behind K K h, List.drop_drop, List.drop_drop]
theorem lt_twice {b : List UInt8} {K p q : Nat} (h : ltK b K p q) : ltK b (K + K) p q := cmpB_take_mono K (K + K) (by omega) h
theorem lt_full {b : List UInt8} {K p q : Nat} (h : ltK b K p q) : compareBytes (b.drop p) (b.drop q) < 0 := cmpB_full h
theorem lt_irr {b : List UInt8} {K p : Nat} : ¬ ltK b K p p := by unfold ltK; rw [cmpB_self]; omega
theorem lt_le_K {b : List UInt8} {K p q r : Nat} (h : ltK b K p q) (h2 : leK b K q r) : ltK b K p r := cmpB_lt_le h h2
theorem le_lt_K {b : List UInt8} {K p q r : Nat} (h : leK b K p q) (h2 : ltK b K q r) : ltK b K p r := cmpB_le_lt h h2
/-- Twice as far: by what is behind, where so far all is alike. -/
theorem key_eq_twice {b : List UInt8} {K : Nat} {R : List Nat} (h : RankOk b K R) (hK : 1 ≤ K) {p q : Nat} (hp : p < b.length) (hq : q < b.length) :
    (R.getD p 0 = R.getD q 0 ∧ behF b K R p = behF b K R q) ↔ keyB b (K + K) p = keyB b (K + K) q := by
  rw [h.eq hp hq]
  constructor
  · rintro ⟨h1, h2⟩
    apply cmpB_eq
    rw [key_twice h1]
    have h3 := beh_lt h hK p q
    have h4 := beh_lt h hK q p
    have h5 := cmpB_swap (keyB b K (p + K)) (keyB b K (q + K))
    omega
  · intro h1
    have h2 : keyB b K p = keyB b K q := by
      have := congrArg (List.take K) h1
      unfold keyB at this ⊢
      rwa [List.take_take, List.take_take, Nat.min_eq_left (by omega)] at this
    refine ⟨h2, ?_⟩
    have h3 := beh_lt h hK p q
    have h4 := beh_lt h hK q p
    have h5 := cmpB_swap (keyB b K (p + K)) (keyB b K (q + K))
    have h6 := key_twice h2
    rw [h1, cmpB_self] at h6
    omega
/-- Past the end all is known: no two places have one rank. -/
theorem key_long {b : List UInt8} {K p q : Nat} (hK : b.length ≤ K) (hp : p < b.length) (hq : q < b.length) (h : keyB b K p = keyB b K q) : p = q := by
  unfold keyB at h
  have := congrArg List.length h
  simp only [List.length_take, List.length_drop] at this
  omega

/-! ### One time round: the places of each rank sorted by what is behind -/
/-- Behind so many places: those ahead are sorted twice as far, all ahead of those to come. -/
structure PartInv (b : List UInt8) (K : Nat) (P0 : List Nat) (from_ : Nat) (P : List Nat) (met : Bool) : Prop where
  le : from_ ≤ P0.length
  rest : P.drop from_ = P0.drop from_
  perm : (P.take from_).Perm (P0.take from_)
  sort : (P.take from_).Pairwise (leK b (K + K))
  apart : ∀ x ∈ P0.take from_, ∀ y ∈ P0.drop from_, ltK b K x y
  one : met = false → (P0.take from_).Pairwise (ltK b K)
theorem PartInv.length {b : List UInt8} {K : Nat} {P0 : List Nat} {from_ : Nat} {P : List Nat} {met : Bool} (h : PartInv b K P0 from_ P met) : P.length = P0.length := by
  have h1 := h.perm.length_eq
  have h2 := congrArg List.length h.rest
  have h3 := h.le
  simp only [List.length_take, List.length_drop] at h1 h2
  omega
theorem PartInv.start (b : List UInt8) (K : Nat) (P0 : List Nat) : PartInv b K P0 0 P0 false :=
  ⟨Nat.zero_le _, rfl, List.Perm.refl _, by simp, by simp, by simp⟩
theorem getD_mem_drop {l : List Nat} {i k : Nat} (h1 : k ≤ i) (h2 : i < l.length) : l.getD i 0 ∈ l.drop k := by
  rw [List.getD_eq_getElem?_getD, List.getElem?_eq_getElem h2]
  refine List.mem_iff_getElem.2 ⟨i - k, by rw [List.length_drop]; omega, ?_⟩
  rw [List.getElem_drop]
  simp [show k + (i - k) = i from by omega]
/-- The places of one rank, from the first one on. -/
structure Grp (b : List UInt8) (K : Nat) (P0 : List Nat) (from_ to_ : Nat) : Prop where
  lt : from_ < to_
  le : to_ ≤ P0.length
  same : ∀ i, from_ ≤ i → i < to_ → keyB b K (P0.getD i 0) = keyB b K (P0.getD from_ 0)
/-- A group is sorted: one time on. -/
theorem PartInv.next {b : List UInt8} {K : Nat} {P0 P P' : List Nat} {from_ to_ : Nat} {met met' : Bool} (h : PartInv b K P0 from_ P met) (hs : P0.Pairwise (leK b K)) (hg : Grp b K P0 from_ to_)
    (hend : to_ = P0.length ∨ keyB b K (P0.getD to_ 0) ≠ keyB b K (P0.getD from_ 0))
    (h1 : P'.take from_ = P.take from_) (h2 : P'.drop to_ = P.drop to_) (h3 : ((P'.take to_).drop from_).Perm ((P0.take to_).drop from_)) (h4 : ((P'.take to_).drop from_).Pairwise (leK b (K + K)))
    (hm : met' = (met || decide (1 < to_ - from_))) : PartInv b K P0 to_ P' met' := by
  have hlt := hg.lt
  have hle := hg.le
  have split : ∀ l : List Nat, l.take to_ = l.take from_ ++ (l.take to_).drop from_ := fun l => by
    have := (List.take_append_drop from_ (l.take to_)).symm
    rwa [List.take_take, Nat.min_eq_left (by omega)] at this
  have key_of : ∀ x ∈ (P0.take to_).drop from_, keyB b K x = keyB b K (P0.getD from_ 0) := fun x hx => by
    obtain ⟨i, hi, rfl⟩ := List.mem_iff_getElem.1 hx
    simp only [List.length_drop, List.length_take] at hi
    have := hg.same (from_ + i) (by omega) (by omega)
    rw [List.getElem_drop, List.getElem_take]
    rwa [List.getD_eq_getElem?_getD, List.getElem?_eq_getElem (by omega)] at this
  have mem_grp : ∀ x ∈ (P0.take to_).drop from_, x ∈ P0.drop from_ := fun x hx => by
    rw [List.drop_take] at hx
    exact List.mem_of_mem_take hx
  refine ⟨hle, ?_, ?_, ?_, ?_, ?_⟩
  · rw [h2, show to_ = from_ + (to_ - from_) from by omega, ← List.drop_drop, ← List.drop_drop, h.rest]
  · rw [split P', split P0, h1]
    exact h.perm.append h3
  · rw [split P', List.pairwise_append]
    refine ⟨by rw [h1]; exact h.sort, h4, fun x hx y hy => ?_⟩
    rw [h1] at hx
    exact Int.le_of_lt (lt_twice (h.apart x (h.perm.mem_iff.1 hx) y (mem_grp y (h3.mem_iff.1 hy))))
  · intro x hx y hy
    have hy' : y ∈ P0.drop from_ := by
      have : P0.drop to_ = (P0.drop from_).drop (to_ - from_) := by rw [List.drop_drop]; congr 1; omega
      rw [this] at hy
      exact List.mem_of_mem_drop hy
    rw [split P0] at hx
    rcases List.mem_append.1 hx with hx | hx
    · exact h.apart x hx y hy'
    · have hto : to_ < P0.length := by
        have := List.length_pos_of_mem hy
        rw [List.length_drop] at this; omega
      have hne := hend.resolve_left (by omega)
      have e1 := key_of x hx
      obtain ⟨j, hj, rfl⟩ := List.mem_iff_getElem.1 hy
      rw [List.length_drop] at hj
      have hp := List.pairwise_iff_getElem.1 hs
      have l1 : leK b K (P0.getD from_ 0) (P0.getD to_ 0) := by
        rw [List.getD_eq_getElem?_getD, List.getD_eq_getElem?_getD, List.getElem?_eq_getElem (by omega), List.getElem?_eq_getElem hto]
        exact hp from_ to_ (by omega) hto hlt
      have l2 : ltK b K (P0.getD from_ 0) (P0.getD to_ 0) := by
        unfold ltK leK at *
        rcases Int.lt_or_eq_of_le l1 with l3 | l3
        · exact l3
        · exact absurd (cmpB_eq l3).symm hne
      have l4 : ltK b K (P0.getD from_ 0) ((P0.drop to_)[j]) := by
        rw [List.getElem_drop]
        by_cases hj0 : j = 0
        · subst hj0
          rw [List.getD_eq_getElem?_getD (i := to_), List.getElem?_eq_getElem hto] at l2
          simpa using l2
        · refine lt_le_K l2 ?_
          rw [List.getD_eq_getElem?_getD, List.getElem?_eq_getElem hto]
          exact hp to_ (to_ + j) hto (by omega) (by omega)
      unfold ltK at *
      rwa [e1]
  · intro hmf
    rw [hm] at hmf
    simp only [Bool.or_eq_false_iff, decide_eq_false_iff_not] at hmf
    rw [split P0, List.pairwise_append]
    refine ⟨h.one hmf.1, ?_, fun x hx y hy => h.apart x hx y (mem_grp y hy)⟩
    have hl : ((P0.take to_).drop from_).length ≤ 1 := by rw [List.length_drop, List.length_take]; omega
    match hq : (P0.take to_).drop from_, hl with
    | [], _ => exact List.Pairwise.nil
    | [x], _ => exact List.pairwise_singleton _ _
    | x :: y :: l, hl => simp at hl
/-- All groups: the places are in order twice as far; and if no two had one rank, they were in order. -/
theorem PartInv.done {b : List UInt8} {K : Nat} {P0 P : List Nat} {met : Bool} (h : PartInv b K P0 P0.length P met) : P.Perm P0 ∧ P.Pairwise (leK b (K + K)) ∧ (met = false → P0.Pairwise (ltK b K)) := by
  have h1 := h.length
  have h2 := h.perm
  have h3 := h.sort
  have h4 := h.one
  rw [← h1, List.take_length, h1, List.take_length] at h2
  rw [← h1, List.take_length] at h3
  rw [List.take_length] at h4
  exact ⟨h2, h3, h4⟩
/-- Places in order: each once, each ahead of the next by all that stands from there on. -/
structure InOrd (b : List UInt8) (P : List Nat) : Prop where
  perm : P.Perm (List.range b.length)
  lt : P.Pairwise fun p q => compareBytes (b.drop p) (b.drop q) < 0
theorem InOrd.of {b : List UInt8} {K : Nat} {P : List Nat} (h1 : P.Perm (List.range b.length)) (h2 : P.Pairwise (ltK b K)) : InOrd b P := ⟨h1, h2.imp lt_full⟩
/-- Where no two places had one rank, they are in order. -/
theorem ord_done {b : List UInt8} {K : Nat} {P0 P : List Nat} (h0 : P0.Perm (List.range b.length)) (h1 : P0.Pairwise (ltK b K)) (h2 : P.Perm P0) (h3 : P.Pairwise (leK b (K + K))) : InOrd b P := by
  refine InOrd.of (K := K + K) (h2.trans h0) ?_
  have hd : ∀ x ∈ P0, ∀ y ∈ P0, x ≠ y → keyB b (K + K) x ≠ keyB b (K + K) y := fun x hx y hy hne he => by
    obtain ⟨i, hi, rfl⟩ := List.mem_iff_getElem.1 hx
    obtain ⟨j, hj, rfl⟩ := List.mem_iff_getElem.1 hy
    have hp := List.pairwise_iff_getElem.1 h1
    rcases Nat.lt_trichotomy i j with h | h | h
    · have := lt_twice (hp i j hi hj h)
      unfold ltK at this
      rw [he, cmpB_self] at this; omega
    · subst h; exact hne rfl
    · have := lt_twice (hp j i hj hi h)
      unfold ltK at this
      rw [he, cmpB_self] at this; omega
  have hn : P.Nodup := (h2.trans h0).nodup_iff.2 List.nodup_range
  refine (List.Pairwise.and_mem.1 (h3.and hn)).imp (fun {x y} hh => ?_)
  obtain ⟨hx, hy, hl, hne⟩ := hh
  unfold ltK
  unfold leK at hl
  rcases Int.lt_or_eq_of_le hl with h | h
  · exact h
  · exact absurd (cmpB_eq h) (hd x (h2.mem_iff.1 hx) y (h2.mem_iff.1 hy) hne)

/-! ### The ranks, twice as far -/
/-- The number of the first place of each class. -/
def rkF (b : List UInt8) (K : Nat) (P : List Nat) : Nat → Nat
  | 0 => 0
  | j + 1 => if keyB b K (P.getD (j + 1) 0) = keyB b K (P.getD j 0) then rkF b K P j else j + 1
theorem rk_le (b : List UInt8) (K : Nat) (P : List Nat) : ∀ j, rkF b K P j ≤ j
  | 0 => Nat.le_refl _
  | j + 1 => by
    unfold rkF
    split
    · exact Nat.le_succ_of_le (rk_le b K P j)
    · exact Nat.le_refl _
theorem rk_mono {b : List UInt8} {K : Nat} {P : List Nat} (hs : P.Pairwise (leK b K)) : ∀ (j i : Nat), i ≤ j → j < P.length → rkF b K P i ≤ rkF b K P j ∧ (rkF b K P i = rkF b K P j ↔ keyB b K (P.getD i 0) = keyB b K (P.getD j 0))
  | 0, i, h, _ => by
    obtain rfl : i = 0 := by omega
    exact ⟨Nat.le_refl _, by simp⟩
  | j + 1, i, h, hj => by
    by_cases he : i = j + 1
    · subst he; exact ⟨Nat.le_refl _, by simp⟩
    · obtain ⟨h1, h2⟩ := rk_mono hs j i (by omega) (by omega)
      by_cases hk : keyB b K (P.getD (j + 1) 0) = keyB b K (P.getD j 0)
      · have e : rkF b K P (j + 1) = rkF b K P j := by rw [rkF, if_pos hk]
        rw [e, hk]
        exact ⟨h1, h2⟩
      · have e : rkF b K P (j + 1) = j + 1 := by rw [rkF, if_neg hk]
        have h3 := rk_le b K P i
        rw [e]
        refine ⟨by omega, ⟨fun h4 => by omega, fun h4 => ?_⟩⟩
        exfalso
        apply hk
        have hp := List.pairwise_iff_getElem.1 hs
        have g : ∀ k, (hk : k < P.length) → P.getD k 0 = P[k] := fun k hk => by rw [List.getD_eq_getElem?_getD, List.getElem?_eq_getElem hk]; rfl
        rw [g i (by omega), g (j + 1) hj] at h4
        rw [g j (by omega), g (j + 1) hj]
        have l1 := hp j (j + 1) (by omega) hj (by omega)
        have l2 : leK b K P[i] P[j] := by
          by_cases hij : i = j
          · subst hij; unfold leK; rw [cmpB_self]; omega
          · exact hp i j (by omega) (by omega) (by omega)
        unfold leK at l1 l2
        rw [h4] at l2
        have := cmpB_swap (keyB b K P[j]) (keyB b K P[j + 1])
        exact cmpB_eq (by omega)
/-- New ranks: those of the classes, at their places. -/
theorem rank_twice {b : List UInt8} {K : Nat} {P M : List Nat} (hP : P.Perm (List.range b.length)) (hs : P.Pairwise (leK b K)) (hb : b.length ≤ 1000000) (hl : M.length = b.length)
    (hM : ∀ j, j < P.length → M.getD (P.getD j 0) 0 = rkF b K P j) : RankOk b K M := by
  have hn : P.length = b.length := by rw [hP.length_eq, List.length_range]
  have g : ∀ k, (hk : k < P.length) → P.getD k 0 = P[k] := fun k hk => by rw [List.getD_eq_getElem?_getD, List.getElem?_eq_getElem hk]; rfl
  have at_ : ∀ p, p < b.length → ∃ j, j < P.length ∧ P.getD j 0 = p := fun p hp => by
    have : p ∈ P := hP.mem_iff.2 (List.mem_range.2 hp)
    obtain ⟨j, hj, e⟩ := List.mem_iff_getElem.1 this
    exact ⟨j, hj, by rw [g j hj, e]⟩
  refine ⟨hl, fun p hp => ?_, fun p q hp hq => ?_⟩
  · obtain ⟨j, hj, rfl⟩ := at_ p hp
    rw [hM j hj]
    have := rk_le b K P j
    omega
  · obtain ⟨i, hi, rfl⟩ := at_ p hp
    obtain ⟨j, hj, rfl⟩ := at_ q hq
    rw [hM i hi, hM j hj]
    have hp2 := List.pairwise_iff_getElem.1 hs
    rcases Nat.lt_or_ge i j with h | h
    · obtain ⟨h1, h2⟩ := rk_mono hs j i (by omega) hj
      have l1 := hp2 i j hi hj h
      rw [← g i hi, ← g j hj] at l1
      unfold leK at l1
      constructor
      · intro h3
        rcases Int.lt_or_eq_of_le l1 with h4 | h4
        · exact h4
        · have := h2.2 (cmpB_eq h4); omega
      · intro h3
        have : ¬ rkF b K P i = rkF b K P j := fun e => by rw [h2.1 e, cmpB_self] at h3; omega
        omega
    · obtain ⟨h1, h2⟩ := rk_mono hs i j h hi
      constructor
      · intro h3; omega
      · intro h3
        exfalso
        by_cases hij : j = i
        · subst hij; rw [cmpB_self] at h3; omega
        · have l1 := hp2 j i hj hi (by omega)
          rw [← g i hi, ← g j hj] at l1
          unfold leK at l1
          have := cmpB_swap (keyB b K (P.getD i 0)) (keyB b K (P.getD j 0))
          omega
end Go.Proofs.Ytheigemfbcgjcaa
