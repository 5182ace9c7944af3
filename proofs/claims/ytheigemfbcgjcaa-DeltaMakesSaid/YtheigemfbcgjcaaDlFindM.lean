/-
  Where rows of eight bytes begin among the places in order; the least place of a span by a tree; the longest row. (No program yet.)
-/
import Derived.Test.YtheigemfbcgjcaaDlSort
namespace Go.Proofs.Ytheigemfbcgjcaa
open Go.Lib

/-- What stands from the place with a number on. -/
abbrev stB (b : List UInt8) (P : List Nat) (j : Nat) : List UInt8 := b.drop (P.getD j 0)
/-- Of the first so many places: at which of them each row of eight bytes begins. -/
def BeginOk (b : List UInt8) (P : List Nat) (i : Nat) (Bg : List UInt8 → Option (Nat × Nat)) : Prop :=
  ∀ r : List UInt8, r.length = 8 → (Bg r = none → ∀ j, j < i → ¬ r <+: stB b P j) ∧ ∀ s, Bg r = some s → s.1 < s.2 ∧ s.2 ≤ i ∧ r <+: stB b P s.1 ∧ r <+: stB b P (s.2 - 1) ∧ ∀ j, j < i → r <+: stB b P j → s.1 ≤ j ∧ j < s.2
theorem begin_none (b : List UInt8) (P : List Nat) : BeginOk b P 0 (fun _ => none) := fun r _ => ⟨fun _ j hj => absurd hj (Nat.not_lt_zero _), fun s h => by cases h⟩
theorem BeginOk.short {b : List UInt8} {P : List Nat} {i : Nat} {Bg : List UInt8 → Option (Nat × Nat)} (h : BeginOk b P i Bg) (hs : (stB b P i).length < 8) : BeginOk b P (i + 1) Bg := fun r hr => by
  have hno : ¬ r <+: stB b P i := fun hp => by have := hp.length_le; omega
  obtain ⟨h1, h2⟩ := h r hr
  refine ⟨fun hn j hj => ?_, fun s hs' => ?_⟩
  · by_cases hji : j = i
    · rw [hji]; exact hno
    · exact h1 hn j (by omega)
  · obtain ⟨a1, a2, a3, a4, a5⟩ := h2 s hs'
    refine ⟨a1, by omega, a3, a4, fun j hj hp => ?_⟩
    by_cases hji : j = i
    · rw [hji] at hp; exact absurd hp hno
    · exact a5 j (by omega) hp
theorem BeginOk.next {b : List UInt8} {P : List Nat} {i : Nat} {Bg : List UInt8 → Option (Nat × Nat)} (h : BeginOk b P i Bg) (hs : 8 ≤ (stB b P i).length) (f : Nat) (hf : (Bg ((stB b P i).take 8)).map (·.1) = some f ∨ Bg ((stB b P i).take 8) = none ∧ f = i) :
    BeginOk b P (i + 1) (fun z => if z = (stB b P i).take 8 then some (f, i + 1) else Bg z) := fun r hr => by
  have hrow : r <+: stB b P i ↔ r = (stB b P i).take 8 := by
    constructor
    · intro hp
      have := List.prefix_iff_eq_take.1 hp
      rw [hr] at this; exact this
    · intro e; rw [e]; exact List.take_prefix _ _
  obtain ⟨h1, h2⟩ := h r hr
  by_cases he : r = (stB b P i).take 8
  · have hp := hrow.2 he
    refine ⟨fun hn => ?_, fun s hs' => ?_⟩
    · have : (if r = (stB b P i).take 8 then some (f, i + 1) else Bg r) = none := hn
      rw [if_pos he] at this; cases this
    · have hs2 : (if r = (stB b P i).take 8 then some (f, i + 1) else Bg r) = some s := hs'
      rw [if_pos he] at hs2
      obtain rfl := Option.some.inj hs2
      rw [← he] at hf
      rcases hf with hf | ⟨hf, rfl⟩
      · cases hb : Bg r with
        | none => rw [hb] at hf; cases hf
        | some s0 =>
          rw [hb] at hf
          obtain rfl : s0.1 = f := Option.some.inj hf
          obtain ⟨a1, a2, a3, a4, a5⟩ := h2 s0 hb
          refine ⟨by show s0.1 < i + 1; omega, Nat.le_refl _, a3, by show r <+: stB b P (i + 1 - 1); rw [Nat.add_sub_cancel]; exact hp, fun j hj hpj => ?_⟩
          by_cases hji : j = i
          · exact ⟨by show s0.1 ≤ j; omega, by show j < i + 1; omega⟩
          · exact ⟨(a5 j (by omega) hpj).1, by show j < i + 1; omega⟩
      · refine ⟨by show f < f + 1; omega, Nat.le_refl _, hp, by show r <+: stB b P (f + 1 - 1); rw [Nat.add_sub_cancel]; exact hp, fun j hj hpj => ?_⟩
        by_cases hji : j = f
        · exact ⟨by show f ≤ j; omega, by show j < f + 1; omega⟩
        · exact absurd hpj (h1 hf j (by omega))
  · have hnp : ¬ r <+: stB b P i := fun hp => he (hrow.1 hp)
    refine ⟨fun hn j hj => ?_, fun s hs' => ?_⟩
    · have hn2 : (if r = (stB b P i).take 8 then some (f, i + 1) else Bg r) = none := hn
      rw [if_neg he] at hn2
      by_cases hji : j = i
      · rw [hji]; exact hnp
      · exact h1 hn2 j (by omega)
    · have hs2 : (if r = (stB b P i).take 8 then some (f, i + 1) else Bg r) = some s := hs'
      rw [if_neg he] at hs2
      obtain ⟨a1, a2, a3, a4, a5⟩ := h2 s hs2
      refine ⟨a1, by omega, a3, a4, fun j hj hp => ?_⟩
      by_cases hji : j = i
      · rw [hji] at hp; exact absurd hp hnp
      · exact a5 j (by omega) hp
theorem ord_lt {b : List UInt8} {P : List Nat} (h : InOrd b P) {i j : Nat} (hij : i < j) (hj : j < P.length) : compareBytes (stB b P i) (stB b P j) < 0 := by
  have := List.pairwise_iff_getElem.1 h.lt i j (by omega) hj hij
  unfold stB
  rw [List.getD_eq_getElem?_getD, List.getD_eq_getElem?_getD, List.getElem?_eq_getElem (by omega), List.getElem?_eq_getElem hj]
  exact this
theorem ord_le {b : List UInt8} {P : List Nat} (h : InOrd b P) {i j : Nat} (hij : i ≤ j) (hj : j < P.length) : compareBytes (stB b P i) (stB b P j) ≤ 0 := by
  by_cases he : i = j
  · rw [he, cmpB_self]; omega
  · exact Int.le_of_lt (ord_lt h (by omega) hj)
theorem InOrd.len {b : List UInt8} {P : List Nat} (h : InOrd b P) : P.length = b.length := by rw [h.perm.length_eq, List.length_range]
/-- All within a span begin with its row. -/
theorem BeginOk.all {b : List UInt8} {P : List Nat} {Bg : List UInt8 → Option (Nat × Nat)} (hP : InOrd b P) (h : BeginOk b P P.length Bg) {r : List UInt8} (hr : r.length = 8) {s : Nat × Nat} (hs : Bg r = some s) :
    s.1 < s.2 ∧ s.2 ≤ P.length ∧ ∀ j, j < P.length → (r <+: stB b P j ↔ s.1 ≤ j ∧ j < s.2) := by
  obtain ⟨a1, a2, a3, a4, a5⟩ := (h r hr).2 s hs
  refine ⟨a1, a2, fun j hj => ⟨a5 j hj, fun hj2 => ?_⟩⟩
  exact prefix_between a3 a4 (ord_le hP hj2.1 hj) (ord_le hP (by omega) (by omega))

/-! ### The tree of the least -/
/-- The leaves are the places; each number from a place on is the lesser of two. -/
def TreeDone (n : Nat) (P T : List Nat) (i : Nat) : Prop := T.length = 2 * n ∧ (∀ j, j < n → T.getD (n + j) 0 = P.getD j 0) ∧ ∀ j, i ≤ j → j < n → T.getD j 0 = min (T.getD (2 * j) 0) (T.getD (2 * j + 1) 0)
/-- A number is the least of a span. -/
def IsMin (T : List Nat) (f t m : Nat) : Prop := (∀ j, f ≤ j → j < t → m ≤ T.getD j 0) ∧ ∃ j, f ≤ j ∧ j < t ∧ T.getD j 0 = m
theorem IsMin.eq {T : List Nat} {f t m m' : Nat} (h : IsMin T f t m) (h' : IsMin T f t m') : m = m' := by
  obtain ⟨j, a1, a2, a3⟩ := h.2
  obtain ⟨k, b1, b2, b3⟩ := h'.2
  have h3 := h.1 k b1 b2
  have h4 := h'.1 j a1 a2
  omega
/-- The least so far, and what of the span is left. -/
def LeastInv (T : List Nat) (f t l Z : Nat) : Prop := (∀ j, f ≤ j → j < t → Z ≤ T.getD j 0) ∧ Z ≤ l ∧ (l = Z ∨ ∃ j, f ≤ j ∧ j < t ∧ T.getD j 0 = Z)
theorem LeastInv.start {T : List Nat} {f t Z : Nat} (h : IsMin T f t Z) (hf : f < t) : LeastInv T f t (T.getD f 0) Z := ⟨h.1, h.1 f (Nat.le_refl _) hf, .inr h.2⟩
theorem LeastInv.left {T : List Nat} {f t l Z : Nat} (h : LeastInv T f t l Z) (hf : f < t) : LeastInv T (f + 1) t (min l (T.getD f 0)) Z := by
  have h1 := h.1 f (Nat.le_refl _) hf
  have h2 := h.2.1
  refine ⟨fun j hj => h.1 j (by omega), by omega, ?_⟩
  rcases h.2.2 with h3 | ⟨j, a1, a2, a3⟩
  · exact .inl (by omega)
  · by_cases hj : j = f
    · subst hj; exact .inl (by omega)
    · exact .inr ⟨j, by omega, a2, a3⟩
theorem LeastInv.right {T : List Nat} {f t l Z : Nat} (h : LeastInv T f t l Z) (hf : f < t) : LeastInv T f (t - 1) (min l (T.getD (t - 1) 0)) Z := by
  have h1 := h.1 (t - 1) (by omega) (by omega)
  have h2 := h.2.1
  refine ⟨fun j hj hj2 => h.1 j hj (by omega), by omega, ?_⟩
  rcases h.2.2 with h3 | ⟨j, a1, a2, a3⟩
  · exact .inl (by omega)
  · by_cases hj : j = t - 1
    · subst hj; exact .inl (by omega)
    · exact .inr ⟨j, a1, by omega, a3⟩
theorem LeastInv.half {T P : List Nat} {n f t l Z : Nat} (h : LeastInv T (2 * f) (2 * t) l Z) (hT : TreeDone n P T 1) (hf : 1 ≤ f) (ht : t ≤ n) : LeastInv T f t l Z := by
  refine ⟨fun j hj hj2 => ?_, h.2.1, ?_⟩
  · rw [hT.2.2 j (by omega) (by omega)]
    have h1 := h.1 (2 * j) (by omega) (by omega)
    have h2 := h.1 (2 * j + 1) (by omega) (by omega)
    omega
  · rcases h.2.2 with h3 | ⟨j, a1, a2, a3⟩
    · exact .inl h3
    · refine .inr ⟨j / 2, by omega, by omega, ?_⟩
      rw [hT.2.2 (j / 2) (by omega) (by omega)]
      have h1 := h.1 (2 * (j / 2)) (by omega) (by omega)
      have h2 := h.1 (2 * (j / 2) + 1) (by omega) (by omega)
      rcases Nat.mod_two_eq_zero_or_one j with hm | hm
      · have : 2 * (j / 2) = j := by omega
        rw [this] at h1 h2 ⊢
        omega
      · have : 2 * (j / 2) + 1 = j := by omega
        rw [this] at h2 ⊢
        omega
theorem LeastInv.done {T : List Nat} {f t l Z : Nat} (h : LeastInv T f t l Z) (hf : t ≤ f) : l = Z := by
  rcases h.2.2 with h3 | ⟨j, a1, a2, _⟩
  · exact h3
  · omega
/-- The least place of a span, by the leaves. -/
theorem isMin_leaf {T P : List Nat} {n f t m : Nat} (hT : TreeDone n P T 1) (ht : t ≤ n) (h : IsMin P f t m) : IsMin T (f + n) (t + n) m := by
  refine ⟨fun j hj hj2 => ?_, ?_⟩
  · have := hT.2.1 (j - n) (by omega)
    rw [show n + (j - n) = j from by omega] at this
    rw [this]
    exact h.1 (j - n) (by omega) (by omega)
  · obtain ⟨j, a1, a2, a3⟩ := h.2
    exact ⟨j + n, by omega, by omega, by rw [show j + n = n + j from by omega, hT.2.1 j (by omega)]; exact a3⟩
theorem isMin_there (P : List Nat) : ∀ (k f : Nat), ∃ m, IsMin P f (f + k + 1) m
  | 0, f => ⟨P.getD f 0, fun j h1 h2 => by rw [show j = f from by omega]; exact Nat.le_refl _, f, Nat.le_refl _, by omega, rfl⟩
  | k + 1, f => by
    obtain ⟨m, h1, j, a1, a2, a3⟩ := isMin_there P k f
    by_cases hm : P.getD (f + k + 1) 0 ≤ m
    · refine ⟨P.getD (f + k + 1) 0, fun i hi1 hi2 => ?_, f + k + 1, by omega, by omega, rfl⟩
      by_cases hi : i = f + k + 1
      · rw [hi]; exact Nat.le_refl _
      · exact Nat.le_trans hm (h1 i hi1 (by omega))
    · refine ⟨m, fun i hi1 hi2 => ?_, j, a1, by omega, a3⟩
      by_cases hi : i = f + k + 1
      · rw [hi]; omega
      · exact h1 i hi1 (by omega)

/-! ### The longest row -/
/-- Of all places the least one of those from which the most is alike. -/
def LongIs (b w : List UInt8) (p l : Nat) : Prop := p < b.length ∧ lcpF (b.drop p) w = l ∧ (∀ q, q < b.length → lcpF (b.drop q) w ≤ l) ∧ ∀ q, q < p → lcpF (b.drop q) w < l
theorem LongIs.eq {b w : List UInt8} {p l p' l' : Nat} (h : LongIs b w p l) (h' : LongIs b w p' l') : p = p' ∧ l = l' := by
  have e : l = l' := by
    have h1 := h.2.2.1 p' h'.1
    have h2 := h'.2.2.1 p h.1
    rw [h'.2.1] at h1
    rw [h.2.1] at h2
    omega
  subst e
  refine ⟨?_, rfl⟩
  rcases Nat.lt_trichotomy p p' with hl | hl | hl
  · have := h'.2.2.2 p hl; rw [h.2.1] at this; omega
  · exact hl
  · have := h.2.2.2 p' hl; rw [h'.2.1] at this; omega
/-- The number at which a test begins to hold. -/
def FirstAt (f t : Nat) (so : Nat → Prop) (m : Nat) : Prop := f ≤ m ∧ m ≤ t ∧ (∀ j, f ≤ j → j < t → (so j ↔ m ≤ j))
theorem take8 {b w : List UInt8} {q : Nat} (hw : 8 ≤ w.length) : w.take 8 <+: b.drop q ↔ 8 ≤ lcpF (b.drop q) w := ⟨fun h => lcp_of_prefix hw h, fun h => take_prefix_lcp h⟩
/-- Whatever the most is that is alike beside where all of it would stand, nothing else is more alike. -/
theorem near_most {b w : List UInt8} {P : List Nat} (hP : InOrd b P) {Bg : List UInt8 → Option (Nat × Nat)} (hB : BeginOk b P P.length Bg) (hw : 8 ≤ w.length) {s : Nat × Nat} (hs : Bg (w.take 8) = some s) {m : Nat}
    (hm : FirstAt s.1 s.2 (fun j => 0 ≤ compareBytes (stB b P j) w) m) {l : Nat} (hl : ∀ j, max (m - 1) s.1 ≤ j → j < min (m + 1) s.2 → lcpF (stB b P j) w ≤ l) (hl2 : ∃ j, s.1 ≤ j ∧ j < s.2 ∧ lcpF (stB b P j) w = l) :
    8 ≤ l ∧ ∀ q, q < b.length → lcpF (b.drop q) w ≤ l := by
  obtain ⟨a1, a2, a3⟩ := hB.all hP (by rw [List.length_take]; omega) hs
  obtain ⟨m1, m2, m3⟩ := hm
  have h8 : 8 ≤ l := by
    obtain ⟨j, j1, j2, j3⟩ := hl2
    rw [← j3]
    exact (take8 hw).1 ((a3 j (by omega)).2 ⟨j1, j2⟩)
  refine ⟨h8, fun q hq => ?_⟩
  obtain ⟨j, hj, he⟩ : ∃ j, j < P.length ∧ P.getD j 0 = q := by
    have : q ∈ P := hP.perm.mem_iff.2 (List.mem_range.2 hq)
    obtain ⟨j, hj, e⟩ := List.mem_iff_getElem.1 this
    exact ⟨j, hj, by rw [List.getD_eq_getElem?_getD, List.getElem?_eq_getElem hj, e]; rfl⟩
  rw [← he]
  show lcpF (stB b P j) w ≤ l
  by_cases hin : s.1 ≤ j ∧ j < s.2
  · by_cases hjm : j < m
    · have h1 : lcpF (stB b P j) w ≤ lcpF (stB b P (m - 1)) w := lcp_below (ord_le hP (by omega) (by omega)) (by
        have h5 : ¬ 0 ≤ compareBytes (stB b P (m - 1)) w := fun h6 => by have := (m3 (m - 1) (by omega) (by omega)).1 h6; omega
        omega)
      exact Nat.le_trans h1 (hl (m - 1) (by omega) (by omega))
    · have h1 : lcpF (stB b P j) w ≤ lcpF (stB b P m) w := lcp_above (by
        have := (m3 m (by omega) (by omega)).2 (Nat.le_refl _)
        have h2 := cmpB_swap (stB b P m) w
        omega) (ord_le hP (by omega) hj)
      exact Nat.le_trans h1 (hl m (by omega) (by omega))
  · have h5 : ¬ 8 ≤ lcpF (b.drop (P.getD j 0)) w := fun h => hin ((a3 j hj).1 ((take8 hw).2 h))
    show lcpF (b.drop (P.getD j 0)) w ≤ l
    omega
/-- Those from which the longest row stands are a span; the least of these is the place. -/
theorem long_of {b w : List UInt8} {P : List Nat} (hP : InOrd b P) {Bg : List UInt8 → Option (Nat × Nat)} (hB : BeginOk b P P.length Bg) (hw : 8 ≤ w.length) {s : Nat × Nat} (hs : Bg (w.take 8) = some s) {l : Nat} (h8 : 8 ≤ l) (hmax : ∀ q, q < b.length → lcpF (b.drop q) w ≤ l) (hl2 : ∃ j, s.1 ≤ j ∧ j < s.2 ∧ lcpF (stB b P j) w = l)
    {f t : Nat} (hf : FirstAt s.1 s.2 (fun j => 0 ≤ compareBytes (stB b P j) (w.take l)) f) (ht : FirstAt f s.2 (fun j => ¬ w.take l <+: stB b P j) t) : f < t ∧ t ≤ P.length ∧ ∀ p, IsMin P f t p → LongIs b w p l := by
  obtain ⟨a1, a2, a3⟩ := hB.all hP (by rw [List.length_take]; omega) hs
  obtain ⟨f1, f2, f3⟩ := hf
  obtain ⟨t1, t2, t3⟩ := ht
  have hlw : l ≤ w.length := by
    obtain ⟨j, _, _, j3⟩ := hl2
    rw [← j3]; exact lcp_le_right _ _
  have key : ∀ j, s.1 ≤ j → j < s.2 → (w.take l <+: stB b P j ↔ f ≤ j ∧ j < t) := fun j hj1 hj2 => by
    constructor
    · intro hp
      have hfj : f ≤ j := (f3 j hj1 hj2).1 (by
        have h1 := cmpB_prefix hp
        have h2 := cmpB_swap (w.take l) (stB b P j)
        omega)
      refine ⟨hfj, ?_⟩
      rcases Nat.lt_or_ge j t with h | h
      · exact h
      · exact absurd hp ((t3 j hfj hj2).2 h)
    · rintro ⟨h1, h2⟩
      exact Classical.not_not.1 (fun hn => by have := (t3 j h1 hj2).1 hn; omega)
  have alike : ∀ q, l ≤ lcpF (b.drop q) w ↔ w.take l <+: b.drop q := fun q => ⟨fun h => take_prefix_lcp h, fun h => lcp_of_prefix hlw h⟩
  obtain ⟨j0, j1, j2, j3⟩ := hl2
  have hj0 := (key j0 j1 j2).1 ((alike _).1 (by show l ≤ lcpF (stB b P j0) w; omega))
  refine ⟨by omega, by omega, fun p hp => ?_⟩
  obtain ⟨hp1, i, i1, i2, i3⟩ := hp
  have hip := (key i (by omega) (by omega)).2 ⟨i1, i2⟩
  have hlen := hP.len
  have hpb : p < b.length := by
    rw [← i3]
    have hi : i < P.length := by omega
    rw [List.getD_eq_getElem?_getD, List.getElem?_eq_getElem hi]
    exact List.mem_range.1 (hP.perm.mem_iff.1 (List.getElem_mem hi))
  have hpl : lcpF (b.drop p) w = l := Nat.le_antisymm (hmax p hpb) (by rw [← i3]; exact (alike _).2 hip)
  refine ⟨hpb, hpl, hmax, fun q hq => ?_⟩
  have h1 := hmax q (by omega)
  rcases Nat.lt_or_eq_of_le h1 with h | h
  · exact h
  · exfalso
    obtain ⟨j, hj, he⟩ : ∃ j, j < P.length ∧ P.getD j 0 = q := by
      have : q ∈ P := hP.perm.mem_iff.2 (List.mem_range.2 (by omega))
      obtain ⟨j, hj, e⟩ := List.mem_iff_getElem.1 this
      exact ⟨j, hj, by rw [List.getD_eq_getElem?_getD, List.getElem?_eq_getElem hj, e]; rfl⟩
    have hsj := (a3 j hj).1 (by show w.take 8 <+: b.drop (P.getD j 0); rw [he]; exact (take8 hw).2 (by omega))
    have hft := (key j hsj.1 hsj.2).1 (by show w.take l <+: b.drop (P.getD j 0); rw [he]; exact (alike q).1 (by omega))
    have := hp1 j hft.1 hft.2
    omega
/-- Nothing begins as what is wanted: less than eight bytes are alike everywhere. -/
theorem none_of_begin {b w : List UInt8} {P : List Nat} (hP : InOrd b P) {Bg : List UInt8 → Option (Nat × Nat)} (hB : BeginOk b P P.length Bg) (hw : 8 ≤ w.length) (hs : Bg (w.take 8) = none) : ∀ q, q < b.length → lcpF (b.drop q) w < 8 := fun q hq => by
  obtain ⟨j, hj, he⟩ : ∃ j, j < P.length ∧ P.getD j 0 = q := by
    have : q ∈ P := hP.perm.mem_iff.2 (List.mem_range.2 hq)
    obtain ⟨j, hj, e⟩ := List.mem_iff_getElem.1 this
    exact ⟨j, hj, by rw [List.getD_eq_getElem?_getD, List.getElem?_eq_getElem hj, e]; rfl⟩
  have := (hB _ (by rw [List.length_take]; omega)).1 hs j hj
  rw [show stB b P j = b.drop q by unfold stB; rw [he], take8 hw] at this
  omega
end Go.Proofs.Ytheigemfbcgjcaa
