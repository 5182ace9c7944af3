/-
  Sorting by putting one more where it belongs, plainly; a store into what the call owns; a list as a set, what is in another one.
-/
import Derived.Test.YtiakbbokmllcdaaIdSortMath
import Derived.Test.YtiakbbokmllcdaaIdCompMath
namespace Go.Proofs.Ytiakbbokmllcdaa
open Go.RowKit

/-- How far one more has come: what stands ahead of place k is as it was, what stood behind it has moved on by one. -/
structure Ins (S : List (List UInt8)) (x : List UInt8) (k : Nat) (R : List (List UInt8)) : Prop where
  le : k ≤ S.length
  len : R.length = S.length + 1
  head : R.take k = S.take k
  rest : R.drop (k + 1) = S.drop k
  gt : ∀ j, k ≤ j → j < S.length → 0 < cmpF (S.getD j []) x

theorem Ins.start (S : List (List UInt8)) (x y : List UInt8) : Ins S x S.length (S ++ [y]) :=
  ⟨Nat.le_refl _, by simp, by simp, by simp, fun j h1 h2 => by omega⟩
theorem Ins.read {S R : List (List UInt8)} {x : List UInt8} {k : Nat} (h : Ins S x k R) (hk : 0 < k) : R.getD (k - 1) [] = S.getD (k - 1) [] := by
  have h1 : (R.take k).getD (k - 1) [] = (S.take k).getD (k - 1) [] := by rw [h.head]
  rwa [getD_take (by omega), getD_take (by omega)] at h1
theorem drop_getD {L : List (List UInt8)} {k : Nat} (h : k < L.length) : L.drop k = L.getD k [] :: L.drop (k + 1) := by
  rw [List.drop_eq_getElem_cons h]
  simp [h]
theorem Ins.step {S R : List (List UInt8)} {x : List UInt8} {k : Nat} (h : Ins S x k R) (hk : 0 < k) (hc : 0 < cmpF (S.getD (k - 1) []) x) : Ins S x (k - 1) (R.set k (S.getD (k - 1) [])) := by
  have hle := h.le
  have hlen := h.len
  refine ⟨by omega, by rw [List.length_set]; exact hlen, ?_, ?_, fun j h1 h2 => ?_⟩
  · rw [List.take_set_of_le (by omega)]
    have h1 : (R.take k).take (k - 1) = (S.take k).take (k - 1) := by rw [h.head]
    rwa [List.take_take, List.take_take, show min (k - 1) k = k - 1 from by omega] at h1
  · rw [show k - 1 + 1 = k from by omega]
    have e : (R.set k (S.getD (k - 1) [])).drop k = S.getD (k - 1) [] :: R.drop (k + 1) := by
      rw [List.set_eq_take_append_cons_drop, if_pos (by omega), List.drop_append]
      have : (R.take k).length = k := by simp; omega
      rw [List.drop_eq_nil_of_le (by omega), this, Nat.sub_self]
      rfl
    rw [e, h.rest, drop_getD (L := S) (k := k - 1) (by omega), show k - 1 + 1 = k from by omega]
  · rcases Nat.lt_or_ge j k with h3 | h3
    · obtain rfl : j = k - 1 := by omega
      exact hc
    · exact h.gt j h3 h2
theorem Ins.end {S R : List (List UInt8)} {x : List UInt8} {k : Nat} (h : Ins S x k R) (hu : Up S) (hc : k = 0 ∨ cmpF (S.getD (k - 1) []) x ≤ 0) : Up (R.set k x) ∧ (R.set k x).Perm (S ++ [x]) := by
  have hle := h.le
  have hlen := h.len
  have e : R.set k x = S.take k ++ x :: S.drop k := by
    rw [List.set_eq_take_append_cons_drop, if_pos (by omega), h.head, h.rest]
  rw [e]
  refine ⟨insert_up hu x k hle (fun i hi => ?_) (fun i h1 h2 => h.gt i h1 h2), insert_perm S x k⟩
  rcases hc with hc | hc
  · omega
  · rcases Nat.lt_or_ge i (k - 1) with h3 | h3
    · exact cmpF_le_trans (up_at hu h3 (by omega)) hc
    · obtain rfl : i = k - 1 := by omega
      exact hc

theorem Ins.next {l S R : List (List UInt8)} {x : List UInt8} {k i : Nat} (h : Ins S x k R) (hu : Up S) (hp : S.Perm (l.take i)) (hi : i < l.length) (hx : x = l.getD i []) (hc : k = 0 ∨ cmpF (S.getD (k - 1) []) x ≤ 0) :
    Up (R.set k x) ∧ (R.set k x).Perm (l.take (i + 1)) := by
  obtain ⟨h1, h2⟩ := h.end hu hc
  refine ⟨h1, h2.trans ?_⟩
  rw [take_snoc hi, ← hx]
  exact hp.append (List.Perm.refl _)

/-- A store into what the call owns. -/
theorem OwnI.store {w : World} {base g n c : Nat} {L : List (List UInt8)} (h : OwnI w base (.slice (some ⟨g, 0, none⟩) n c) L) (i : Nat) (hi : i < L.length) (x : List UInt8) (hx : x.length = 32) :
    OwnI (w.setCells g (i * 32) (x.map B)) base (.slice (some ⟨g, 0, none⟩) n c) (L.set i x) := by
  have hrow : RowC w g L := by
    have hnl : L.length = n := by
      obtain ⟨a2, c2, hv, _⟩ := h.ids
      simp only [Value.slice.injEq] at hv
      exact hv.2.1.symm
    obtain ⟨g2, hg2, _, hr, _⟩ := h.row (by omega)
    simp only [Option.some.injEq, Addr.mk.injEq, and_true] at hg2
    subst hg2
    exact hr
  have hrow' := hrow.store i hi x hx
  obtain ⟨⟨h1, h2⟩, h5⟩ := h
  refine ⟨⟨by rw [List.length_set, flat_length (h5.set i hx), List.length_set], ?_⟩, h5.set i hx⟩
  rcases h2 with ⟨hv, hz⟩ | ⟨g', cap, cur, hv, hb, hg, hle, hm, hs, ht⟩
  · omega
  · simp only [Value.slice.injEq, Option.some.injEq, Addr.mk.injEq, and_true] at hv
    obtain ⟨rfl, rfl, rfl⟩ := hv
    have hlen := flat_length h5
    have key : ∀ (vs : List Value) (o : Nat) (w : World) (cur : Array Value), w.heap[g]? = some (.cells cur 23 (0, 0)) → ∃ cur', (w.setCells g o vs).heap[g]? = some (.cells cur' 23 (0, 0)) ∧ cur'.size = cur.size := by
      intro vs
      induction vs with
      | nil => intro o w cur h; exact ⟨cur, h, rfl⟩
      | cons v r ih =>
        intro o w cur h
        have h' := heap_setCell_same w g o cur 23 v h
        obtain ⟨cur', h3, h4⟩ := ih (o + 1) _ _ h'
        exact ⟨cur', h3, by rw [h4]; simp⟩
    obtain ⟨cur', h6, h7⟩ := key (x.map B) (i * 32) w cur hg
    rw [List.length_set]
    refine .inr ⟨g, _, cur', rfl, hb, h6, hle, hm, by rw [h7]; exact hs, ?_⟩
    have hfl := flat_length hrow'.1
    rw [List.length_set] at hfl
    apply List.ext_getElem
    · have h9 : cur'.toList.length = cur.size := h7
      have h10 : L.length * 32 ≤ c * 32 := Nat.mul_le_mul_right 32 hle
      rw [List.length_take, h9, hs, hfl]
      exact Nat.min_eq_left h10
    · intro j hj1 hj2
      have h8 := hrow'.2.1 j _ (List.getElem?_eq_getElem hj2)
      rw [Nat.zero_add, cell_of_row _ g j cur' 23 (0, 0) h6] at h8
      rw [List.getElem_take, ← Option.some.injEq, ← h8]
      simp only [Array.getElem_toList]
      rw [Array.getElem?_eq_getElem]

/-! ### What is once there, as far as it goes -/
theorem onceF_snoc (l : List (List UInt8)) (x : List UInt8) : ∀ out, onceF out (l ++ [x]) = (if x ∈ onceF out l then onceF out l else onceF out l ++ [x]) := by
  induction l with
  | nil => intro out; rfl
  | cons y r ih => intro out; show onceF _ (r ++ [x]) = _; rw [ih]; rfl
theorem onceF_length (l : List (List UInt8)) : ∀ out, (onceF out l).length ≤ out.length + l.length := by
  induction l with
  | nil => intro out; simp [onceF]
  | cons y r ih =>
    intro out
    rw [onceF]
    have := ih (if y ∈ out then out else out ++ [y])
    refine Nat.le_trans this ?_
    split
    all_goals (simp only [List.length_append, List.length_cons, List.length_nil]; omega)

/-- Those of a list that are in another one, or aren't. -/
def inF (b : List (List UInt8)) (t : Bool) (l : List (List UInt8)) : List (List UInt8) := l.filter fun x => decide (x ∈ b) == t
theorem inF_snoc (b : List (List UInt8)) (t : Bool) (l : List (List UInt8)) (x : List UInt8) : inF b t (l ++ [x]) = if decide (x ∈ b) = t then inF b t l ++ [x] else inF b t l := by
  unfold inF
  rw [List.filter_append]
  by_cases h : decide (x ∈ b) = t
  · rw [if_pos h]; simp [h]
  · rw [if_neg h]
    have : (decide (x ∈ b) == t) = false := by simpa using h
    simp [this]
theorem inF_length (b : List (List UInt8)) (t : Bool) (l : List (List UInt8)) : (inF b t l).length ≤ l.length := List.length_filter_le _ _
theorem inF_mem (b : List (List UInt8)) (t : Bool) (l : List (List UInt8)) (x : List UInt8) : x ∈ inF b t l ↔ x ∈ l ∧ decide (x ∈ b) = t := by
  unfold inF
  rw [List.mem_filter, beq_iff_eq]
#print axioms Ins.next
#print axioms OwnI.store
#print axioms onceF_snoc
end Go.Proofs.Ytiakbbokmllcdaa
