/-
  Sorting by merging runs, plainly; a slice made by the call, as a row that may be written.
-/
import Derived.Test.YtglgjhmcdkooiaaIdRow
import Derived.OwnWalk
import Derived.BigFrame
namespace Go.Proofs.Ytglgjhmcdkooiaa
open Go.RowKit

theorem leB_trans (a b c : List UInt8) (h1 : leB a b = true) (h2 : leB b c = true) : leB a c = true := by
  simp only [leB, decide_eq_true_eq] at *; exact cmpF_le_trans h1 h2
theorem leB_total (a b : List UInt8) : (leB a b || leB b a) = true := by
  simp only [leB, Bool.or_eq_true, decide_eq_true_eq]; rw [cmpF_anti a b]; omega
theorem up_iff (l : List (List UInt8)) : Up l ↔ l.Pairwise (fun a b => leB a b = true) := by
  simp [Up, leB]
theorem mrg_up {A C : List (List UInt8)} (hA : Up A) (hC : Up C) : Up (mrg A C) :=
  (up_iff _).2 (List.pairwise_merge leB_trans leB_total A C ((up_iff _).1 hA) ((up_iff _).1 hC))
theorem mrg_perm (A C : List (List UInt8)) : (mrg A C).Perm (A ++ C) := List.merge_perm_append leB

/-- Each run of so many is in order. -/
def Runs (q : Nat) (L : List (List UInt8)) : Prop := ∀ i, Up ((L.drop (i * q)).take q)
theorem runs_one (L : List (List UInt8)) : Runs 1 L := fun i => by
  cases h : L.drop (i * 1) with
  | nil => simp [Up]
  | cons x T => simp [Up]
theorem runs_all {q : Nat} {L : List (List UInt8)} (h : Runs q L) (hq : L.length ≤ q) : Up L := by
  have := h 0
  rwa [Nat.zero_mul, List.drop_zero, List.take_of_length_le hq] at this

/-- What one merge puts where two runs stood. -/
def twoM (q f : Nat) (L : List (List UInt8)) : List (List UInt8) := mrg ((L.drop f).take q) ((L.drop (f + q)).take q)
theorem twoM_perm (q f : Nat) (L : List (List UInt8)) : (twoM q f L).Perm ((L.drop f).take (2 * q)) := by
  have h := mrg_perm ((L.drop f).take q) ((L.drop (f + q)).take q)
  have e : (L.drop f).take (2 * q) = (L.drop f).take q ++ (L.drop (f + q)).take q := by
    rw [show 2 * q = q + q from by omega, List.take_add, List.drop_drop]
  rw [e]; exact h
theorem twoM_length (q f : Nat) (L : List (List UInt8)) : (twoM q f L).length = min (2 * q) (L.length - f) := by
  rw [(twoM_perm q f L).length_eq]; simp

/-- One pass, as far as it is. -/
def Pass (q t : Nat) (L R : List (List UInt8)) : Prop := R.length = L.length ∧ (R.take (t * (2 * q))).Perm (L.take (t * (2 * q))) ∧ ∀ i, i < t → Up ((R.drop (i * (2 * q))).take (2 * q))
theorem pass_zero (q : Nat) {L R : List (List UInt8)} (h : R.length = L.length) : Pass q 0 L R := ⟨h, by simp, fun i hi => by omega⟩
theorem pass_step {q t : Nat} {L R : List (List UInt8)} (hr : Runs q L) (h : Pass q t L R) (hf : t * (2 * q) < L.length) :
    Pass q (t + 1) L (R.take (t * (2 * q)) ++ (twoM q (t * (2 * q)) L ++ R.drop (t * (2 * q) + (twoM q (t * (2 * q)) L).length))) := by
  obtain ⟨h1, h2, h3⟩ := h
  have hM := twoM_length q (t * (2 * q)) L
  have hMu : Up (twoM q (t * (2 * q)) L) := by
    refine mrg_up ?_ ?_
    · have := hr (t * 2)
      rwa [show t * 2 * q = t * (2 * q) from by rw [Nat.mul_assoc]] at this
    · have := hr (t * 2 + 1)
      rwa [show (t * 2 + 1) * q = t * (2 * q) + q from by rw [Nat.add_mul, Nat.mul_assoc, Nat.one_mul]] at this
  have hMp := twoM_perm q (t * (2 * q)) L
  have e2 : (t + 1) * (2 * q) = t * (2 * q) + 2 * q := by rw [Nat.add_mul, Nat.one_mul]
  rw [show (t + 1) = t + 1 from rfl]
  unfold Pass
  rw [e2]
  generalize hF : t * (2 * q) = f at *
  generalize twoM q f L = M at *
  generalize hs : 2 * q = s at *
  have htk : (R.take f).length = f := by simp; omega
  have hcut : (M ++ R.drop (f + M.length)).take s = M := by
    by_cases hc : f + s ≤ L.length
    · rw [List.take_append_of_le_length (by omega), List.take_of_length_le (by omega)]
    · rw [List.drop_eq_nil_of_le (by omega), List.append_nil, List.take_of_length_le (by omega)]
  refine ⟨by simp; omega, ?_, ?_⟩
  · rw [List.take_add, List.take_append_of_le_length (by omega), List.take_of_length_le (by omega)]
    rw [show (R.take f ++ (M ++ R.drop (f + M.length))).drop f = M ++ R.drop (f + M.length) from by
      have := @List.drop_append _ (R.take f) (M ++ R.drop (f + M.length)) f
      rw [this, List.drop_eq_nil_of_le (by omega), htk, Nat.sub_self, List.drop_zero, List.nil_append]]
    rw [hcut, List.take_add]
    exact h2.append hMp
  · intro i hi
    by_cases hit : i < t
    · have hle : i * s + s ≤ f := by
        have : (i + 1) * s ≤ t * s := Nat.mul_le_mul_right s (by omega)
        rw [Nat.add_mul, Nat.one_mul] at this
        omega
      rw [List.drop_append_of_le_length (by omega), List.take_append_of_le_length (by simp; omega), List.drop_take, List.take_take, show min s (f - i * s) = s from by omega]
      exact h3 i hit
    · obtain rfl : i = t := by omega
      rw [hF]
      rw [show (R.take f ++ (M ++ R.drop (f + M.length))).drop f = M ++ R.drop (f + M.length) from by
        have := @List.drop_append _ (R.take f) (M ++ R.drop (f + M.length)) f
        rw [this, List.drop_eq_nil_of_le (by omega), htk, Nat.sub_self, List.drop_zero, List.nil_append]]
      rw [hcut]
      exact hMu
theorem pass_end {q t : Nat} {L R : List (List UInt8)} (h : Pass q t L R) (hf : L.length ≤ t * (2 * q)) : R.length = L.length ∧ R.Perm L ∧ Runs (2 * q) R := by
  obtain ⟨h1, h2, h3⟩ := h
  refine ⟨h1, ?_, ?_⟩
  · rwa [List.take_of_length_le (by omega), List.take_of_length_le hf] at h2
  · intro i
    by_cases hi : i < t
    · exact h3 i hi
    · have : t * (2 * q) ≤ i * (2 * q) := Nat.mul_le_mul_right _ (by omega)
      rw [List.drop_eq_nil_of_le (by omega)]
      simp [Up]

/-- A slice that the call made, as a row that may be written. -/
theorem OwnI.row {w : World} {base : Nat} {a : Option Addr} {n c : Nat} {L : List (List UInt8)} (h : OwnI w base (.slice a n c) L) (hn : 0 < n) : ∃ g, a = some ⟨g, 0, none⟩ ∧ base ≤ g ∧ RowC w g L ∧ L.length = n ∧ n ≤ c ∧ c ≤ 9223372036854775807 := by
  obtain ⟨h0, h5⟩ := h
  have h0' := h0
  obtain ⟨h1, h2⟩ := h0
  rcases h2 with ⟨hv, hz⟩ | ⟨g, cap, cur, hv, hb, hg, hle, hm, hs, ht⟩
  · simp only [Value.slice.injEq] at hv; omega
  · simp only [Value.slice.injEq] at hv
    obtain ⟨rfl, rfl, rfl⟩ := hv
    refine ⟨g, rfl, hb, ⟨h5, fun j v hj => ?_, fun j hj => ?_⟩, rfl, hle, by unfold maxLen at hm; omega⟩
    · have := h0'.cells (g := g) rfl j v hj
      rwa [Addr.add_lit] at this
    · rw [Nat.zero_add]
      have hlen := flat_length h5
      have h6 := h0'.cells (g := g) rfl j ((flat L)[j]'(by omega)) (List.getElem?_eq_getElem (by omega))
      rw [Addr.add_lit, Nat.zero_add] at h6
      exact ⟨by rw [h6]; rfl, h0'.frozenAt j⟩

/-- What is made anew, and may be written. -/
def MadeR (w : World) (L : List (List UInt8)) (e : Ending) (w' : World) : Prop :=
  ∃ a c, e = .returned (.slice a L.length c) ∧ IdsAt w' a L.length c L ∧ Below w.heap.size w w' ∧ (0 < L.length → ∃ g, a = some ⟨g, 0, none⟩ ∧ w.heap.size ≤ g ∧ RowC w' g L)

def zeros (n : Nat) : List (List UInt8) := List.replicate n idZero
theorem zeros_length (n : Nat) : (zeros n).length = n := by simp [zeros]
theorem zeros_W (n : Nat) : W32 (zeros n) := fun x hx => by rw [List.eq_of_mem_replicate hx]; exact idZero_length

theorem zeros_flat (n : Nat) : (madeCells (idCells idZero) (n * 32)).toList = flat (zeros n) := by
  have hz : flat (zeros n) = List.replicate (n * 32) (B 0) := by
    induction n with
    | zero => rfl
    | succ n ih =>
      have e : flat (zeros (n + 1)) = idZero.map B ++ flat (zeros n) := rfl
      rw [e, ih, show (n + 1) * 32 = 32 + n * 32 from by omega, List.replicate_append_replicate.symm]
      rfl
  rw [hz]
  apply List.ext_getElem
  · simp [madeCells]
  · intro i h1 h2
    have hm : i % 32 < 32 := Nat.mod_lt _ (by omega)
    have h3 : ∀ k (hk : k < (idCells idZero).size), (idCells idZero)[k] = B 0 := fun k hk => by
      have e : idCells idZero = Array.replicate 32 (B 0) := by rfl
      simp only [e, Array.getElem_replicate]
    simp only [List.getElem_replicate]
    have hsz : (idCells idZero).size = 32 := by simp [idCells, idZero]
    have h4 : (madeCells (idCells idZero) (n * 32)).toList[i] = (idCells idZero)[i % (idCells idZero).size]! := by simp [madeCells]
    rw [h4, getElem!_pos _ _ (by rw [hsz]; exact hm), h3]

/-- 'make([]Id, n)'. -/
theorem make_ids {w : World} {ops : Array Oper} {rest : List Oper} {o : Oper} {a : Act} {Q : Exit → Act → World → Prop} (hgd : o.guard = none) (x y : Operand) (ho : o.op = Op.makeSlice 37 x y)
    (n : Nat) (hx : a.eval x = .int .i64 (n : Int)) (hy : a.eval y = .int .i64 (n : Int)) (hn : n ≤ 1000000000000)
    (h : ∀ w', OwnI w' w.heap.size (.slice (some ⟨w.heap.size, 0, none⟩) n n) (zeros n) → w.grownBy w' none → wpList Try.prog ops Q rest (a.put o.dst (.slice (some ⟨w.heap.size, 0, none⟩) n n)) w') : wpList Try.prog ops Q (o :: rest) a w := by
  obtain ⟨i0, hi, hz0, hz1, hz2⟩ := info_parts Try.infoI31
  refine wpList_make_full w hgd x y _ ho w.heap.size 31 i0 (.agg (idCells idZero)) 32 Try.underlying37 hi hz0 hz1 .i64 .i64 _ _ n hx hy rfl rfl (by rw [hz2]; omega) (by unfold maxLen; omega) (Nat.le_refl _) ?_
  intro w' h1 h2
  refine h w' ⟨?_, zeros_W n⟩ h2
  have e : (madeCells (Value.agg (idCells idZero)).cells (n * 32)).toList = flat (zeros n) := zeros_flat n
  rw [e] at h1
  rw [zeros_length]
  exact h1

/-- 'min(x, y)'. -/
theorem wl_min {P : Program} {w : World} {ops : Array Oper} {rest : List Oper} {o : Oper} {a : Act} {Q : Exit → Act → World → Prop} (hgd : o.guard = none) (x y : Operand) (ats : Array TypeId)
    (ho : o.op = .call { callee := .builtin .min, args := #[x, y], argTypes := ats }) (X Y Z : Int) (hx : a.eval x = .int .i64 X) (hy : a.eval y = .int .i64 Y) (hz : Z = if Y < X then Y else X)
    (h : wpList P ops Q rest (a.put o.dst (.int .i64 Z)) w) : wpList P ops Q (o :: rest) a w := by
  refine wpList_ok hgd (v := .int .i64 Z) ?_ h
  subst hz
  obtain ⟨dst, op, ty, pos, after, guard⟩ := o
  subst ho
  simp only [BigFrame.execOp_builtin, BigFrame.builtin_min]
  simp [hx, hy, Builtin.min_, Builtin.min2]
#print axioms wl_min
end Go.Proofs.Ytglgjhmcdkooiaa
