/-
  The walk of the program's Match: pairs of rows and columns, the greatest numbers first.
-/
import Derived.Test.YtkafeadgjpglaaaRank
import Derived.Test.YtkafeadgjpglaaaTellG
namespace Go.Proofs.Ytkafeadgjpglaaa
open Go.RowKit

/-! ### Plainly -/
/-- Does a number count? -/
def okB (least x : Nat) : Bool := !nanB x && decide (0 ≤ ordF x least)
/-- What counts of a row's first columns. -/
def candRow (least row : Nat) (l : List Nat) (j : Nat) : List ((Nat × Nat) × Nat) := (List.range j).filterMap fun c => if okB least (l.getD c 0) then some ((row, c), l.getD c 0) else none
/-- What counts of the first rows. -/
def candM (least : Nat) (M : List (List Nat)) (i : Nat) : List ((Nat × Nat) × Nat) := (List.range i).flatMap fun r => candRow least r (M.getD r []) (M.getD r []).length
theorem candRow_next (least row : Nat) (l : List Nat) (j : Nat) : candRow least row l (j + 1) = candRow least row l j ++ (if okB least (l.getD j 0) then [((row, j), l.getD j 0)] else []) := by
  unfold candRow
  rw [List.range_succ, List.filterMap_append]
  congr 1
  cases h : okB least (l.getD j 0) <;> simp only [List.filterMap_cons, List.filterMap_nil, h] <;> rfl
theorem candM_next (least : Nat) (M : List (List Nat)) (i : Nat) : candM least M (i + 1) = candM least M i ++ candRow least i (M.getD i []) (M.getD i []).length := by
  unfold candM
  rw [List.range_succ, List.flatMap_append]
  simp
theorem candRow_length (least row : Nat) (l : List Nat) (j : Nat) : (candRow least row l j).length ≤ j := by
  unfold candRow
  have := List.length_filterMap_le (fun c => if okB least (l.getD c 0) then some ((row, c), l.getD c 0) else none) (List.range j)
  simpa using this
theorem candM_length (least : Nat) (M : List (List Nat)) (b : Nat) (h : ∀ r, (M.getD r []).length ≤ b) (i : Nat) : (candM least M i).length ≤ i * b := by
  induction i with
  | zero => simp [candM]
  | succ i ih =>
    rw [candM_next, List.length_append, Nat.add_mul, Nat.one_mul]
    have := candRow_length least i (M.getD i []) (M.getD i []).length
    have := h i
    omega
theorem mem_candRow {least row : Nat} {l : List Nat} {j : Nat} {p : (Nat × Nat) × Nat} (h : p ∈ candRow least row l j) : p.1.1 = row ∧ p.1.2 < j ∧ p.2 = l.getD p.1.2 0 ∧ okB least p.2 = true := by
  unfold candRow at h
  rw [List.mem_filterMap] at h
  obtain ⟨c, hc, hp⟩ := h
  by_cases hk : okB least (l.getD c 0)
  · rw [if_pos hk] at hp
    cases hp
    exact ⟨rfl, List.mem_range.1 hc, rfl, hk⟩
  · rw [if_neg hk] at hp; cases hp
theorem mem_candM {least : Nat} {M : List (List Nat)} {i : Nat} {p : (Nat × Nat) × Nat} (h : p ∈ candM least M i) : p.1.1 < i ∧ p.1.2 < (M.getD p.1.1 []).length ∧ p.2 = (M.getD p.1.1 []).getD p.1.2 0 ∧ okB least p.2 = true := by
  unfold candM at h
  rw [List.mem_flatMap] at h
  obtain ⟨r, hr, hp⟩ := h
  obtain ⟨h1, h2, h3, h4⟩ := mem_candRow hp
  subst h1
  exact ⟨List.mem_range.1 hr, h2, h3, h4⟩

/-- Is neither its row nor its column told? -/
def freeB (T : List (Nat × Nat)) (p : Nat × Nat) : Bool := decide (∀ q ∈ T, q.1 ≠ p.1 ∧ q.2 ≠ p.2)
def stepG (P : List (Nat × Nat)) (T : List (Nat × Nat)) (i : Nat) : List (Nat × Nat) := if freeB T (P.getD i (0, 0)) then T ++ [P.getD i (0, 0)] else T
/-- Told one by one. -/
def greedyF (P : List (Nat × Nat)) (R : List Nat) : List (Nat × Nat) := R.foldl (stepG P) []
theorem take_snocN {R : List Nat} {k : Nat} (h : k < R.length) : R.take (k + 1) = R.take k ++ [R.getD k 0] := by
  rw [List.take_succ_eq_append_getElem h]
  simp [h]
theorem greedy_next (P : List (Nat × Nat)) (R : List Nat) {k : Nat} (h : k < R.length) : greedyF P (R.take (k + 1)) = stepG P (greedyF P (R.take k)) (R.getD k 0) := by
  unfold greedyF
  rw [take_snocN h, List.foldl_append]
  rfl
theorem greedy_length (P : List (Nat × Nat)) (R : List Nat) : (greedyF P R).length ≤ R.length := by
  unfold greedyF
  have key : ∀ (R : List Nat) (T : List (Nat × Nat)), (R.foldl (stepG P) T).length ≤ T.length + R.length := by
    intro R
    induction R with
    | nil => intro T; simp
    | cons i R ih =>
      intro T
      rw [List.foldl_cons]
      refine Nat.le_trans (ih _) ?_
      unfold stepG
      split
      · simp only [List.length_append, List.length_cons, List.length_nil]; omega
      · simp only [List.length_cons]; omega
  simpa using key R []
/-- What Match tells. -/
def matchF (least : Nat) (M : List (List Nat)) : List (Nat × Nat) := greedyF ((candM least M M.length).map Prod.fst) (rankS ((candM least M M.length).map Prod.snd))

/-- Which numbers are told, as truths: 1 where one is. -/
def Marks (f : Nat × Nat → Nat) (T : List (Nat × Nat)) (L : List Nat) : Prop := ∀ r, r < L.length → (L.getD r 0 = if (∃ q ∈ T, f q = r) then 1 else 0)
theorem Marks.zero (f : Nat × Nat → Nat) (n : Nat) : Marks f [] (List.replicate n 0) := fun r hr => by
  rw [if_neg (by simp)]
  simp at hr
  simp [hr]
theorem Marks.next {f : Nat × Nat → Nat} {T : List (Nat × Nat)} {L : List Nat} (h : Marks f T L) (p : Nat × Nat) (hp : f p < L.length) : Marks f (T ++ [p]) (L.set (f p) 1) := fun r hr => by
  rw [List.length_set] at hr
  by_cases e : r = f p
  · subst e
    rw [if_pos ⟨p, by simp, rfl⟩]
    simp [hr]
  · have h1 := h r hr
    have h2 : (L.set (f p) 1).getD r 0 = L.getD r 0 := by simp [Ne.symm e]
    rw [h2, h1]
    have h3 : (∃ q ∈ T ++ [p], f q = r) ↔ (∃ q ∈ T, f q = r) := by
      constructor
      · rintro ⟨q, hq, hf⟩
        rw [List.mem_append, List.mem_singleton] at hq
        rcases hq with hq | rfl
        · exact ⟨q, hq, hf⟩
        · exact absurd hf.symm e
      · rintro ⟨q, hq, hf⟩
        exact ⟨q, List.mem_append_left _ hq, hf⟩
    by_cases h4 : ∃ q ∈ T, f q = r
    · rw [if_pos h4, if_pos (h3.2 h4)]
    · rw [if_neg h4, if_neg (fun h => h4 (h3.1 h))]
theorem marks_free {T : List (Nat × Nat)} {A B : List Nat} (hA : Marks Prod.fst T A) (hB : Marks Prod.snd T B) (p : Nat × Nat) (h1 : p.1 < A.length) (h2 : p.2 < B.length) :
    freeB T p = (!(A.getD p.1 0 == 1) && !(B.getD p.2 0 == 1)) := by
  rw [hA p.1 h1, hB p.2 h2]
  unfold freeB
  by_cases e1 : ∃ q ∈ T, q.1 = p.1
  · rw [if_pos e1]
    obtain ⟨q, hq, hf⟩ := e1
    rw [decide_eq_false (fun h => (h q hq).1 hf)]
    rfl
  · rw [if_neg e1]
    by_cases e2 : ∃ q ∈ T, q.2 = p.2
    · rw [if_pos e2]
      obtain ⟨q, hq, hf⟩ := e2
      rw [decide_eq_false (fun h => (h q hq).2 hf)]
      rfl
    · rw [if_neg e2]
      rw [decide_eq_true (fun q hq => ⟨fun h => e1 ⟨q, hq, h⟩, fun h => e2 ⟨q, hq, h⟩⟩)]
      rfl

/-! ### In memory -/
/-- Rows of floats. -/
def MatAt (w : World) (a : Option Addr) (n c : Nat) (M : List (List Nat)) : Prop :=
  M.length = n ∧ n ≤ c ∧ c ≤ 9223372036854775807 ∧ ((n = 0 ∧ c = 0) ∨ ∃ b off, a = some ⟨b, off, none⟩ ∧ ∀ j, j < n → ∃ a1 c1, w.cell? ⟨b, off + j, none⟩ = some (.slice a1 (M.getD j []).length c1) ∧ At1 F w a1 (M.getD j []).length c1 (M.getD j []))
theorem MatAt.below {w w' : World} {a : Option Addr} {n c : Nat} {M : List (List Nat)} (h : MatAt w a n c M) (hb : Below w.heap.size w w') : MatAt w' a n c M := by
  obtain ⟨h1, h2, h3, h4⟩ := h
  refine ⟨h1, h2, h3, ?_⟩
  rcases h4 with h4 | ⟨b, off, ha, hc⟩
  · exact .inl h4
  · refine .inr ⟨b, off, ha, fun j hj => ?_⟩
    obtain ⟨a1, c1, k1, k2⟩ := hc j hj
    exact ⟨a1, c1, (hb.cell (World.block_lt_of_cell? _ _ k1)).trans k1, k2.below hb⟩
theorem MatAt.some_ {w : World} {a : Option Addr} {n c : Nat} {M : List (List Nat)} (h : MatAt w a n c M) (hn : 0 < n) : ∃ b off, a = some ⟨b, off, none⟩ := by
  rcases h.2.2.2 with ⟨h0, _⟩ | ⟨b, off, ha, _⟩
  · omega
  · exact ⟨b, off, ha⟩
theorem MatAt.row {w : World} {b off n c : Nat} {M : List (List Nat)} (h : MatAt w (some ⟨b, off, none⟩) n c M) (j : Nat) (hj : j < n) : ∃ a1 c1, w.cell? ⟨b, off + j, none⟩ = some (.slice a1 (M.getD j []).length c1) ∧ At1 F w a1 (M.getD j []).length c1 (M.getD j []) := by
  rcases h.2.2.2 with ⟨h0, _⟩ | ⟨b', off', ha, hc⟩
  · omega
  · simp only [Option.some.injEq, Addr.mk.injEq, and_true] at ha
    obtain ⟨rfl, rfl⟩ := ha
    exact hc j hj

/-- A truth. -/
def BL (n : Nat) : Value := .bool (n == 1)
theorem infoB : (Try.prog.info? 4).map (fun i => (i.zero, i.size, i.bytes)) = some (some (BL 0), 1, 1) := by kernel_rfl

/-- 'max(x, y)'. -/
theorem wl_max {P : Program} {w : World} {ops : Array Oper} {rest : List Oper} {o : Oper} {a : Act} {Q : Exit → Act → World → Prop} (hgd : o.guard = none) (x y : Operand) (ats : Array TypeId)
    (ho : o.op = .call { callee := .builtin .max, args := #[x, y], argTypes := ats }) (X Y Z : Int) (hx : a.eval x = .int .i64 X) (hy : a.eval y = .int .i64 Y) (hz : Z = if X < Y then Y else X)
    (h : wpList P ops Q rest (a.put o.dst (.int .i64 Z)) w) : wpList P ops Q (o :: rest) a w := by
  refine wpList_plain hgd fun K hK => ?_
  unfold Oper.wp
  have hr : (execOp a.eval o).run P w = .ok (.value (.int .i64 Z)) w := by
    subst hz
    obtain ⟨dst, op, ty, pos, after, guard⟩ := o
    subst ho
    simp only [BigFrame.execOp_builtin, BigFrame.builtin_max]
    simp [hx, hy, Builtin.max_, Builtin.max2]
  rw [hr]
  exact hK _ _ h
#print axioms wl_max
end Go.Proofs.Ytkafeadgjpglaaa
