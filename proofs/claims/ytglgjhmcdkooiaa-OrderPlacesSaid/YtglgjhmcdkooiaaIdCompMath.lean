/-
  What is in order, each once: plainly, in place; clearing ids.
-/
import Derived.Test.YtglgjhmcdkooiaaIdSortMath
namespace Go.Proofs.Ytglgjhmcdkooiaa
open Go.RowKit

theorem getD_left {T U : List (List UInt8)} {i : Nat} (h : i < T.length) : (T ++ U).getD i [] = T.getD i [] := by
  simp [List.getElem?_append_left h]
theorem getD_end {T : List (List UInt8)} {x : List UInt8} {i : Nat} (h : i = T.length) : (T ++ [x]).getD i [] = x := by
  subst h; simp
theorem set_snoc {T : List (List UInt8)} {x : List UInt8} (h : SetF T) (hx : 0 < T.length → cmpF (T.getD (T.length - 1) []) x < 0) : SetF (T ++ [x]) := by
  rw [setF_chain] at h ⊢
  intro i hi
  rw [List.length_append, List.length_singleton] at hi
  by_cases h1 : i + 1 < T.length
  · have := h i h1
    rw [getD_left (by omega), getD_left h1]
    exact this
  · have e : i = T.length - 1 := by omega
    have := hx (by omega)
    rw [getD_left (by omega), getD_end (by omega), e]
    exact this

theorem take_snoc {L : List (List UInt8)} {i : Nat} (h : i < L.length) : L.take (i + 1) = L.take i ++ [L.getD i []] := by
  rw [List.take_succ_eq_append_getElem h]
  simp [h]
theorem getD_take {L : List (List UInt8)} {i j : Nat} (h : j < i) : (L.take i).getD j [] = L.getD j [] := by
  simp [h]
theorem up_at {L : List (List UInt8)} (h : Up L) {i j : Nat} (hij : i < j) (hj : j < L.length) : cmpF (L.getD i []) (L.getD j []) ≤ 0 := by
  have := List.pairwise_iff_getElem.1 h i j (by omega) hj hij
  simpa [hj, show i < L.length from by omega] using this
theorem up_ne {L : List (List UInt8)} (h : Up L) {i j : Nat} (hij : i < j) (hj : j < L.length) (hne : L.getD j [] ≠ L.getD i []) : cmpF (L.getD i []) (L.getD j []) < 0 := by
  have h1 := up_at h hij hj
  have h2 : cmpF (L.getD i []) (L.getD j []) ≠ 0 := fun h0 => hne (cmpF_eq h0).symm
  omega

theorem one_set {L : List (List UInt8)} (h : 1 ≤ L.length) : SetF (L.take 1) := by
  cases L with
  | nil => simp at h
  | cons x T => simp [SetF]
theorem set_next {L : List (List UInt8)} {i : Nat} (hu : Up L) (h : SetF (L.take i)) (h1 : 1 ≤ i) (hi : i < L.length) (hne : L.getD i [] ≠ L.getD (i - 1) []) : SetF (L.take (i + 1)) := by
  rw [take_snoc hi]
  refine set_snoc h (fun _ => ?_)
  rw [List.length_take, show min i L.length - 1 = i - 1 from by omega, getD_take (by omega)]
  exact up_ne hu (by omega) hi hne

/-- How far it is, in place. -/
structure Once (L : List (List UInt8)) (p i : Nat) (R : List (List UInt8)) : Prop where
  one : 1 ≤ i
  le : i ≤ p
  lt : p < L.length
  len : R.length = L.length
  rest : R.drop p = L.drop p
  set : SetF (R.take i)
  mem : ∀ x, x ∈ R.take i ↔ x ∈ L.take (p + 1)
  last : R.getD (i - 1) [] = L.getD p []

theorem Once.start {L : List (List UInt8)} {i : Nat} (h : SetF (L.take i)) (h1 : 1 ≤ i) (hi : i < L.length) (he : L.getD i [] = L.getD (i - 1) []) : Once L i i L := by
  refine ⟨h1, Nat.le_refl _, hi, rfl, rfl, h, fun x => ?_, he.symm⟩
  rw [take_snoc hi, List.mem_append, List.mem_singleton]
  refine ⟨.inl, fun hx => ?_⟩
  rcases hx with hx | rfl
  · exact hx
  · rw [he]
    have : (L.take i).getD (i - 1) [] = L.getD (i - 1) [] := getD_take (by omega)
    rw [← this]
    have h3 : i - 1 < (L.take i).length := by simp; omega
    have : (L.take i).getD (i - 1) [] = (L.take i)[i - 1] := by rw [List.getD_eq_getElem?_getD, List.getElem?_eq_getElem h3]; rfl
    rw [this]
    exact List.getElem_mem h3
theorem Once.same {L R : List (List UInt8)} {p i : Nat} (h : Once L p i R) (hp : p + 1 < L.length) (he : L.getD (p + 1) [] = L.getD p []) : Once L (p + 1) i R := by
  refine ⟨h.one, by have := h.le; omega, hp, h.len, ?_, h.set, fun x => ?_, h.last.trans he.symm⟩
  · rw [← List.drop_drop, ← List.drop_drop, h.rest]
  · rw [h.mem, take_snoc hp, List.mem_append, List.mem_singleton]
    refine ⟨.inl, fun hx => ?_⟩
    rcases hx with hx | rfl
    · exact hx
    · rw [he, take_snoc (by omega)]; simp
theorem set_take {R : List (List UInt8)} {i : Nat} {x : List UInt8} (h : i < R.length) : (R.set i x).take (i + 1) = R.take i ++ [x] := by
  rw [List.set_eq_take_append_cons_drop, if_pos h]
  have h1 : (R.take i).length = i := by simp; omega
  rw [List.take_append, h1, List.take_of_length_le (by omega), show i + 1 - i = 1 from by omega]
  rfl
theorem Once.next {L R : List (List UInt8)} {p i : Nat} (hu : Up L) (h : Once L p i R) (hp : p + 1 < L.length) (hne : L.getD (p + 1) [] ≠ L.getD p []) : Once L (p + 1) (i + 1) (R.set i (L.getD (p + 1) [])) := by
  have hir : i < R.length := by have := h.le; have := h.lt; have := h.len; omega
  refine ⟨by omega, by have := h.le; omega, hp, by rw [List.length_set]; exact h.len, ?_, ?_, fun x => ?_, ?_⟩
  · rw [List.drop_set_of_lt (by have := h.le; omega), ← List.drop_drop, ← List.drop_drop, h.rest]
  · rw [set_take hir]
    refine set_snoc h.set (fun _ => ?_)
    rw [List.length_take, show min i R.length - 1 = i - 1 from by omega, getD_take (by have := h.one; omega), h.last]
    exact up_ne hu (by omega) hp hne
  · rw [set_take hir, take_snoc hp, List.mem_append, List.mem_append, h.mem]
  · simp [hir]
theorem Once.end {L R : List (List UInt8)} {p i : Nat} (h : Once L p i R) (hp : p + 1 = L.length) : SetF (R.take i) ∧ ∀ x, x ∈ R.take i ↔ x ∈ L :=
  ⟨h.set, fun x => by rw [h.mem, List.take_of_length_le (by omega)]⟩
theorem Once.read {L R : List (List UInt8)} {p i : Nat} (h : Once L p i R) (j : Nat) (hj : p ≤ j) : R.getD j [] = L.getD j [] := by
  have h1 : (R.drop p).getD (j - p) [] = (L.drop p).getD (j - p) [] := by rw [h.rest]
  simpa [show p + (j - p) = j from by omega] using h1

theorem RowC.at_ {w : World} {g : Nat} {L : List (List UInt8)} (h : RowC w g L) (i : Nat) (hi : i < L.length) : w.rangeAt g (i * 32) ((L.getD i []).map B) := by
  have := rangeAt_part h.2.1 (i * 32) 32
  rwa [flat_at h.1 i hi, Nat.zero_add] at this

/-- 'clear(s)'. -/
theorem run_clear_ids (w : World) (ty : TypeId) (b o n c : Nat) (hn : 0 < n) (ht : w.there b o (n * 32)) :
    (Builtin.clear_ #[37] ty #[.slice (some ⟨b, o, none⟩) n c]).run Try.prog w = .ok (.tuple #[]) (w.setCells b o (flat (zeros n))) := by
  have hv : (zeroValue 31).run Try.prog w = .ok (.agg (idCells idZero)) w := run_zero_id w
  have hzc : (Builtin.zeroCells (Value.agg (idCells idZero)).cells n).toList = flat (zeros n) := by
    have h := zeros_flat n
    have hsz : (idCells idZero).size = 32 := idCells_size idZero_length
    have e : Builtin.zeroCells (Value.agg (idCells idZero)).cells n = madeCells (idCells idZero) (n * 32) := by
      show (Array.range (n * (idCells idZero).size)).map _ = (Array.range (n * 32)).map _
      rw [hsz]; exact congrArg (fun k => (Array.range (n * 32)).map (fun i => (idCells idZero)[i % k]!)) hsz
    rw [e]; exact h
  have hlen : (flat (zeros n)).length = n * 32 := by rw [flat_length (zeros_W n), zeros_length]
  have hst := run_storeCells_cells (P := Try.prog) b o (flat (zeros n)) 0 w (by rw [hlen]; simpa using fun j hj => (ht j hj).1) (by rw [hlen]; simpa using fun j hj => (ht j hj).2) (flat_one _)
  simp only [Nat.add_zero] at hst
  obtain ⟨m, rfl⟩ : ∃ m, n = m + 1 := ⟨n - 1, by omega⟩
  simp [Builtin.clear_, run_underlying Try.underlying37, hv, hzc, hst]

theorem wl_clear {w : World} {ops : Array Oper} {rest : List Oper} {o : Oper} {a : Act} {Q : Exit → Act → World → Prop} (hgd : o.guard = none) (x : Operand)
    (ho : o.op = .call { callee := .builtin .clear, args := #[x], argTypes := #[37] }) (b off n c : Nat) (hx : a.eval x = .slice (some ⟨b, off, none⟩) n c) (hn : 0 < n) (ht : w.there b off (n * 32))
    (h : wpList Try.prog ops Q rest (a.put o.dst (.tuple #[])) (w.setCells b off (flat (zeros n)))) : wpList Try.prog ops Q (o :: rest) a w := by
  refine wpList_ok hgd (v := .tuple #[]) ?_ h
  obtain ⟨dst, op, ty, pos, after, guard⟩ := o
  subst ho
  simp only [BigFrame.execOp_builtin, BigFrame.builtin_clear]
  simp [hx, run_clear_ids w ty b off n c hn ht]

theorem RowC.there_from {w : World} {g : Nat} {L : List (List UInt8)} (h : RowC w g L) (i n : Nat) (hi : i + n ≤ L.length) : w.there g (i * 32) (n * 32) := fun j hj => by
  have := h.2.2 (i * 32 + j) (by omega)
  rwa [Nat.zero_add] at this
theorem RowC.head_cleared {w : World} {g : Nat} {L : List (List UInt8)} (h : RowC w g L) (i c : Nat) (hi : i ≤ L.length) (hc : i ≤ c) (hc2 : c ≤ 9223372036854775807) (vs : List Value) : IdsAt (w.setCells g (i * 32) vs) (some ⟨g, 0, none⟩) i c (L.take i) := by
  refine ⟨by simp; omega, hc, hc2, h.1.take i, .inr ⟨g, 0, rfl, fun j v hv => ?_⟩⟩
  have hj : j < i * 32 := by
    have := (List.getElem?_eq_some_iff.1 hv).1
    rw [flat_length (h.1.take i), List.length_take] at this
    omega
  rw [World.cell?_setCells_out g _ _ w ⟨g, 0 + j, none⟩ (fun _ _ => .inl (by show 0 + j < i * 32; omega))]
  rw [← flat_take h.1, List.getElem?_take, if_pos hj] at hv
  exact h.2.1 j v hv
#print axioms wl_clear
end Go.Proofs.Ytglgjhmcdkooiaa
