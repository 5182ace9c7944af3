/-
  What a name was at, by going through the names; an update of a branch.
-/
import Derived.Test.YtejooogfnnidcaaDoorRfDAll
namespace Go.Proofs.YtejooogfnnidcaaDoor
open Go.RowKit

def wasF (L : List RName) (s : List UInt8) : List UInt8 := L.foldl (fun a x => if x.1 = s then x.2 else a) idZero
theorem wasF_append (L M : List RName) (s : List UInt8) : wasF (L ++ M) s = M.foldl (fun a x => if x.1 = s then x.2 else a) (wasF L s) := by unfold wasF; rw [List.foldl_append]
theorem was_keep {s : List UInt8} : ∀ (M : List RName) (a : List UInt8), (∀ x ∈ M, x.1 ≠ s) → M.foldl (fun a x => if x.1 = s then x.2 else a) a = a
  | [], _, _ => rfl
  | x :: M, a, h => by
    rw [List.foldl_cons, if_neg (h x List.mem_cons_self)]
    exact was_keep M a fun y hy => h y (List.mem_cons_of_mem _ hy)
theorem wasF_none {L : List RName} {s : List UInt8} (h : ∀ x ∈ L, x.1 ≠ s) : wasF L s = idZero := was_keep L _ h
theorem wasF_mem {L : List RName} {s i : List UInt8} (h : Sorted L) (hm : (s, i) ∈ L) : wasF L s = i := by
  obtain ⟨A, B, rfl⟩ := List.append_of_mem hm
  rw [wasF_append, List.foldl_cons, if_pos rfl]
  refine was_keep B _ fun x hx e => ?_
  have h1 := (List.pairwise_append.1 h).2.1
  have := (List.pairwise_cons.1 h1).1 x hx
  rw [e] at this
  exact absurd this (List.lt_irrefl _)
theorem wasF_step {L : List RName} {s : List UInt8} (X : RName) : wasF (L ++ [X]) s = if X.1 = s then X.2 else wasF L s := by rw [wasF_append]; rfl
theorem wasF_len {L : List RName} {s : List UInt8} (h : ∀ x ∈ L, x.2.length = 32) : (wasF L s).length = 32 := by
  unfold wasF
  suffices ∀ (M : List RName) (a : List UInt8), (∀ x ∈ M, x.2.length = 32) → a.length = 32 → (M.foldl (fun a x => if x.1 = s then x.2 else a) a).length = 32 from this L _ h idZero_length
  intro M
  induction M with
  | nil => exact fun a _ h => h
  | cons x M ih =>
    intro a hx ha
    rw [List.foldl_cons]
    refine ih _ (fun y hy => hx y (List.mem_cons_of_mem _ hy)) ?_
    split
    · exact hx x List.mem_cons_self
    · exact ha
theorem there_none {L : List RName} {s : List UInt8} (h : Sorted L) (ht : thereF L s = false) : ∀ x ∈ L, x.1 ≠ s := by
  intro x hx e
  have hA := asc_sorted.2 h
  obtain ⟨j, hj, rfl⟩ := List.mem_iff_getElem.1 hx
  have h1 : ¬ j < findF L s := fun hlt => by
    have := (findF_iff hA s hj).2 hlt
    rw [gd_get hj, e] at this
    exact absurd this (List.lt_irrefl _)
  rcases Nat.lt_or_ge (findF L s) j with h2 | h2
  · have h3 := hA (findF L s) j h2 hj
    rw [gd_get hj, e] at h3
    have := (findF_iff hA s (j := findF L s) (by omega)).1 h3
    omega
  · have h4 : findF L s = j := by omega
    unfold thereF at ht
    rw [h4, gd_get hj, e] at ht
    simp [hj] at ht
theorem there_mem {L : List RName} {s : List UInt8} (ht : thereF L s = true) : (s, (gd L (findF L s)).2) ∈ L ∧ findF L s < L.length ∧ (gd L (findF L s)).1 = s := by
  unfold thereF at ht
  rw [Bool.and_eq_true, decide_eq_true_eq, decide_eq_true_eq] at ht
  obtain ⟨h1, h2⟩ := ht
  have : gd L (findF L s) ∈ L := by rw [gd_get h1]; exact List.getElem_mem h1
  refine ⟨?_, h1, h2⟩
  have e : (s, (gd L (findF L s)).2) = gd L (findF L s) := Prod.ext h2.symm rfl
  rw [e]; exact this
/-- A branch moves from where it is to where it shall be. -/
theorem moveF_was {L : List RName} {u : UpdV} (h : RightN L) (h0 : (moveF L u).2 = 0) : wasF L u.name = u.old ∧ wasF (moveF L u).1 u.name = u.new := by
  obtain ⟨h1, h2, h3⟩ := rightN_iff.1 h
  have hR := (rightN_iff.1 (moveF_right h h0)).2.2
  unfold moveF at h0 hR ⊢
  by_cases hn : nameF u.name = false
  · rw [if_pos hn] at h0; cases h0
  rw [if_neg hn] at h0 hR ⊢
  by_cases ho : (if thereF L u.name then (gd L (findF L u.name)).2 else idZero) ≠ u.old
  · rw [if_pos ho] at h0; cases h0
  rw [if_neg ho] at h0 hR ⊢
  have ho : (if thereF L u.name then (gd L (findF L u.name)).2 else idZero) = u.old := Classical.byContradiction ho
  by_cases ht : thereF L u.name = true
  · rw [if_pos ht] at h0 hR ho ⊢
    obtain ⟨m1, m2, m3⟩ := there_mem ht
    refine ⟨by rw [wasF_mem h3 m1, ho], ?_⟩
    by_cases hz : u.new = idZero
    · rw [if_pos hz, hz]
      refine wasF_none fun x hx e => ?_
      obtain ⟨j, hj, hjk, rfl⟩ := List.mem_eraseIdx_iff_getElem.1 hx
      have hA := asc_sorted.2 h3
      rcases Nat.lt_or_gt_of_ne hjk with hl | hl
      · have := hA j (findF L u.name) hl m2
        rw [gd_get hj, e, m3] at this
        exact absurd this (List.lt_irrefl _)
      · have := hA (findF L u.name) j hl hj
        rw [gd_get hj, e, m3] at this
        exact absurd this (List.lt_irrefl _)
    · rw [if_neg hz] at hR ⊢
      refine wasF_mem hR ?_
      rw [m3]
      exact List.mem_iff_getElem.2 ⟨findF L u.name, by simpa using m2, by simp⟩
  · rw [if_neg ht] at h0 hR ho ⊢
    have hN := there_none h3 (by simpa using ht)
    refine ⟨by rw [wasF_none hN, ho], ?_⟩
    by_cases hz : u.new = idZero
    · rw [if_pos hz, hz]; exact wasF_none hN
    · rw [if_neg hz] at h0 hR ⊢
      by_cases h64 : L.length = 64
      · rw [if_pos h64] at h0; cases h0
      · rw [if_neg h64] at hR ⊢
        exact wasF_mem hR (List.mem_append_right _ List.mem_cons_self)
/-- What Apply of one update of a branch comes to. -/
theorem one_branch {r : RefsV} {u : UpdV} (hk : u.kind = 1) (h0 : (applyF [] r [u]).2 = 0) :
    (applyF [] r [u]).1 = { r with br := (moveF r.br u).1, log := (logF r ⟨u, []⟩).log } ∧ (moveF r.br u).2 = 0 := by
  unfold applyF at h0 ⊢
  by_cases h1 : (oneR r u).2 = 0
  · rw [if_pos h1]
    unfold oneR at h1 ⊢
    rw [if_pos hk] at h1 ⊢
    unfold branchF at h1 ⊢
    split at h1
    · cases h1
    · rename_i hc
      rw [if_neg hc]
      exact ⟨rfl, h1⟩
  · rw [if_neg h1] at h0
    exact absurd h0 h1
theorem one_branch_no {r : RefsV} {u : UpdV} {n : List UInt8} (h0 : ¬ (applyF n r [u]).2 = 0) : (applyF n r [u]).1 = noRefs := by
  unfold applyF at h0 ⊢
  split at h0
  · exact absurd rfl h0
  · rename_i h1; rw [if_neg h1]
#print axioms moveF_was
end Go.Proofs.YtejooogfnnidcaaDoor
