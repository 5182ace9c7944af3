/-
  Merged: TreeMath, Files.
-/
import Derived.Test.YtfoalaoanpbmeaaDoorPathMath
import Derived.Test.YtfoalaoanpbmeaaDoorOneG
namespace Go.Proofs.YtfoalaoanpbmeaaDoor

abbrev FileL := List UInt8 × List UInt8
/-- The paths ahead of a file. -/
def aheadF (fs : List FileL) (i : Nat) : List (List UInt8) := (fs.take i).map (·.1)
/-- What is told at a file. -/
def fileE (fs : List FileL) (i : Nat) : Nat :=
  if pathF (fs.getD i default).1 = false then 10 else if bytesF (fs.getD i default).2 ≠ 0 then bytesF (fs.getD i default).2 else if clashesF (fs.getD i default).1 (aheadF fs i) = true then 11 else 0
def treeF (fs : List FileL) : Nat := if 64 < fs.length then 3 else (((List.range fs.length).map (fileE fs)).find? (· != 0)).getD 0

theorem find_at {l : List Nat} {p : Nat → Bool} : ∀ {i : Nat}, (h : i < l.length) → (∀ j, (hj : j < i) → p (l[j]'(by omega)) = false) → p l[i] = true → l.find? p = some l[i] := by
  induction l with
  | nil => intro i h; simp at h
  | cons a l ih =>
    intro i h h1 h2
    cases i with
    | zero => rw [List.find?_cons]; simp at h2 ⊢; rw [h2]
    | succ i =>
      have h0 := h1 0 (by omega)
      simp at h0
      rw [List.find?_cons, h0]
      simp only [List.getElem_cons_succ] at h2 ⊢
      exact ih (by simpa using h) (fun j hj => by have := h1 (j + 1) (by omega); simpa using this) h2
theorem tree_stop {fs : List FileL} {i e : Nat} (h64 : fs.length ≤ 64) (hi : i < fs.length) (hu : ∀ j, j < i → fileE fs j = 0) (he : fileE fs i = e) (h0 : e ≠ 0) : treeF fs = e := by
  unfold treeF
  rw [if_neg (by omega), find_at (i := i) (by simpa using hi) (fun j hj => by simp [hu j hj]) (by simp [he, h0])]
  simp [he]
theorem tree_done {fs : List FileL} (h64 : fs.length ≤ 64) (hu : ∀ j, j < fs.length → fileE fs j = 0) : treeF fs = 0 := by
  unfold treeF
  rw [if_neg (by omega), List.find?_eq_none.2]
  · rfl
  · intro x hx
    obtain ⟨j, hj, rfl⟩ := List.mem_map.1 hx
    simp [hu j (List.mem_range.1 hj)]
theorem tree_full {fs : List FileL} (h : 64 < fs.length) : treeF fs = 3 := by unfold treeF; rw [if_pos h]

theorem fileE_name {fs : List FileL} {i : Nat} (h : pathF (fs.getD i default).1 = false) : fileE fs i = 10 := by unfold fileE; rw [if_pos h]
theorem fileE_bytes {fs : List FileL} {i e : Nat} (h : pathF (fs.getD i default).1 = true) (he : bytesF (fs.getD i default).2 = e) (h0 : e ≠ 0) : fileE fs i = e := by
  unfold fileE; rw [if_neg (by rw [h]; simp), if_pos (by rw [he]; exact h0), he]
theorem fileE_there {fs : List FileL} {i : Nat} (h : pathF (fs.getD i default).1 = true) (he : bytesF (fs.getD i default).2 = 0) (hc : clashesF (fs.getD i default).1 (aheadF fs i) = true) : fileE fs i = 11 := by
  unfold fileE; rw [if_neg (by rw [h]; simp), if_neg (by rw [he]; simp), if_pos hc]
theorem fileE_ok {fs : List FileL} {i : Nat} (h : pathF (fs.getD i default).1 = true) (he : bytesF (fs.getD i default).2 = 0) (hc : clashesF (fs.getD i default).1 (aheadF fs i) = false) : fileE fs i = 0 := by
  unfold fileE; rw [if_neg (by rw [h]; simp), if_neg (by rw [he]; simp), if_neg (by rw [hc]; simp)]

/-- Files that are a tree. -/
def TreeOk (fs : List FileL) : Prop := fs.length ≤ 64 ∧ (∀ i, i < fs.length → pathF (fs.getD i default).1 = true ∧ bytesF (fs.getD i default).2 = 0) ∧ ∀ i j, i < fs.length → j < fs.length → i ≠ j → clashF (fs.getD i default).1 (fs.getD j default).1 = false

theorem ahead_none {fs : List FileL} {i : Nat} (hi : i ≤ fs.length) : clashesF (fs.getD i default).1 (aheadF fs i) = false ↔ ∀ j, j < i → clashF (fs.getD i default).1 (fs.getD j default).1 = false := by
  unfold clashesF aheadF
  rw [List.any_eq_false]
  constructor
  · intro h j hj
    have := h (fs.getD j default).1 (List.mem_map.2 ⟨_, by
      rw [List.getD_eq_getElem?_getD, List.getElem?_eq_getElem (by omega)]
      exact List.mem_take_iff_getElem.2 ⟨j, by omega, rfl⟩, rfl⟩)
    simpa using this
  · intro h x hx
    obtain ⟨y, hy, rfl⟩ := List.mem_map.1 hx
    obtain ⟨j, hj, rfl⟩ := List.mem_take_iff_getElem.1 hy
    have := h j (by omega)
    rw [List.getD_eq_getElem?_getD (i := j), List.getElem?_eq_getElem (by omega)] at this
    simpa using this
theorem fileE_zero {fs : List FileL} {i : Nat} : fileE fs i = 0 ↔ pathF (fs.getD i default).1 = true ∧ bytesF (fs.getD i default).2 = 0 ∧ clashesF (fs.getD i default).1 (aheadF fs i) = false := by
  constructor
  · intro h
    unfold fileE at h
    split at h
    · cases h
    · rename_i h1
      split at h
      · rename_i h2; exact absurd h h2
      · rename_i h2
        split at h
        · cases h
        · rename_i h3
          exact ⟨by simpa using h1, by simpa using h2, by simpa using h3⟩
  · rintro ⟨h1, h2, h3⟩
    exact fileE_ok h1 h2 h3
theorem tree_iff (fs : List FileL) : treeF fs = 0 ↔ TreeOk fs := by
  constructor
  · intro h
    rcases Nat.lt_or_ge 64 fs.length with hl | hl
    · rw [tree_full hl] at h; cases h
    · have hall : ∀ i, i < fs.length → fileE fs i = 0 := by
        intro i
        induction i using Nat.strongRecOn with
        | ind i ih =>
          intro hi
          apply Classical.byContradiction
          intro hne
          exact hne (tree_stop hl hi (fun j hj => ih j hj (by omega)) rfl hne ▸ h)
      refine ⟨hl, fun i hi => ⟨(fileE_zero.1 (hall i hi)).1, (fileE_zero.1 (hall i hi)).2.1⟩, fun i j hi hj hne => ?_⟩
      rcases Nat.lt_or_ge i j with hij | hij
      · rw [clashF_comm]
        exact (ahead_none (by omega)).1 (fileE_zero.1 (hall j hj)).2.2 i hij
      · exact (ahead_none (by omega)).1 (fileE_zero.1 (hall i hi)).2.2 j (by omega)
  · rintro ⟨h1, h2, h3⟩
    refine tree_done h1 fun i hi => fileE_zero.2 ⟨(h2 i hi).1, (h2 i hi).2, (ahead_none (by omega)).2 fun j hj => h3 i j hi (by omega) (by omega)⟩

/-- Files taken from a tree's, each at most once. -/
theorem TreeOk.some {fs gs : List FileL} (h : TreeOk fs) (f : Nat → Nat) (hl : gs.length ≤ fs.length) (hf : ∀ i, i < gs.length → f i < fs.length) (hi : ∀ i j, i < gs.length → j < gs.length → f i = f j → i = j) (he : ∀ i, i < gs.length → gs.getD i default = fs.getD (f i) default) : TreeOk gs := by
  obtain ⟨h1, h2, h3⟩ := h
  refine ⟨by omega, fun i hi' => ?_, fun i j hi' hj' hne => ?_⟩
  · rw [he i hi']; exact h2 _ (hf i hi')
  · rw [he i hi', he j hj']
    exact h3 _ _ (hf i hi') (hf j hj') fun e => hne (hi i j hi' hj' e)
theorem TreeOk.less {fs : List FileL} (h : TreeOk fs) (a : Nat) (ha : a < fs.length) : TreeOk (fs.take a ++ fs.drop (a + 1)) := by
  have hlen : (fs.take a ++ fs.drop (a + 1)).length = fs.length - 1 := by simp; omega
  refine h.some (fun i => if i < a then i else i + 1) (by omega) (fun i hi => by split <;> omega) (fun i j hi hj e => by split at e <;> split at e <;> omega) fun i hi => ?_
  rw [List.getD_eq_getElem?_getD, List.getD_eq_getElem?_getD]
  split
  · rw [List.getElem?_append_left (by simp; omega), List.getElem?_take_of_lt (by omega)]
  · rw [List.getElem?_append_right (by simp; omega), List.getElem?_drop]
    congr 2
    simp; omega
theorem TreeOk.turned {fs : List FileL} (h : TreeOk fs) (a b : Nat) (ha : a < fs.length) (hb : b < fs.length) : TreeOk ((fs.set a (fs.getD b default)).set b (fs.getD a default)) := by
  refine h.some (fun i => if i = b then a else if i = a then b else i) (by simp) (fun i hi => by simp at hi; split; omega; split <;> omega) (fun i j hi hj e => by
    split at e
    · split at e
      · omega
      · split at e <;> omega
    · split at e
      · split at e
        · omega
        · split at e <;> omega
      · split at e
        · omega
        · split at e <;> omega) fun i hi => ?_
  simp at hi
  rw [List.getD_eq_getElem?_getD, List.getElem?_set, List.getElem?_set]
  by_cases h1 : b = i
  · subst h1; rw [if_pos rfl, if_pos (by simpa using hi), if_pos rfl]; rfl
  · rw [if_neg h1, if_neg (Ne.symm h1)]
    by_cases h2 : a = i
    · subst h2; rw [if_pos rfl, if_pos hi, if_pos rfl]; rfl
    · rw [if_neg h2, if_neg (Ne.symm h2), List.getD_eq_getElem?_getD]
end Go.Proofs.YtfoalaoanpbmeaaDoor

namespace Go.Proofs.YtfoalaoanpbmeaaDoor
open Go.RowKit

/-- The cells of files. -/
def fcells (L : List FileL) : List Value := L.flatMap fun f => [St f.1, St f.2]
theorem fcells_length (L : List FileL) : (fcells L).length = L.length * 2 := by
  induction L with
  | nil => rfl
  | cons f L ih => unfold fcells at ih ⊢; rw [List.flatMap_cons, List.length_append, ih]; simp; omega
theorem fcells_append (L M : List FileL) : fcells (L ++ M) = fcells L ++ fcells M := by simp [fcells]
theorem fcells_one (L : List FileL) : ∀ v ∈ fcells L, v.oneCell' = true := by
  intro v hv
  obtain ⟨f, _, h⟩ := List.mem_flatMap.1 hv
  simp at h
  rcases h with rfl | rfl <;> rfl
theorem fcells_at {L : List FileL} : ∀ {j : Nat}, j < L.length → (fcells L)[j * 2]? = some (St (L.getD j default).1) ∧ (fcells L)[j * 2 + 1]? = some (St (L.getD j default).2) := by
  induction L with
  | nil => intro j hj; simp at hj
  | cons f L ih =>
    intro j hj
    have e : fcells (f :: L) = St f.1 :: St f.2 :: fcells L := by simp [fcells]
    cases j with
    | zero => rw [e]; exact ⟨rfl, rfl⟩
    | succ j =>
      have h := ih (j := j) (by simpa using hj)
      rw [e, show (j + 1) * 2 = j * 2 + 1 + 1 from by omega]
      simp only [List.getElem?_cons_succ, List.getD_cons_succ]
      exact h

/-- A slice value reads as these files. -/
def FilesAt (w : World) (a : Option Addr) (n c : Nat) (L : List FileL) : Prop :=
  L.length = n ∧ n ≤ c ∧ c ≤ 9223372036854775807 ∧ ((n = 0 ∧ c = 0) ∨ ∃ b off, a = some ⟨b, off, none⟩ ∧ ∀ j, j < n → w.cell? ⟨b, off + j * 2, none⟩ = some (.string (strB (L.getD j default).1)) ∧ w.cell? ⟨b, off + j * 2 + 1, none⟩ = some (.string (strB (L.getD j default).2)))
section
variable {w w' : World} {a : Option Addr} {n c : Nat} {L : List FileL}
theorem FilesAt.nil : FilesAt w none 0 0 [] := ⟨rfl, Nat.le_refl _, by omega, .inl ⟨rfl, rfl⟩⟩
theorem FilesAt.below (h : FilesAt w a n c L) (hb : Below w.heap.size w w') : FilesAt w' a n c L := by
  obtain ⟨h1, h2, h3, h4⟩ := h
  refine ⟨h1, h2, h3, ?_⟩
  rcases h4 with h4 | ⟨b, off, ha, hc⟩
  · exact .inl h4
  · exact .inr ⟨b, off, ha, fun j hj => ⟨(hb.cell (World.block_lt_of_cell? _ _ (hc j hj).1)).trans (hc j hj).1, (hb.cell (World.block_lt_of_cell? _ _ (hc j hj).2)).trans (hc j hj).2⟩⟩
theorem FilesAt.some_ (h : FilesAt w a n c L) (hn : 0 < n) : ∃ b off, a = some ⟨b, off, none⟩ := by
  rcases h.2.2.2 with ⟨h0, _⟩ | ⟨b, off, ha, _⟩
  · omega
  · exact ⟨b, off, ha⟩
theorem FilesAt.cell {b off : Nat} (h : FilesAt w (some ⟨b, off, none⟩) n c L) (j : Nat) (hj : j < n) : w.cell? ⟨b, off + j * 2, none⟩ = some (.string (strB (L.getD j default).1)) ∧ w.cell? ⟨b, off + j * 2 + 1, none⟩ = some (.string (strB (L.getD j default).2)) := by
  rcases h.2.2.2 with ⟨h0, _⟩ | ⟨b', off', ha, hc⟩
  · omega
  · simp only [Option.some.injEq, Addr.mk.injEq, and_true] at ha
    obtain ⟨rfl, rfl⟩ := ha
    exact hc j hj
end
end Go.Proofs.YtfoalaoanpbmeaaDoor
