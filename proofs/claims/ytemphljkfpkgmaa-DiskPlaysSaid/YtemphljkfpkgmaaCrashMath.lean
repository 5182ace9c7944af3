/-
  A crash, file by file, plainly.
-/
import Derived.Test.YtemphljkfpkgmaaDkMathAll
namespace Go.Proofs.Ytemphljkfpkgmaa

def atD (L : Dir) (i : Nat) : Nat := (L.getD i ([], 0)).2
def cutTo (files : List FileD) (L : Dir) (fs : List Int) : Nat → List FileD
  | 0 => files
  | i + 1 => (cutTo files L fs i).set (atD L i) (cutF (files.getD (atD L i) ([], 0)) fs i)
def usedC (files : List FileD) (L : Dir) (fs : List Int) : Nat → Nat
  | 0 => 0
  | i + 1 => usedC files L fs i + cutN (files.getD (atD L i) ([], 0)) fs i
theorem cutTo_length (files : List FileD) (L : Dir) (fs : List Int) (i : Nat) : (cutTo files L fs i).length = files.length := by
  induction i with
  | zero => rfl
  | succ i ih => simp [cutTo, ih]
theorem atD_at {L : Dir} {i : Nat} (h : i < L.length) : atD L i = L[i].2 := by simp [atD, List.getD_eq_getElem?_getD, h]
theorem atD_inj {L : Dir} (hn : (ids L).Nodup) {i j : Nat} (hi : i < L.length) (hj : j < L.length) (h : atD L i = atD L j) : i = j := by
  rw [atD_at hi, atD_at hj] at h
  have h1 : (ids L)[i]'(by simpa [ids] using hi) = (ids L)[j]'(by simpa [ids] using hj) := by simpa [ids] using h
  exact (List.getElem_inj hn).1 h1
theorem getD_set (l : List FileD) (k : Nat) (x : FileD) (i : Nat) (hk : k < l.length) : (l.set k x).getD i ([], 0) = if i = k then x else l.getD i ([], 0) := by
  simp only [List.getD_eq_getElem?_getD]
  by_cases e : i = k
  · subst e; simp [hk]
  · rw [if_neg e, List.getElem?_set_ne (fun h => e h.symm)]
theorem cutTo_later {files : List FileD} {L : Dir} (fs : List Int) (hn : (ids L).Nodup) (hl : ∀ i, i < L.length → atD L i < files.length) {i j : Nat} (hij : i ≤ j) (hj : j < L.length) : (cutTo files L fs i).getD (atD L j) ([], 0) = files.getD (atD L j) ([], 0) := by
  induction i with
  | zero => rfl
  | succ i ih =>
    unfold cutTo
    rw [getD_set _ _ _ _ (by rw [cutTo_length]; exact hl i (by omega)), if_neg (fun e => by have := atD_inj hn hj (by omega) e; omega)]
    exact ih (by omega)
theorem cutTo_done {files : List FileD} {L : Dir} (fs : List Int) (hn : (ids L).Nodup) (hl : ∀ i, i < L.length → atD L i < files.length) {i j : Nat} (hij : j < i) (hi : i ≤ L.length) : (cutTo files L fs i).getD (atD L j) ([], 0) = cutF (files.getD (atD L j) ([], 0)) fs j := by
  induction i with
  | zero => omega
  | succ i ih =>
    unfold cutTo
    rw [getD_set _ _ _ _ (by rw [cutTo_length]; exact hl i (by omega))]
    by_cases e : j = i
    · subst e; rw [if_pos rfl]
    · rw [if_neg (fun h => e (atD_inj hn (by omega) (by omega) h))]
      exact ih (by omega) (by omega)
theorem usedC_le {files : List FileD} {q : Nat} (hq : ∀ k, (files.getD k ([], 0)).2 ≤ (files.getD k ([], 0)).1.length ∧ (files.getD k ([], 0)).1.length ≤ q) (L : Dir) (fs : List Int) (i : Nat) : usedC files L fs i ≤ i * q := by
  induction i with
  | zero => simp [usedC]
  | succ i ih =>
    have := (cut_le _ fs i (hq (atD L i)).1).2
    have := (hq (atD L i)).2
    unfold usedC
    rw [Nat.succ_mul]
    omega
theorem used_crash {S : DS} (h : Inv S) (fs : List Int) : usedS (crashS S fs) = usedC S.files (leftS S fs) fs (leftS S fs).length := by
  show usedOf (leftFiles S.files (leftS S fs) fs) (leftNow (leftS S fs)) = _
  generalize hL : leftS S fs = L
  have key : ∀ n, n ≤ L.length → ((L.take n).mapIdx fun i e => (cutF (S.files.getD e.2 ([], 0)) fs i).1.length).sum = usedC S.files L fs n := by
    intro n hn
    induction n with
    | zero => simp [usedC]
    | succ n ih =>
      have h1 := file_syn h (atD L n)
      have h2 := (cut_le _ fs n h1.1).2
      rw [List.take_succ_eq_append_getElem (by omega), List.mapIdx_append, List.sum_append, ih (by omega)]
      have e1 : usedC S.files L fs (n + 1) = usedC S.files L fs n + cutN (S.files.getD (atD L n) ([], 0)) fs n := rfl
      rw [e1]
      rw [atD_at (by omega)] at h2 ⊢
      generalize usedC S.files L fs n = u
      simp only [List.getD_eq_getElem?_getD] at h2 ⊢
      simp [cutF, show min n L.length = n from by omega]
      omega
  have e := key L.length (Nat.le_refl _)
  rw [List.take_length] at e
  rw [← e]
  unfold usedOf leftNow
  congr 1
  apply List.ext_getElem (by simp)
  intro i h1 h2
  have hi : i < L.length := by simpa using h1
  simp [leftFiles, List.getD_eq_getElem?_getD, hi]
theorem fate_drop (fs : List Int) (i c : Nat) : fateF (fs.drop i) 0 c = fateF fs i c := by
  unfold fateF
  rw [List.getElem?_drop, Nat.add_zero]
theorem fate_lt2 (fs : List Int) (i : Nat) {c : Nat} (hc : 0 < c) : fateF fs i c ≤ c - 1 := by have := fate_lt fs i hc; omega
#print axioms used_crash
end Go.Proofs.Ytemphljkfpkgmaa
