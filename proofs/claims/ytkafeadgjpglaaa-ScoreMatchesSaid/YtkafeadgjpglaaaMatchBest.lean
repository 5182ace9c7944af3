/-
  Pairs told one by one in their ranks: each time the best that is still free. Plain.
-/
import Derived.Test.YtkafeadgjpglaaaMatch
namespace Go.Proofs.Ytkafeadgjpglaaa
open Go.RowKit

theorem free_anti {T U : List (Nat × Nat)} (h : ∀ q ∈ T, q ∈ U) {p : Nat × Nat} (hf : freeB T p = false) : freeB U p = false := by
  unfold freeB at hf ⊢
  rw [decide_eq_false_iff_not] at hf ⊢
  exact fun hu => hf fun q hq => hu q (h q hq)
theorem fold_more (P : List (Nat × Nat)) : ∀ (R : List Nat) (T : List (Nat × Nat)), ∀ q ∈ T, q ∈ R.foldl (stepG P) T
  | [], _, _, hq => hq
  | i :: R, T, q, hq => by
    rw [List.foldl_cons]
    refine fold_more P R _ q ?_
    unfold stepG
    split
    · exact List.mem_append_left _ hq
    · exact hq
theorem free_told {T : List (Nat × Nat)} {p : Nat × Nat} (h : p ∈ T) : freeB T p = false := by
  unfold freeB
  rw [decide_eq_false_iff_not]
  exact fun hf => (hf p h).1 rfl
/-- What was come to is free no more. -/
theorem fold_passed (P : List (Nat × Nat)) : ∀ (R : List Nat) (T : List (Nat × Nat)), ∀ i ∈ R, freeB (R.foldl (stepG P) T) (P.getD i (0, 0)) = false
  | [], _, _, hi => by cases hi
  | j :: R, T, i, hi => by
    rw [List.foldl_cons]
    rcases List.mem_cons.1 hi with rfl | hi
    · refine free_anti (fold_more P R _) ?_
      unfold stepG
      split
      · exact free_told (List.mem_append_right _ (List.mem_singleton.2 rfl))
      · rename_i h
        exact Bool.eq_false_iff.2 h
    · exact fold_passed P R _ i hi
theorem fold_skip (P : List (Nat × Nat)) : ∀ (R : List Nat) (T : List (Nat × Nat)), (∀ i ∈ R, freeB T (P.getD i (0, 0)) = false) → R.foldl (stepG P) T = T
  | [], _, _ => rfl
  | j :: R, T, h => by
    rw [List.foldl_cons]
    have e : stepG P T j = T := by
      unfold stepG
      rw [if_neg (by rw [h j (List.mem_cons_self ..)]; simp)]
    rw [e]
    exact fold_skip P R T fun i hi => h i (List.mem_cons_of_mem _ hi)

/-- Told as far as some rank. -/
def Upon (P : List (Nat × Nat)) (R : List Nat) (T : List (Nat × Nat)) : Prop := ∃ k, k ≤ R.length ∧ T = greedyF P (R.take k)
theorem Upon.zero (P : List (Nat × Nat)) (R : List Nat) : Upon P R [] := ⟨0, Nat.zero_le _, rfl⟩
theorem greedy_cut (P : List (Nat × Nat)) (R S : List Nat) : greedyF P (R ++ S) = S.foldl (stepG P) (greedyF P R) := by unfold greedyF; rw [List.foldl_append]
/-- Nothing is free any more. -/
theorem Upon.all {P : List (Nat × Nat)} {R : List Nat} {T : List (Nat × Nat)} (h : Upon P R T) (hf : ∀ i ∈ R, freeB T (P.getD i (0, 0)) = false) : greedyF P R = T := by
  obtain ⟨k, hk, rfl⟩ := h
  have e := greedy_cut P (R.take k) (R.drop k)
  rw [List.take_append_drop] at e
  rw [e]
  exact fold_skip P _ _ fun i hi => hf i (List.mem_of_mem_drop hi)
/-- The best that is free is told next. -/
theorem Upon.next {P : List (Nat × Nat)} {V : List Nat} {R : List Nat} {T : List (Nat × Nat)} (hR : Ranked V R) (h : Upon P R T) {e : Nat} (he : e < V.length) (hf : freeB T (P.getD e (0, 0)) = true)
    (hb : ∀ j, j < V.length → freeB T (P.getD j (0, 0)) = true → ¬ rankF V j e < 0) : Upon P R (T ++ [P.getD e (0, 0)]) := by
  obtain ⟨k, hk, rfl⟩ := h
  have hm : e ∈ R := hR.1.mem_iff.2 (List.mem_range.2 he)
  obtain ⟨m, hml, hme⟩ := List.mem_iff_getElem.1 hm
  have hkm : k ≤ m := by
    rcases Nat.lt_or_ge m k with h | h
    · have hi : e ∈ R.take k := by
        rw [List.mem_iff_getElem]
        exact ⟨m, by rw [List.length_take]; omega, by rw [List.getElem_take]; exact hme⟩
      have := fold_passed P (R.take k) [] e hi
      unfold greedyF at hf
      rw [this] at hf
      cases hf
    · exact h
  refine ⟨m + 1, hml, ?_⟩
  have e1 : R.take (m + 1) = R.take k ++ ((R.take m).drop k ++ [e]) := by
    rw [List.take_succ_eq_append_getElem hml, hme, ← List.append_assoc]
    congr 1
    have := List.take_append_drop k (R.take m)
    rw [List.take_take, Nat.min_eq_left hkm] at this
    exact this.symm
  rw [e1, greedy_cut, List.foldl_append]
  rw [fold_skip P ((R.take m).drop k) _ (fun i hi => by
    have h1 : i ∈ R.take m := List.mem_of_mem_drop hi
    obtain ⟨p, hp, hpe⟩ := List.mem_iff_getElem.1 h1
    rw [List.length_take] at hp
    rw [List.getElem_take] at hpe
    have h2 := List.pairwise_iff_getElem.1 hR.2 p m (by omega) hml (by omega)
    rw [hpe, hme] at h2
    have h3 : i < V.length := hR.lt (List.mem_of_mem_take h1)
    cases hq : freeB (greedyF P (R.take k)) (P.getD i (0, 0))
    · rfl
    · exact absurd h2 (hb i h3 hq))]
  show _ = stepG P (greedyF P (R.take k)) e
  unfold stepG
  rw [if_pos hf]

/-! ### The best so far, of the first so many candidates -/
/-- None is free yet (row -1, column -1), or this one is the best of those. -/
def BestFree (C : List ((Nat × Nat) × Nat)) (T : List (Nat × Nat)) (r c : Int) : Prop :=
  (r = -1 ∧ c = -1 ∧ ∀ p ∈ C, freeB T p.1 = false) ∨
  ∃ (e : Nat) (p : (Nat × Nat) × Nat), C[e]? = some p ∧ r = (p.1.1 : Int) ∧ c = (p.1.2 : Int) ∧ freeB T p.1 = true ∧ ∀ (j : Nat) (q : (Nat × Nat) × Nat), C[j]? = some q → freeB T q.1 = true → kf p.2 < kf q.2 ∨ (kf p.2 = kf q.2 ∧ e ≤ j)
theorem BestFree.zero (T : List (Nat × Nat)) : BestFree [] T (-1) (-1) := .inl ⟨rfl, rfl, fun p hp => by cases hp⟩
/-- One that isn't free changes nothing. -/
theorem BestFree.skip {C : List ((Nat × Nat) × Nat)} {T : List (Nat × Nat)} {r c : Int} (h : BestFree C T r c) (p : (Nat × Nat) × Nat) (hp : freeB T p.1 = false) : BestFree (C ++ [p]) T r c := by
  rcases h with ⟨h1, h2, h3⟩ | ⟨e, q, h1, h2, h3, h4, h5⟩
  · refine .inl ⟨h1, h2, fun q hq => ?_⟩
    rcases List.mem_append.1 hq with hq | hq
    · exact h3 q hq
    · rw [List.mem_singleton.1 hq]; exact hp
  · have he : e < C.length := (List.getElem?_eq_some_iff.1 h1).1
    refine .inr ⟨e, q, by rw [List.getElem?_append_left he]; exact h1, h2, h3, h4, fun j u hu hf => ?_⟩
    rcases Nat.lt_or_ge j C.length with hj | hj
    · rw [List.getElem?_append_left hj] at hu
      exact h5 j u hu hf
    · rw [List.getElem?_append_right hj] at hu
      have : u = p := by
        cases hd : j - C.length with
        | zero => rw [hd] at hu; simpa using hu.symm
        | succ d => rw [hd] at hu; simp at hu
      rw [this, hp] at hf
      cases hf
/-- A first one that is free. -/
theorem BestFree.first {C : List ((Nat × Nat) × Nat)} {T : List (Nat × Nat)} {c : Int} (h : BestFree C T (-1) c) (p : (Nat × Nat) × Nat) (hp : freeB T p.1 = true) : BestFree (C ++ [p]) T p.1.1 p.1.2 := by
  rcases h with ⟨h1, h2, h3⟩ | ⟨e, q, h1, h2, h3, h4, h5⟩
  · refine .inr ⟨C.length, p, by simp, rfl, rfl, hp, fun j u hu hf => ?_⟩
    rcases Nat.lt_or_ge j C.length with hj | hj
    · rw [List.getElem?_append_left hj] at hu
      rw [h3 u (List.mem_of_getElem? hu)] at hf
      cases hf
    · rw [List.getElem?_append_right hj] at hu
      have : u = p := by
        cases hd : j - C.length with
        | zero => rw [hd] at hu; simpa using hu.symm
        | succ d => rw [hd] at hu; simp at hu
      rw [this]
      exact .inr ⟨rfl, hj⟩
  · omega
/-- A further one that is free: it is better, or it isn't. -/
theorem BestFree.other {C : List ((Nat × Nat) × Nat)} {T : List (Nat × Nat)} {r c : Int} (h : BestFree C T r c) (h0 : 0 ≤ r) (p : (Nat × Nat) × Nat) (hp : freeB T p.1 = true) :
    ∃ q ∈ C, r = (q.1.1 : Int) ∧ c = (q.1.2 : Int) ∧ (kf p.2 < kf q.2 → BestFree (C ++ [p]) T p.1.1 p.1.2) ∧ (¬ kf p.2 < kf q.2 → BestFree (C ++ [p]) T r c) := by
  rcases h with ⟨h1, h2, h3⟩ | ⟨e, q, h1, h2, h3, h4, h5⟩
  · omega
  · have he : e < C.length := (List.getElem?_eq_some_iff.1 h1).1
    refine ⟨q, List.mem_of_getElem? h1, h2, h3, fun hk => .inr ⟨C.length, p, by simp, rfl, rfl, hp, fun j u hu hf => ?_⟩, fun hk => .inr ⟨e, q, by rw [List.getElem?_append_left he]; exact h1, h2, h3, h4, fun j u hu hf => ?_⟩⟩
    · rcases Nat.lt_or_ge j C.length with hj | hj
      · rw [List.getElem?_append_left hj] at hu
        have := h5 j u hu hf
        omega
      · rw [List.getElem?_append_right hj] at hu
        have : u = p := by
          cases hd : j - C.length with
          | zero => rw [hd] at hu; simpa using hu.symm
          | succ d => rw [hd] at hu; simp at hu
        rw [this]
        exact .inr ⟨rfl, hj⟩
    · rcases Nat.lt_or_ge j C.length with hj | hj
      · rw [List.getElem?_append_left hj] at hu
        exact h5 j u hu hf
      · rw [List.getElem?_append_right hj] at hu
        have : u = p := by
          cases hd : j - C.length with
          | zero => rw [hd] at hu; simpa using hu.symm
          | succ d => rw [hd] at hu; simp at hu
        rw [this]
        omega
/-- At the end of a round: no more is told, or one more is. -/
theorem upon_end {C : List ((Nat × Nat) × Nat)} {T : List (Nat × Nat)} {c : Int} (h64 : W64 (C.map Prod.snd)) (h : Upon (C.map Prod.fst) (rankS (C.map Prod.snd)) T) (hb : BestFree C T (-1) c) :
    greedyF (C.map Prod.fst) (rankS (C.map Prod.snd)) = T := by
  refine h.all fun i hi => ?_
  have hl : i < C.length := by simpa using (rankS_ranked h64).lt hi
  rcases hb with ⟨_, _, h3⟩ | ⟨e, q, _, h2, _⟩
  · have e : (C.map Prod.fst).getD i (0, 0) = (C[i]).1 := by simp [hl]
    rw [e]
    exact h3 _ (List.getElem_mem hl)
  · omega
theorem upon_more {C : List ((Nat × Nat) × Nat)} {T : List (Nat × Nat)} {r c : Int} (h64 : W64 (C.map Prod.snd)) (h : Upon (C.map Prod.fst) (rankS (C.map Prod.snd)) T) (hb : BestFree C T r c) (h0 : 0 ≤ r) :
    ∃ q ∈ C, r = (q.1.1 : Int) ∧ c = (q.1.2 : Int) ∧ freeB T q.1 = true ∧ Upon (C.map Prod.fst) (rankS (C.map Prod.snd)) (T ++ [q.1]) := by
  rcases hb with ⟨h1, _, _⟩ | ⟨e, q, h1, h2, h3, h4, h5⟩
  · omega
  · have he : e < C.length := (List.getElem?_eq_some_iff.1 h1).1
    have hq : C[e] = q := (List.getElem?_eq_some_iff.1 h1).2
    have e1 : (C.map Prod.fst).getD e (0, 0) = q.1 := by simp [he, hq]
    have e2 : (C.map Prod.snd).getD e 0 = q.2 := by simp [he, hq]
    refine ⟨q, List.mem_of_getElem? h1, h2, h3, h4, ?_⟩
    have hn := Upon.next (rankS_ranked h64) h (e := e) (by simpa using he) (by rw [e1]; exact h4) (fun j hj hf => by
      have hj' : j < C.length := by simpa using hj
      have e3 : (C.map Prod.fst).getD j (0, 0) = (C[j]).1 := by simp [hj']
      have e4 : (C.map Prod.snd).getD j 0 = (C[j]).2 := by simp [hj']
      rw [rankF_lt h64, e2, e4]
      rw [e3] at hf
      have := h5 j C[j] (by simp [hj']) hf
      omega)
    rw [e1] at hn
    exact hn
end Go.Proofs.Ytkafeadgjpglaaa
