/-
  Merged: OrdMath, OrdCmp, OrdRefCmp, IdList, IdStep, IdFns, IdRow, IdSortMath, IdMerge, IdSort, IdCompMath, IdSet, IdOne.
-/
import Derived.Below
import Derived.Test.YtcnhifkpflaibaaDoorIds
import Derived.Lib.Bytealg
import Derived.Lib.BytesEntry
import Derived.Deep.QuietTactic
import Derived.BigQuiet
import Derived.WalkSmall
import Derived.Deep.LoopGhost
import Derived.Still
import Derived.Tactics
import Derived.StillTailTactics
import Derived.IntWalk
import Derived.OwnWalk
import Derived.BigFrame
import Derived.Deep.RegionHeld
import Derived.Lib.SliceRun
import Derived.Great.BuildSlice
namespace Go.Proofs.YtcnhifkpflaibaaDoor

/-- Which stands ahead: by the first byte that differs. -/
def cmpF : List UInt8 → List UInt8 → Int
  | [], [] => 0
  | [], _ :: _ => -1
  | _ :: _, [] => 1
  | a :: r, b :: s => if a.toNat < b.toNat then -1 else if b.toNat < a.toNat then 1 else cmpF r s

theorem cmpF_range (a b : List UInt8) : cmpF a b = -1 ∨ cmpF a b = 0 ∨ cmpF a b = 1 := by
  induction a generalizing b with
  | nil => cases b <;> simp [cmpF]
  | cons x r ih =>
    cases b with
    | nil => simp [cmpF]
    | cons y s =>
      unfold cmpF
      repeat' split
      · exact .inl rfl
      · exact .inr (.inr rfl)
      · exact ih s

theorem cmpF_self (a : List UInt8) : cmpF a a = 0 := by
  induction a with
  | nil => rfl
  | cons x r ih => simp [cmpF, ih]

theorem cmpF_eq {a b : List UInt8} (h : cmpF a b = 0) : a = b := by
  induction a generalizing b with
  | nil => cases b with | nil => rfl | cons y s => simp [cmpF] at h
  | cons x r ih =>
    cases b with
    | nil => simp [cmpF] at h
    | cons y s =>
      unfold cmpF at h
      split at h
      · omega
      · split at h
        · omega
        · have hxy : x = y := UInt8.toNat_inj.1 (by omega)
          rw [hxy, ih h]

theorem cmpF_anti (a b : List UInt8) : cmpF b a = - cmpF a b := by
  induction a generalizing b with
  | nil => cases b <;> simp [cmpF]
  | cons x r ih =>
    cases b with
    | nil => simp [cmpF]
    | cons y s =>
      unfold cmpF
      by_cases h1 : x.toNat < y.toNat
      · rw [if_neg (by omega), if_pos h1, if_pos h1]; rfl
      · by_cases h2 : y.toNat < x.toNat
        · rw [if_pos h2, if_neg h1, if_pos h2]
        · rw [if_neg h2, if_neg h1, if_neg h1, if_neg h2]; exact ih s

/-- Ahead of what stands ahead. -/
theorem cmpF_trans {a b c : List UInt8} (h1 : cmpF a b ≤ 0) (h2 : cmpF b c ≤ 0) : cmpF a c ≤ 0 ∧ (cmpF a c = 0 → cmpF a b = 0 ∧ cmpF b c = 0) := by
  induction a generalizing b c with
  | nil =>
    cases b with
    | nil => exact ⟨h2, fun h => ⟨rfl, h⟩⟩
    | cons y s => cases c with | nil => simp [cmpF] at h2 | cons z t => simp [cmpF]
  | cons x r ih =>
    cases b with
    | nil => simp [cmpF] at h1
    | cons y s =>
      cases c with
      | nil => simp [cmpF] at h2
      | cons z t =>
        unfold cmpF at h1 h2 ⊢
        by_cases e1 : x.toNat < y.toNat
        · have e2 : ¬ z.toNat < y.toNat := fun h => by rw [if_neg (by omega), if_pos h] at h2; omega
          rw [if_pos (by omega)]
          exact ⟨by omega, fun h => by omega⟩
        · rw [if_neg e1] at h1
          by_cases e2 : y.toNat < x.toNat
          · rw [if_pos e2] at h1; omega
          · rw [if_neg e2] at h1
            have hxy : x.toNat = y.toNat := by omega
            by_cases e3 : y.toNat < z.toNat
            · rw [if_pos (by omega)]
              exact ⟨by omega, fun h => by omega⟩
            · rw [if_neg e3] at h2
              by_cases e4 : z.toNat < y.toNat
              · rw [if_pos e4] at h2; omega
              · rw [if_neg e4] at h2
                rw [if_neg (by omega), if_neg (by omega), if_neg e1, if_neg e2, if_neg e3, if_neg e4]
                exact ih h1 h2

/-- The first byte that differs decides. -/
theorem cmpF_at : ∀ (i : Nat) (a b : List UInt8), a.take i = b.take i → i < a.length → i < b.length →
    cmpF a b = if (a.getD i 0).toNat < (b.getD i 0).toNat then -1 else if (b.getD i 0).toNat < (a.getD i 0).toNat then 1 else cmpF (a.drop (i + 1)) (b.drop (i + 1))
  | 0, [], _, _, h, _ => by simp at h
  | 0, _ :: _, [], _, _, h => by simp at h
  | 0, x :: r, y :: s, _, _, _ => by simp [cmpF]
  | i + 1, [], _, _, h, _ => by simp at h
  | i + 1, _ :: _, [], _, _, h => by simp at h
  | i + 1, x :: r, y :: s, h, ha, hb => by
    simp only [List.take_succ_cons, List.cons.injEq] at h
    obtain ⟨rfl, h⟩ := h
    have := cmpF_at i r s h (by simpa using ha) (by simpa using hb)
    rw [cmpF, if_neg (by omega), if_neg (by omega), this]
    rfl

/-- Lists in order; sets. -/
def Up (l : List (List UInt8)) : Prop := l.Pairwise fun a b => cmpF a b ≤ 0
def SetF (l : List (List UInt8)) : Prop := l.Pairwise fun a b => cmpF a b < 0

theorem cmpF_le_trans {a b c : List UInt8} (h1 : cmpF a b ≤ 0) (h2 : cmpF b c ≤ 0) : cmpF a c ≤ 0 := (cmpF_trans h1 h2).1
theorem cmpF_lt_trans {a b c : List UInt8} (h1 : cmpF a b < 0) (h2 : cmpF b c < 0) : cmpF a c < 0 := by
  have h := cmpF_trans (a := a) (b := b) (c := c) (by omega) (by omega)
  rcases Int.lt_or_eq_of_le h.1 with h3 | h3
  · exact h3
  · have := (h.2 h3).1; omega
theorem cmpF_lt_le_trans {a b c : List UInt8} (h1 : cmpF a b < 0) (h2 : cmpF b c ≤ 0) : cmpF a c < 0 := by
  have h := cmpF_trans (a := a) (b := b) (c := c) (by omega) h2
  rcases Int.lt_or_eq_of_le h.1 with h3 | h3
  · exact h3
  · have := (h.2 h3).1; omega
theorem cmpF_le_lt_trans {a b c : List UInt8} (h1 : cmpF a b ≤ 0) (h2 : cmpF b c < 0) : cmpF a c < 0 := by
  have h := cmpF_trans (a := a) (b := b) (c := c) h1 (by omega)
  rcases Int.lt_or_eq_of_le h.1 with h3 | h3
  · exact h3
  · have := (h.2 h3).2; omega

theorem up_unique {l m : List (List UInt8)} (hl : Up l) (hm : Up m) (hp : l.Perm m) : l = m :=
  List.Perm.eq_of_pairwise (fun a b _ _ h1 h2 => cmpF_eq (by have := cmpF_anti a b; omega)) hl hm hp

theorem SetF.up {l : List (List UInt8)} (h : SetF l) : Up l := h.imp (fun h => by omega)
theorem SetF.nodup {l : List (List UInt8)} (h : SetF l) : l.Nodup := h.imp (fun {a b} h e => by subst e; rw [cmpF_self] at h; omega)

theorem set_unique {l m : List (List UInt8)} (hl : SetF l) (hm : SetF m) (h : ∀ x, x ∈ l ↔ x ∈ m) : l = m :=
  up_unique hl.up hm.up ((List.perm_ext_iff_of_nodup hl.nodup hm.nodup).2 h)

theorem set_of_up {l : List (List UInt8)} (h : Up l) (hn : l.Nodup) : SetF l := by
  unfold Up at h
  unfold SetF
  have := List.Pairwise.and h hn
  refine this.imp (fun {a b} h => ?_)
  rcases Int.lt_or_eq_of_le h.1 with h3 | h3
  · exact h3
  · exact absurd (cmpF_eq h3) h.2

/-- In order. -/
def leB (a b : List UInt8) : Bool := decide (cmpF a b ≤ 0)
def sortF (l : List (List UInt8)) : List (List UInt8) := l.mergeSort leB
theorem sortF_perm (l : List (List UInt8)) : (sortF l).Perm l := List.mergeSort_perm l leB
theorem sortF_up (l : List (List UInt8)) : Up (sortF l) := by
  have h := List.pairwise_mergeSort (le := leB) (fun a b c h1 h2 => by simp only [leB, decide_eq_true_eq] at h1 h2 ⊢; exact cmpF_le_trans h1 h2)
    (fun a b => by simp only [leB, Bool.or_eq_true, decide_eq_true_eq]; have := cmpF_anti a b; omega) l
  exact h.imp (fun h => by simpa [leB] using h)
theorem sortF_length (l : List (List UInt8)) : (sortF l).length = l.length := (sortF_perm l).length_eq
/-- Whatever is in order and has just these is it. -/
theorem sortF_of {l m : List (List UInt8)} (hu : Up m) (hp : m.Perm l) : m = sortF l := up_unique hu (sortF_up l) (hp.trans (sortF_perm l).symm)

/-- Each once. -/
def onceF : List (List UInt8) → List (List UInt8) → List (List UInt8)
  | out, [] => out
  | out, x :: r => onceF (if x ∈ out then out else out ++ [x]) r
theorem onceF_mem (l : List (List UInt8)) : ∀ out x, x ∈ onceF out l ↔ x ∈ out ∨ x ∈ l := by
  induction l with
  | nil => intro out x; simp [onceF]
  | cons y r ih =>
    intro out x
    rw [onceF, ih]
    by_cases h : y ∈ out
    · rw [if_pos h]
      simp only [List.mem_cons]
      constructor
      · rintro (h1 | h1)
        · exact .inl h1
        · exact .inr (.inr h1)
      · rintro (h1 | rfl | h1)
        · exact .inl h1
        · exact .inl h
        · exact .inr h1
    · rw [if_neg h]
      simp only [List.mem_append, List.mem_cons, List.not_mem_nil, or_false]
      rw [or_assoc]
theorem onceF_nodup (l : List (List UInt8)) : ∀ out, out.Nodup → (onceF out l).Nodup := by
  induction l with
  | nil => intro out h; exact h
  | cons y r ih =>
    intro out h
    rw [onceF]
    apply ih
    by_cases h1 : y ∈ out
    · rw [if_pos h1]; exact h
    · rw [if_neg h1, List.nodup_append]
      exact ⟨h, by simp, fun a ha b hb => by simp at hb; subst hb; exact fun e => h1 (e ▸ ha)⟩

/-- As a set. -/
def setF (l : List (List UInt8)) : List (List UInt8) := sortF (onceF [] l)
theorem setF_set (l : List (List UInt8)) : SetF (setF l) := set_of_up (sortF_up _) ((sortF_perm _).symm.nodup (onceF_nodup l [] List.nodup_nil))
theorem setF_mem (l : List (List UInt8)) (x : List UInt8) : x ∈ setF l ↔ x ∈ l := by
  unfold setF
  rw [(sortF_perm _).mem_iff, onceF_mem]
  simp
/-- Whatever is a set and has just these is it. -/
theorem setF_of {l m : List (List UInt8)} (hs : SetF m) (h : ∀ x, x ∈ m ↔ x ∈ l) : m = setF l := set_unique hs (setF_set l) (fun x => (h x).trans (setF_mem l x).symm)

/-- A list is a set, if each stands ahead of the next. -/
theorem setF_chain {l : List (List UInt8)} : SetF l ↔ ∀ i, i + 1 < l.length → cmpF (l.getD i []) (l.getD (i + 1) []) < 0 := by
  constructor
  · intro h i hi
    have := List.pairwise_iff_getElem.1 h i (i + 1) (by omega) hi (by omega)
    simpa [show i < l.length by omega, hi] using this
  · intro h
    refine List.pairwise_iff_getElem.2 (fun i j hi hj hij => ?_)
    have key : ∀ d i, i + d + 1 < l.length → cmpF (l.getD i []) (l.getD (i + d + 1) []) < 0 := by
      intro d
      induction d with
      | zero => intro i hi; exact h i hi
      | succ d ih =>
        intro i hi
        exact cmpF_lt_trans (ih i (by omega)) (h (i + d + 1) hi)
    have := key (j - i - 1) i (by omega)
    rw [show i + (j - i - 1) + 1 = j from by omega] at this
    simpa [hi, hj] using this

/-- How many of a list stand ahead of an id. -/
def aheadF (l : List (List UInt8)) (x : List UInt8) : Nat := (l.takeWhile fun a => decide (cmpF a x < 0)).length
theorem aheadF_le (l : List (List UInt8)) (x : List UInt8) : aheadF l x ≤ l.length := by unfold aheadF; exact (List.takeWhile_sublist _).length_le
theorem aheadF_lt {l : List (List UInt8)} {x : List UInt8} {i : Nat} (h : i < aheadF l x) : cmpF (l.getD i []) x < 0 := by
  induction l generalizing i with
  | nil => simp [aheadF] at h
  | cons a r ih =>
    unfold aheadF at h
    by_cases ha : cmpF a x < 0
    · rw [List.takeWhile_cons_of_pos (by simpa using ha)] at h
      cases i with
      | zero => exact ha
      | succ i => exact ih (by unfold aheadF; simpa using h)
    · rw [List.takeWhile_cons_of_neg (by simpa using ha)] at h
      simp at h
theorem aheadF_at {l : List (List UInt8)} {x : List UInt8} (h : aheadF l x < l.length) : 0 ≤ cmpF (l.getD (aheadF l x) []) x := by
  induction l with
  | nil => simp [aheadF] at h
  | cons a r ih =>
    by_cases ha : cmpF a x < 0
    · have e : aheadF (a :: r) x = aheadF r x + 1 := by unfold aheadF; rw [List.takeWhile_cons_of_pos (by simpa using ha)]; rfl
      rw [e] at h ⊢
      exact ih (by simpa using h)
    · have e : aheadF (a :: r) x = 0 := by unfold aheadF; rw [List.takeWhile_cons_of_neg (by simpa using ha)]; rfl
      rw [e]
      show 0 ≤ cmpF a x
      omega
/-- The place is the one: all ahead of it stand ahead, and what stands there doesn't. -/
theorem aheadF_of {l : List (List UInt8)} {x : List UInt8} {n : Nat} (hn : n ≤ l.length) (h1 : ∀ i, i < n → cmpF (l.getD i []) x < 0) (h2 : n < l.length → 0 ≤ cmpF (l.getD n []) x) : n = aheadF l x := by
  rcases Nat.lt_trichotomy n (aheadF l x) with h | h | h
  · have := aheadF_lt h
    have := h2 (by have := aheadF_le l x; omega)
    omega
  · exact h
  · have := h1 _ h
    have := aheadF_at (l := l) (x := x) (by omega)
    omega
/-- In a set an id is there just if it stands at its place. -/
theorem mem_at {l : List (List UInt8)} (hs : SetF l) (x : List UInt8) : x ∈ l ↔ aheadF l x < l.length ∧ l.getD (aheadF l x) [] = x := by
  constructor
  · intro h
    obtain ⟨i, hi, he⟩ := List.getElem_of_mem h
    have e : i = aheadF l x := aheadF_of (by omega) (fun j hj => by
        have := List.pairwise_iff_getElem.1 hs j i (by omega) hi hj
        rw [he] at this
        simpa [show j < l.length by omega] using this) (fun _ => by simp [hi, he, cmpF_self])
    rw [← e]
    exact ⟨hi, by simp [hi, he]⟩
  · rintro ⟨h1, h2⟩
    have : l.getD (aheadF l x) [] = l[aheadF l x] := by simp [h1]
    rw [← h2, this]
    exact List.getElem_mem _

/-- One more, put where it belongs: what stands ahead or is alike, it, what stands behind. -/
theorem insert_up {l : List (List UInt8)} (h : Up l) (x : List UInt8) (k : Nat) (hk : k ≤ l.length) (h1 : ∀ i, i < k → cmpF (l.getD i []) x ≤ 0) (h2 : ∀ i, k ≤ i → i < l.length → 0 < cmpF (l.getD i []) x) :
    Up (l.take k ++ x :: l.drop k) := by
  unfold Up at h ⊢
  rw [List.pairwise_append]
  refine ⟨h.sublist (List.take_sublist _ _), List.pairwise_cons.2 ⟨fun b hb => ?_, h.sublist (List.drop_sublist _ _)⟩, fun a ha b hb => ?_⟩
  · obtain ⟨i, hi, rfl⟩ := List.getElem_of_mem hb
    have hi' : k + i < l.length := by simp at hi; omega
    have := h2 (k + i) (by omega) hi'
    have ha := cmpF_anti (l.getD (k + i) []) x
    have e : (l.drop k)[i] = l.getD (k + i) [] := by simp [hi']
    rw [e]
    omega
  · obtain ⟨i, hi, rfl⟩ := List.getElem_of_mem ha
    have hik : i < k := by simp at hi; omega
    have hil : i < l.length := by omega
    have e : (l.take k)[i] = l.getD i [] := by simp [hil]
    rw [e]
    rcases List.mem_cons.1 hb with rfl | hb
    · exact h1 i hik
    · obtain ⟨j, hj, rfl⟩ := List.getElem_of_mem hb
      have hj' : k + j < l.length := by simp at hj; omega
      have := List.pairwise_iff_getElem.1 h i (k + j) hil hj' (by omega)
      simpa [hil] using this
theorem insert_perm (l : List (List UInt8)) (x : List UInt8) (k : Nat) : (l.take k ++ x :: l.drop k).Perm (l ++ [x]) := by
  have h : (l.take k ++ x :: l.drop k).Perm (x :: (l.take k ++ l.drop k)) := List.perm_middle
  rw [List.take_append_drop] at h
  exact h.trans (List.perm_append_singleton x l).symm
/-- A key: time, change, index. -/
structure KeyV where
  t : Int
  c : List UInt8
  i : Int

/-- Which of two keys stands ahead. -/
def keyF (a b : KeyV) : Int :=
  if a.t < b.t then -1 else if b.t < a.t then 1 else if cmpF a.c b.c = 0 then (if a.i < b.i then -1 else if b.i < a.i then 1 else 0) else cmpF a.c b.c

theorem keyF_range (a b : KeyV) : keyF a b = -1 ∨ keyF a b = 0 ∨ keyF a b = 1 := by
  have := cmpF_range a.c b.c
  unfold keyF
  repeat' split
  all_goals omega
theorem keyF_self (a : KeyV) : keyF a a = 0 := by simp [keyF, cmpF_self]
theorem keyF_eq {a b : KeyV} (h : keyF a b = 0) : a = b := by
  unfold keyF at h
  by_cases h1 : a.t < b.t
  · rw [if_pos h1] at h; omega
  · rw [if_neg h1] at h
    by_cases h2 : b.t < a.t
    · rw [if_pos h2] at h; omega
    · rw [if_neg h2] at h
      by_cases h3 : cmpF a.c b.c = 0
      · rw [if_pos h3] at h
        have e1 : a.t = b.t := by omega
        have e2 := cmpF_eq h3
        have e3 : a.i = b.i := by
          by_cases h4 : a.i < b.i
          · rw [if_pos h4] at h; omega
          · by_cases h5 : b.i < a.i
            · rw [if_neg h4, if_pos h5] at h; omega
            · omega
        cases a; cases b
        simp only at e1 e2 e3
        subst e1 e2 e3
        rfl
      · rw [if_neg h3] at h; exact absurd h h3
theorem keyF_anti (a b : KeyV) : keyF b a = - keyF a b := by
  have h := cmpF_anti a.c b.c
  unfold keyF
  rw [h]
  repeat' split
  all_goals omega
theorem keyF_trans {a b c : KeyV} (h1 : keyF a b ≤ 0) (h2 : keyF b c ≤ 0) : keyF a c ≤ 0 ∧ (keyF a c = 0 → keyF a b = 0 ∧ keyF b c = 0) := by
  have t1 := cmpF_range a.c b.c
  have t2 := cmpF_range b.c c.c
  have t3 := cmpF_range a.c c.c
  have t4 : cmpF a.c b.c ≤ 0 → cmpF b.c c.c ≤ 0 → cmpF a.c c.c ≤ 0 ∧ (cmpF a.c c.c = 0 → cmpF a.c b.c = 0 ∧ cmpF b.c c.c = 0) := cmpF_trans
  have t5 : cmpF a.c b.c = 0 → cmpF a.c c.c = cmpF b.c c.c := fun h => by rw [cmpF_eq h]
  have t6 : cmpF b.c c.c = 0 → cmpF a.c c.c = cmpF a.c b.c := fun h => by rw [cmpF_eq h]
  unfold keyF at h1 h2 ⊢
  generalize cmpF a.c b.c = x at *
  generalize cmpF b.c c.c = y at *
  generalize cmpF a.c c.c = z at *
  by_cases e1 : a.t < b.t
  · have e2 : ¬ c.t < b.t := fun h => by rw [if_neg (by omega), if_pos h] at h2; omega
    rw [if_pos (show a.t < c.t by omega)]
    exact ⟨by omega, fun h => by omega⟩
  · rw [if_neg e1] at h1
    by_cases e2 : b.t < a.t
    · rw [if_pos e2] at h1; omega
    · rw [if_neg e2] at h1
      by_cases e3 : b.t < c.t
      · rw [if_pos (show a.t < c.t by omega)]
        exact ⟨by omega, fun h => by omega⟩
      · rw [if_neg e3] at h2
        by_cases e4 : c.t < b.t
        · rw [if_pos e4] at h2; omega
        · rw [if_neg e4] at h2
          rw [if_neg (show ¬ a.t < c.t by omega), if_neg (show ¬ c.t < a.t by omega), if_neg e1, if_neg e2, if_neg e3, if_neg e4]
          by_cases hx : x = 0
          · by_cases hy : y = 0
            · have hz : z = 0 := by have := t5 hx; omega
              rw [if_pos hx] at h1
              rw [if_pos hy] at h2
              rw [if_pos hz, if_pos hx, if_pos hy]
              by_cases i1 : a.i < b.i
              · by_cases i2 : b.i < c.i
                · rw [if_pos (show a.i < c.i by omega)]; exact ⟨by omega, fun h => by omega⟩
                · by_cases i3 : c.i < b.i
                  · rw [if_neg i2, if_pos i3] at h2; omega
                  · rw [if_pos (show a.i < c.i by omega)]; exact ⟨by omega, fun h => by omega⟩
              · rw [if_neg i1] at h1
                by_cases i2 : b.i < a.i
                · rw [if_pos i2] at h1; omega
                · by_cases i3 : b.i < c.i
                  · rw [if_pos (show a.i < c.i by omega)]; exact ⟨by omega, fun h => by omega⟩
                  · rw [if_neg i3] at h2
                    by_cases i4 : c.i < b.i
                    · rw [if_pos i4] at h2; omega
                    · rw [if_neg (show ¬ a.i < c.i by omega), if_neg (show ¬ c.i < a.i by omega), if_neg i1, if_neg i2, if_neg i3, if_neg i4]
                      exact ⟨by omega, fun _ => ⟨rfl, rfl⟩⟩
            · have hz : z = y := t5 hx
              rw [if_neg hy] at h2
              rw [if_neg (show ¬ z = 0 by omega), if_neg hy]
              exact ⟨by omega, fun h => by omega⟩
          · rw [if_neg hx] at h1
            by_cases hy : y = 0
            · have hz : z = x := t6 hy
              rw [if_neg (show ¬ z = 0 by omega), if_neg hx]
              exact ⟨by omega, fun h => by omega⟩
            · rw [if_neg hy] at h2
              have := t4 h1 h2
              have hz : z ≠ 0 := fun h => hx (this.2 h).1
              rw [if_neg hz, if_neg hx, if_neg hy]
              exact this
/-- Places of keys, in their order: of the same keys the lesser place first. -/
def placeLe (ks : List KeyV) (i j : Nat) : Prop := keyF (ks.getD i ⟨0, [], 0⟩) (ks.getD j ⟨0, [], 0⟩) < 0 ∨ (keyF (ks.getD i ⟨0, [], 0⟩) (ks.getD j ⟨0, [], 0⟩) = 0 ∧ i ≤ j)
theorem places_unique {ks : List KeyV} {l m : List Nat} (hl : l.Pairwise (placeLe ks)) (hm : m.Pairwise (placeLe ks)) (hp : l.Perm m) : l = m :=
  List.Perm.eq_of_pairwise (fun a b _ _ h1 h2 => by
    have h := keyF_anti (ks.getD a ⟨0, [], 0⟩) (ks.getD b ⟨0, [], 0⟩)
    unfold placeLe at h1 h2
    omega) hl hm hp
#print axioms mem_at
#print axioms insert_up
#print axioms keyF_trans
end Go.Proofs.YtcnhifkpflaibaaDoor

namespace Go.Proofs.YtcnhifkpflaibaaDoor
open Go.RowKit

theorem retZ {a b : Int} (h : a = b) : Ending.returned (.int .i64 a) = .returned (.int .i64 b) := by rw [h]

theorem compareBytes_eq : ∀ a b : List UInt8, Lib.compareBytes a b = cmpF a b
  | [], [] => rfl
  | [], _ :: _ => rfl
  | _ :: _, [] => rfl
  | x :: a, y :: b => by
    unfold Lib.compareBytes cmpF
    rw [compareBytes_eq a b]
    simp only [UInt8.lt_iff_toNat_lt]

/-- What the entry reads off a slice of bytes. -/
theorem run_bytesOf {w : World} {a : Option Addr} {n c : Nat} {l : List UInt8} (h : Bytes w a n c l) :
    (Extern.Bytes.bytesOf (.slice a n c)).run Tryd.prog w = .ok (strB l) w := by
  obtain ⟨h1, h2, h3, h4⟩ := h
  rcases h4 with ⟨rfl, rfl⟩ | ⟨b, off, rfl, hc⟩
  · have : l = [] := List.length_eq_zero_iff.1 h1
    subst this
    cases a with
    | none => rfl
    | some ad => rfl
  · have hl := Lib.run_loadBytesX (P := Tryd.prog) w (l.map fun x => (x.toNat : Int)) ⟨b, off, none⟩ .empty (fun j x hj => by
      rw [List.getElem?_map] at hj
      have hjl : j < l.length := by
        rcases Nat.lt_or_ge j l.length with h | h
        · exact h
        · rw [List.getElem?_eq_none h] at hj; cases hj
      simp only [List.getElem?_eq_getElem hjl, Option.map_some, Option.some.injEq] at hj
      subst hj
      rw [Addr.add_lit, hc j (by omega)]
      simp [hjl])
    rw [List.length_map, h1] at hl
    show (Extern.Bytes.loadBytes ⟨b, off, none⟩ n .empty).run Tryd.prog w = _
    rw [hl]
    congr 1
    apply ByteArray.ext
    show (#[] : Array UInt8) ++ _ = _
    simp [Lib.bytesOf, strB, Function.comp_def]

theorem run_cmp {w : World} {a : Option Addr} {n c : Nat} {l : List UInt8} {b : Option Addr} {m d : Nat} {k : List UInt8} (h : Bytes w a n c l) (h' : Bytes w b m d k) :
    (Extern.BytealgCompare.compare #[.slice a n c, .slice b m d]).run Tryd.prog w = .ok (.int .i64 (cmpF l k)) w := by
  change Sem.run Tryd.prog (do pure (goInt (Extern.BytealgCompare.cmp (← Extern.Bytes.bytesOf (.slice a n c)) (← Extern.Bytes.bytesOf (.slice b m d))))) w = _
  simp only [Sem.run_bind, run_bytesOf h, run_bytesOf h', Result.andThen_ok, Sem.run_pure]
  rw [Lib.cmp_eq, compareBytes_eq, strB_list, strB_list]
  rfl

set_option maxRecDepth 100000 in
set_option maxHeartbeats 400000 in
theorem bcompare_any (a : Option Addr) (n c : Nat) (l : List UInt8) (b : Option Addr) (m d : Nat) (k : List UInt8) (w : World) (h : Bytes w a n c l) (h' : Bytes w b m d k) :
    Calls Tryd.prog 86 #[.slice a n c, .slice b m d] w fun e w' => e = .returned (.int .i64 (cmpF l k)) ∧ w = w' := by
  have H := Lib.hid (run_cmp h h')
  clear h h'
  go_enter Tryd.func86, Tryd.ntmps86
  go_wp2
  rw [run_callFunc_extern Tryd.func98 (by kernel_rfl) (by kernel_rfl) (by kernel_rfl) (e := Extern.BytealgCompare.compare) (by kernel_rfl), H.out]
  simp only [Result.andThen]
  rw [Oper.upon_value]
  go_wp2
  go_ret
  exact ⟨rfl, rfl⟩
#print axioms bcompare_any

/-- Two ids. -/
def CmpIs (l k : List UInt8) (w : World) (e : Ending) (w' : World) : Prop := e = .returned (.int .i64 (cmpF l k)) ∧ Below w.heap.size w w'

theorem IdAt.bytes {w : World} {g : Nat} {l : List UInt8} (h : IdAt w g l) : Bytes w (some ⟨g, 0, none⟩) 32 32 l :=
  ⟨h.1, Nat.le_refl _, by omega, .inr ⟨g, 0, rfl, fun j hj => by rw [Nat.zero_add, h.cell j hj]; rfl⟩⟩

set_option maxRecDepth 100000 in
set_option maxHeartbeats 400000 in
theorem compare_any (l k : List UInt8) (w : World) (hl : l.length = 32) (hk : k.length = 32) :
    Calls Tryd.prog 78 #[.agg (idCells l), .agg (idCells k)] w (CmpIs l k w) := by
  have hA : IdAt ((w.alloc (.cells (idCells l) 35)).alloc (.cells (idCells k) 35)) w.heap.size l :=
    ⟨hl, by rw [heap_alloc_old (h := by simp), heap_alloc_new]⟩
  have hB : IdAt ((w.alloc (.cells (idCells l) 35)).alloc (.cells (idCells k) 35)) (w.heap.size + 1) k :=
    ⟨hk, by have := heap_alloc_new (w.alloc (.cells (idCells l) 35)) (.cells (idCells k) 35); simpa using this⟩
  have HA := Lib.hid hA.bytes
  have HB := Lib.hid hB.bytes
  clear hA hB hl hk
  go_enter Tryd.func78, Tryd.ntmps78
  go_wp2
  go_quiet ((go_at_call 86; exact Calls.quiet_of_same ((bcompare_any _ _ _ _ _ _ _ _ _ (HA.out.below (below_drewN (Below.refl _ _) _)) (HB.out.below (below_drewN (Below.refl _ _) _))).mono fun e w' ⟨h1, h2⟩ => ⟨h1, h2.symm⟩)))
  go_wp2
  go_ret
  exact ⟨rfl, below_drewN ((((Below.refl _ _).alloc (Nat.le_refl _) _).alloc (by simp) _)) _⟩
#print axioms compare_any
end Go.Proofs.YtcnhifkpflaibaaDoor

namespace Go.Proofs.YtcnhifkpflaibaaDoor
open Go.RowKit

theorem two_boxes (w : World) (l k : List UInt8) (hl : l.length = 32) (hk : k.length = 32) :
    IdAt ((w.alloc (.cells (idCells l) 35)).alloc (.cells (idCells k) 35)) w.heap.size l ∧
    IdAt ((w.alloc (.cells (idCells l) 35)).alloc (.cells (idCells k) 35)) (w.heap.size + 1) k :=
  ⟨⟨hl, by rw [heap_alloc_old (h := by simp), heap_alloc_new]⟩,
   ⟨hk, by have := heap_alloc_new (w.alloc (.cells (idCells l) 35)) (.cells (idCells k) 35); simpa using this⟩⟩

/-- As far as the two are alike. -/
def SameTo (l k : List UInt8) (j : Nat) : Prop := l.take j = k.take j

theorem SameTo.lt {l k : List UInt8} {j : Nat} (h : SameTo l k j) (hl : j < l.length) (hk : j < k.length) (hc : (l.getD j 0).toNat < (k.getD j 0).toNat) : cmpF l k = -1 := by
  rw [cmpF_at j l k h hl hk, if_pos hc]
theorem SameTo.gt {l k : List UInt8} {j : Nat} (h : SameTo l k j) (hl : j < l.length) (hk : j < k.length) (hc : (k.getD j 0).toNat < (l.getD j 0).toNat) : cmpF l k = 1 := by
  rw [cmpF_at j l k h hl hk, if_neg (by omega), if_pos hc]
theorem SameTo.next {l k : List UInt8} {j : Nat} (h : SameTo l k j) (hl : j < l.length) (hk : j < k.length) (h1 : ¬ (l.getD j 0).toNat < (k.getD j 0).toNat) (h2 : ¬ (k.getD j 0).toNat < (l.getD j 0).toNat) : SameTo l k (j + 1) := by
  unfold SameTo at h ⊢
  rw [List.take_succ_eq_append_getElem hl, List.take_succ_eq_append_getElem hk, h]
  have e : (l.getD j 0) = (k.getD j 0) := UInt8.toNat_inj.1 (by omega)
  simp [hl, hk] at e
  rw [e]
theorem SameTo.all {l k : List UInt8} (h : SameTo l k 32) (hl : l.length = 32) (hk : k.length = 32) : cmpF l k = 0 := by
  unfold SameTo at h
  rw [List.take_of_length_le (by omega), List.take_of_length_le (by omega)] at h
  rw [h, cmpF_self]

end Go.Proofs.YtcnhifkpflaibaaDoor

namespace Go.Proofs.YtcnhifkpflaibaaDoor
open Go.RowKit

/-- Ids, one behind the other, as cells. -/
def flat (L : List (List UInt8)) : List Value := L.flatMap (·.map B)
/-- Each has its 32 bytes. -/
def W32 (L : List (List UInt8)) : Prop := ∀ x ∈ L, x.length = 32

theorem flat_length {L : List (List UInt8)} (h : W32 L) : (flat L).length = L.length * 32 := by
  induction L with
  | nil => rfl
  | cons x L ih =>
    have := h x (by simp)
    have := ih (fun y hy => h y (by simp [hy]))
    simp only [flat, List.flatMap_cons, List.length_append, List.length_map, List.length_cons] at this ⊢
    omega
theorem flat_append (L M : List (List UInt8)) : flat (L ++ M) = flat L ++ flat M := by simp [flat]
theorem flat_one (u : List (List UInt8)) : ∀ v ∈ flat u, v.oneCell' = true := by
  intro v hv
  obtain ⟨x, _, hx⟩ := List.mem_flatMap.1 hv
  obtain ⟨b, _, rfl⟩ := List.mem_map.1 hx
  rfl

/-- The cells of the id at a place. -/
theorem flat_at {L : List (List UInt8)} (h : W32 L) (i : Nat) (hi : i < L.length) : ((flat L).drop (i * 32)).take 32 = (L.getD i []).map B := by
  induction L generalizing i with
  | nil => simp at hi
  | cons x L ih =>
    have hx := h x (by simp)
    have hL : W32 L := fun y hy => h y (by simp [hy])
    have e : flat (x :: L) = x.map B ++ flat L := rfl
    cases i with
    | zero =>
      rw [e, Nat.zero_mul, List.drop_zero, List.take_append_of_le_length (by simp [hx]), List.take_of_length_le (by simp [hx])]
      rfl
    | succ i =>
      have hl : (x.map B).length = 32 := by simp [hx]
      rw [e, show (i + 1) * 32 = (x.map B).length + i * 32 from by omega, List.drop_append]
      rw [List.drop_eq_nil_of_le (by omega), List.nil_append, show (x.map B).length + i * 32 - (x.map B).length = i * 32 from by omega]
      exact ih hL i (by simpa using hi)

theorem getD_32 {L : List (List UInt8)} (h : W32 L) {i : Nat} (hi : i < L.length) : (L.getD i []).length = 32 := by
  have : L.getD i [] = L[i] := by simp [hi]
  rw [this]
  exact h _ (List.getElem_mem hi)

/-- A slice value reads as these ids. -/
def IdsAt (w : World) (a : Option Addr) (n c : Nat) (L : List (List UInt8)) : Prop :=
  L.length = n ∧ n ≤ c ∧ c ≤ 9223372036854775807 ∧ W32 L ∧ ((n = 0 ∧ c = 0) ∨ ∃ b off, a = some ⟨b, off, none⟩ ∧ w.rangeAt b off (flat L))

theorem IdsAt.nil (w : World) : IdsAt w none 0 0 [] := ⟨rfl, Nat.le_refl _, by omega, (fun _ h => by cases h), .inl ⟨rfl, rfl⟩⟩

theorem rangeAt_below {w w' : World} {b off : Nat} {cs : List Value} (h : w.rangeAt b off cs) (hb : Below w.heap.size w w') : w'.rangeAt b off cs := fun j v hv =>
  (hb.cell (World.block_lt_of_cell? _ _ (h j v hv))).trans (h j v hv)

theorem IdsAt.below {w w' : World} {a : Option Addr} {n c : Nat} {L : List (List UInt8)} (h : IdsAt w a n c L) (hb : Below w.heap.size w w') : IdsAt w' a n c L := by
  obtain ⟨h1, h2, h3, h5, h4⟩ := h
  refine ⟨h1, h2, h3, h5, ?_⟩
  rcases h4 with h4 | ⟨b, off, ha, hc⟩
  · exact .inl h4
  · exact .inr ⟨b, off, ha, rangeAt_below hc hb⟩

theorem IdsAt.some_ {w : World} {a : Option Addr} {n c : Nat} {L : List (List UInt8)} (h : IdsAt w a n c L) (hn : 0 < n) : ∃ b off, a = some ⟨b, off, none⟩ := by
  rcases h.2.2.2.2 with ⟨h0, _⟩ | ⟨b, off, ha, _⟩
  · omega
  · exact ⟨b, off, ha⟩

/-- The id at a place. -/
theorem IdsAt.at_ {w : World} {b off n c : Nat} {L : List (List UInt8)} (h : IdsAt w (some ⟨b, off, none⟩) n c L) (i : Nat) (hi : i < n) : w.rangeAt b (off + i * 32) ((L.getD i []).map B) := by
  obtain ⟨h1, h2, h3, h5, h4⟩ := h
  rcases h4 with ⟨h0, _⟩ | ⟨b', off', ha, hc⟩
  · omega
  · simp only [Option.some.injEq, Addr.mk.injEq, and_true] at ha
    obtain ⟨rfl, rfl⟩ := ha
    intro j v hj
    have hj32 : j < 32 := by
      have := (List.getElem?_eq_some_iff.1 hj).1
      rw [List.length_map, getD_32 h5 (by omega)] at this
      exact this
    rw [← flat_at h5 i (by omega), List.getElem?_take, if_pos hj32, List.getElem?_drop] at hj
    have := hc (i * 32 + j) v hj
    rw [Nat.add_assoc]
    exact this

/-- A value that owns these ids, in memory from a block on. -/
def OwnI (w : World) (base : Nat) (v : Value) (L : List (List UInt8)) : Prop := w.ownsRow base 35 32 v L.length (flat L) ∧ W32 L

theorem OwnI.nil (w : World) (base : Nat) : OwnI w base (.slice none 0 0) [] := ⟨World.ownsRow_nil _ _ _ _, (fun _ h => by cases h)⟩

theorem OwnI.ids {w : World} {base : Nat} {v : Value} {L : List (List UInt8)} (h : OwnI w base v L) : ∃ a c, v = .slice a L.length c ∧ IdsAt w a L.length c L := by
  obtain ⟨h0, h5⟩ := h
  have h0' := h0
  obtain ⟨h1, h2⟩ := h0
  rcases h2 with ⟨rfl, hn⟩ | ⟨g, cap, cur, rfl, hb, hg, hn, hm, hs, ht⟩
  · have : L = [] := List.length_eq_zero_iff.1 hn
    subst this
    exact ⟨none, 0, rfl, IdsAt.nil w⟩
  · refine ⟨_, _, rfl, rfl, hn, by unfold maxLen at hm; omega, h5, .inr ⟨g, 0, rfl, fun j v hv => ?_⟩⟩
    have := h0'.cells (g := g) rfl j v hv
    rw [Addr.add_lit] at this
    exact this

theorem OwnI.lt {w : World} {base : Nat} {v : Value} {L : List (List UInt8)} (h : OwnI w base v L) : ∀ k, v.ownBlock = some k → base ≤ k ∧ k < w.heap.size := fun k hk => World.ownsRow.lt h.1 k hk
theorem OwnI.alloc {w : World} {base : Nat} {v : Value} {L : List (List UInt8)} (h : OwnI w base v L) (o : Obj) : OwnI (w.alloc o) base v L := ⟨World.ownsRow.alloc h.1 o, h.2⟩
theorem OwnI.mono {w : World} {base base' : Nat} {v : Value} {L : List (List UInt8)} (h : OwnI w base v L) (hb : base' ≤ base) : OwnI w base' v L := by
  obtain ⟨⟨h1, h2⟩, h3⟩ := h
  refine ⟨⟨h1, ?_⟩, h3⟩
  rcases h2 with h2 | ⟨g, cap, cur, hv, hg, r⟩
  · exact .inl h2
  · exact .inr ⟨g, cap, cur, hv, by omega, r⟩
theorem OwnI.below {w w' : World} {base : Nat} {v : Value} {L : List (List UInt8)} (h : OwnI w base v L) (hb : Below w.heap.size w w') : OwnI w' base v L := by
  obtain ⟨⟨h1, h2⟩, h3⟩ := h
  refine ⟨⟨h1, ?_⟩, h3⟩
  rcases h2 with h2 | ⟨g, cap, cur, hv, hg, hh, r⟩
  · exact .inl h2
  · refine .inr ⟨g, cap, cur, hv, hg, ?_, r⟩
    have hlt : g < w.heap.size := by
      rcases Nat.lt_or_ge g w.heap.size with h | h
      · exact h
      · rw [Array.getElem?_eq_none h] at hh; cases hh
    rw [hb.block g hlt]; exact hh

/-- What is made anew: a value that owns these ids; what was there stands. -/
def MadeI (w : World) (L : List (List UInt8)) (e : Ending) (w' : World) : Prop := ∃ a n c, e = .returned (.slice a n c) ∧ OwnI w' w.heap.size (.slice a n c) L ∧ Below w.heap.size w w'
theorem MadeI.of {w w' : World} {L : List (List UInt8)} {v : Value} (h : OwnI w' w.heap.size v L) (hb : Below w.heap.size w w') : MadeI w L (.returned v) w' := by
  obtain ⟨a, c, rfl, _⟩ := h.ids
  exact ⟨a, _, c, rfl, h, hb⟩
theorem OwnI.isIds {w : World} {base : Nat} {a : Option Addr} {n c : Nat} {L : List (List UInt8)} (h : OwnI w base (.slice a n c) L) : IdsAt w a n c L := by
  obtain ⟨a', c', hv, hb⟩ := h.ids
  simp only [Value.slice.injEq] at hv
  obtain ⟨rfl, rfl, rfl⟩ := hv
  exact hb

theorem Tryd.infoI35 : (Tryd.prog.info? 35).map (fun i => (i.zero, i.size, i.bytes)) = some (some (.agg (idCells idZero)), 32, 32) := by kernel_rfl

/-- 'append(dst, src...)': dst is the call's own, src any slice of ids that can be read. -/
theorem app_ids {w : World} {ops : Array Oper} {rest : List Oper} {o : Oper} {a : Act} {Q : Exit → Act → World → Prop} (hgd : o.guard = none) (s x : Operand)
    (ho : o.op = .call { callee := .builtin .append, args := #[s, x], argTypes := #[45, 45] })
    (base : Nat) (v : Value) (l : List (List UInt8)) (hs : a.eval s = v) (hown : OwnI w base v l)
    (sa : Option Addr) (m c : Nat) (src : List (List UInt8)) (hx : a.eval x = .slice sa m c) (hsrc : IdsAt w sa m c src)
    (h48 : (l.length + m) * 32 ≤ 140737488355328) (hbase : base ≤ w.heap.size)
    (h : ∀ v' w', OwnI w' base v' (l ++ src) → w.grownBy w' v.ownBlock → wpList Tryd.prog ops Q rest (a.put o.dst v') w') : wpList Tryd.prog ops Q (o :: rest) a w := by
  obtain ⟨i0, hi, hz0, hz1, hz2⟩ := info_parts Tryd.infoI35
  obtain ⟨h1, h2, h3, h5, h4⟩ := hsrc
  have hW : W32 (l ++ src) := fun y hy => by
    rcases List.mem_append.1 hy with h | h
    · exact hown.2 y h
    · exact h5 y h
  rcases h4 with ⟨rfl, rfl⟩ | ⟨b, off, rfl, hc⟩
  · have : src = [] := List.length_eq_zero_iff.1 h1
    subst this
    cases sa with
    | none =>
      refine wpList_append_own_none hgd s x 45 ho base 35 i0 32 Tryd.underlying45 hi v l.length (flat l) hs hown.1 hx ?_
      exact h v w (by rw [List.append_nil]; exact hown) ⟨rfl, rfl, rfl, Nat.le_refl _, fun _ _ _ => rfl⟩
    | some ad =>
      refine wpList_append_own w hgd s x 45 ho base 35 i0 (.agg (idCells idZero)) 32 32 Tryd.underlying45 hi hz0 hz1 hz2 rfl (by decide) v l.length (flat l) hs hown.1
        ad 0 0 [] hx (by simp) (by simp) (by simp) (by unfold maxLen; omega) (by omega) hbase ?_
      intro v' w' h5 h6 _
      exact h v' w' (by rw [List.append_nil]; exact ⟨by simpa using h5, hown.2⟩) h6
  · refine wpList_append_own w hgd s x 45 ho base 35 i0 (.agg (idCells idZero)) 32 32 Tryd.underlying45 hi hz0 hz1 hz2 rfl (by decide) v l.length (flat l) hs hown.1
      ⟨b, off, none⟩ m c (flat src) hx (by rw [flat_length h5, h1]) ?_ (flat_one src) (by unfold maxLen; omega) (by omega) hbase ?_
    · intro j u hu
      rw [Addr.add_lit]
      exact hc j u hu
    · intro v' w' h5' h6 _
      refine h v' w' ⟨?_, hW⟩ h6
      rw [List.length_append, flat_append, h1]
      exact h5'

/-- Which of two ids is the other. -/
theorem run_items (w : World) (d : Nat) (l k : List UInt8) (hlk : l.length = k.length) : ∀ is : List Nat, (∀ i ∈ is, i < l.length) →
    (Op.eqItems (d + 1) 5 1 (idCells l) (idCells k) is).run Tryd.prog w = .ok (is.all fun i => l.getD i 0 == k.getD i 0) w
  | [], _ => by simp [Op.eqItems]
  | i :: is, h => by
    have hi : i < l.length := h i (by simp)
    have hp : ∀ m : List UInt8, i < m.length → (part 5 (idCells m) (i * 1)).run Tryd.prog w = .ok (B (m.getD i 0)) w := fun m hm => by
      have hagg : (isAgg 5).run Tryd.prog w = .ok false w := by kernel_rfl
      have hget : (idCells m)[i]? = some (B (m.getD i 0)) := by unfold idCells; simp [hm]
      simp [part, hagg, hget]
    have he : (Op.equalIn (d + 1) 5 (B (l.getD i 0)) (B (k.getD i 0))).run Tryd.prog w = .ok (l.getD i 0 == k.getD i 0) w := by
      have e : ((l.getD i 0).toNat == (k.getD i 0).toNat) = (l.getD i 0 == k.getD i 0) := by
        rw [Bool.eq_iff_iff, beq_iff_eq, beq_iff_eq, UInt8.toNat_inj]
      rw [← e]
      simp [Op.equalIn, run_underlying Tryd.underlying5, B]
      rw [Bool.eq_iff_iff, beq_iff_eq, beq_iff_eq]
      omega
    simp only [Op.eqItems, Sem.run_bind, hp l hi, hp k (by omega), he, Result.andThen_ok]
    by_cases hc : (l.getD i 0 == k.getD i 0) = true
    · rw [hc]
      simp only [Bool.not_true, Bool.false_eq_true, if_false, List.all_cons, hc, Bool.true_and]
      exact run_items w d l k hlk is (fun j hj => h j (by simp [hj]))
    · have hc' : (l.getD i 0 == k.getD i 0) = false := by simpa using hc
      rw [hc']
      simp only [Bool.not_false, if_true, List.all_cons, hc', Bool.false_and, Sem.run_pure]

set_option maxRecDepth 100000 in
theorem run_eqIds (w : World) {l k : List UInt8} (h : l.length = 32) (hk : k.length = 32) : (Op.equalIn 10000 35 (.agg (idCells l)) (.agg (idCells k))).run Tryd.prog w = .ok (decide (l = k)) w := by
  obtain ⟨i0, hi, _⟩ := info_parts Tryd.info5
  have hc : Tryd.prog.cellsOf 5 = 1 := by kernel_rfl
  rw [show (10000 : Nat) = 9999 + 1 from rfl, run_equalIn_array w 9999 (idCells l) (idCells k) Tryd.underlying35 hi, hc, show (9999 : Nat) = 9998 + 1 from rfl]
  rw [run_items w 9998 l k (by omega) (List.range 32) (fun i hi => by rw [h]; simpa using hi)]
  congr 1
  rw [Bool.eq_iff_iff, decide_eq_true_iff, List.all_eq_true]
  constructor
  · intro hall
    apply List.ext_getElem (by omega)
    intro i hi1 hi2
    have := hall i (by simp; omega)
    rw [beq_iff_eq] at this
    simpa [hi1, hi2] using this
  · rintro rfl i _
    simp
#print axioms run_eqIds
end Go.Proofs.YtcnhifkpflaibaaDoor

namespace Go.Proofs.YtcnhifkpflaibaaDoor
open Go.RowKit

theorem still_w {P : Program} {ops : Array Oper} {w : World} {Q : Act → Prop} {o : Oper} {rest : List Oper} {a : Act} {v : Value} (hw : Region.wanted o (yielded ops a.tmps) = true)
    (hr : (execOp a.eval o).run P w = .ok (.value v) w) (h : wpStill P ops w Q rest (a.put o.dst v)) : wpStill P ops w Q (o :: rest) a := by
  unfold wpStill
  rw [if_pos hw]
  unfold Oper.still
  rw [hr, Oper.stillUpon_value]
  exact h

theorem still_skip {P : Program} {ops : Array Oper} {w : World} {Q : Act → Prop} {o : Oper} {rest : List Oper} {a : Act} (hw : Region.wanted o (yielded ops a.tmps) = false)
    (h : wpStill P ops w Q rest (a.put o.dst undef)) : wpStill P ops w Q (o :: rest) a := by
  unfold wpStill
  rw [if_neg (by rw [hw]; simp)]
  exact h

theorem exec_move {P : Program} {w : World} {o : Oper} {a : Act} (x : Operand) (ho : o.op = .move x) (v : Value) (hx : a.eval x = v) : (execOp a.eval o).run P w = .ok (.value v) w := by
  unfold execOp
  simp only [ho, hx, Sem.run_pure]

theorem run_loadId {w : World} {b off : Nat} {l : List UInt8} (hl : l.length = 32) (hc : w.rangeAt b off (l.map B)) : (loadVar 35 ⟨b, off, none⟩).run Tryd.prog w = .ok (.agg (idCells l)) w :=
  run_loadVar_mid (P := Tryd.prog) w b off 35 (l.map B) _ hc Tryd.underlying35 rfl (by rw [List.length_map, hl]; exact info_id)

theorem exec_loadId {w : World} {o : Oper} {a : Act} (x : Operand) (ho : o.op = .load 35 x) (b off : Nat) (l : List UInt8) (hl : l.length = 32) (hx : a.eval x = .pointer (some ⟨b, off, none⟩)) (hc : w.rangeAt b off (l.map B)) :
    (execOp a.eval o).run Tryd.prog w = .ok (.value (.agg (idCells l))) w := by
  unfold execOp
  simp only [ho, hx, Instr.loadAt, Instr.sureAddr, Sem.run_bind, Sem.run_pure, Result.andThen_ok, run_loadId hl hc]

theorem exec_eqlId {w : World} {o : Oper} {a : Act} (x y : Operand) (r : TypeId) (ho : o.op = .binOp .eql 35 x y r) (l k : List UInt8) (hl : l.length = 32) (hk : k.length = 32) (hx : a.eval x = .agg (idCells l)) (hy : a.eval y = .agg (idCells k)) :
    (execOp a.eval o).run Tryd.prog w = .ok (.value (.bool (decide (l = k)))) w := by
  unfold execOp
  simp only [ho, hx, hy, Sem.run_bind, run_eqGuard_agg w _ _ _ _ _ _ noGuard_id, Result.andThen_ok, run_eql_struct, run_eqIds w hl hk, Sem.run_pure]

theorem exec_neqId {w : World} {o : Oper} {a : Act} (x y : Operand) (r : TypeId) (ho : o.op = .binOp .neq 35 x y r) (l k : List UInt8) (hl : l.length = 32) (hk : k.length = 32) (hx : a.eval x = .agg (idCells l)) (hy : a.eval y = .agg (idCells k)) :
    (execOp a.eval o).run Tryd.prog w = .ok (.value (.bool (!decide (l = k)))) w := by
  unfold execOp
  simp only [ho, hx, hy, Sem.run_bind, run_eqGuard_agg w _ _ _ _ _ _ noGuard_id, Result.andThen_ok, run_neq_struct, run_eqIds w hl hk, Sem.run_pure]

/-- The load of an id, plain. -/
theorem wl_load {w : World} {ops : Array Oper} {rest : List Oper} {o : Oper} {a : Act} {Q : Exit → Act → World → Prop} (hw : Region.wanted o (yielded ops a.tmps) = true) (x : Operand) (ho : o.op = .load 35 x)
    (b off : Nat) (l : List UInt8) (hl : l.length = 32) (hx : a.eval x = .pointer (some ⟨b, off, none⟩)) (hc : w.rangeAt b off (l.map B))
    (h : wpList Tryd.prog ops Q rest (a.put o.dst (.agg (idCells l))) w) : wpList Tryd.prog ops Q (o :: rest) a w := by
  unfold wpList
  rw [if_pos hw]
  exact .inl (by unfold Oper.wp; rw [exec_loadId x ho b off l hl hx hc]; exact h)

theorem IdAt.range {w : World} {g : Nat} {l : List UInt8} (h : IdAt w g l) : w.rangeAt g 0 (l.map B) := fun j v hj => by
  rw [List.getElem?_map] at hj
  have hjl : j < l.length := by
    rcases Nat.lt_or_ge j l.length with h | h
    · exact h
    · rw [List.getElem?_eq_none h] at hj; cases hj
  simp only [List.getElem?_eq_getElem hjl, Option.map_some, Option.some.injEq] at hj
  subst hj
  rw [Nat.zero_add, h.cell j (by have := h.1; omega)]
  simp [hjl]

theorem take_next_ids {l m : List (List UInt8)} {j : Nat} (h : l.take j = m.take j) (hl : j < l.length) (hm : j < m.length) (he : l.getD j [] = m.getD j []) : l.take (j + 1) = m.take (j + 1) := by
  rw [List.take_succ_eq_append_getElem hl, List.take_succ_eq_append_getElem hm, h]
  simp [hl, hm] at he
  rw [he]
theorem ne_of_ids {l m : List (List UInt8)} {j : Nat} (he : l.getD j [] ≠ m.getD j []) : l ≠ m := fun h => he (by rw [h])
theorem boolR {a b : Bool} (h : a = b) : Ending.returned (.bool a) = .returned (.bool b) := by rw [h]

end Go.Proofs.YtcnhifkpflaibaaDoor

namespace Go.Proofs.YtcnhifkpflaibaaDoor
open Go.RowKit

theorem ownI_empty (w : World) : OwnI (w.alloc (.cells #[] 35)) w.heap.size (.slice (some ⟨w.heap.size, 0, none⟩) 0 0) [] :=
  ⟨World.ownsRow_lit w #[] 0 (Nat.le_refl _) (by unfold maxLen; omega) rfl, (fun _ h => by cases h)⟩

/-- As far as it is not there. -/
def NotTo (l : List (List UInt8)) (x : List UInt8) (j : Nat) : Prop := ∀ i, i < j → l.getD i [] ≠ x
theorem NotTo.next {l : List (List UInt8)} {x : List UInt8} {j : Nat} (h : NotTo l x j) (hn : l.getD j [] ≠ x) : NotTo l x (j + 1) := fun i hi => by
  rcases Nat.lt_or_ge i j with h1 | h1
  · exact h i h1
  · obtain rfl : i = j := by omega
    exact hn
theorem NotTo.end {l : List (List UInt8)} {x : List UInt8} (h : NotTo l x l.length) : x ∉ l := fun hx => by
  obtain ⟨i, hi, rfl⟩ := List.getElem_of_mem hx
  exact h i hi (by simp [hi])
theorem mem_of_getD {l : List (List UInt8)} {x : List UInt8} {j : Nat} (hj : j < l.length) (h : l.getD j [] = x) : x ∈ l := by
  rw [← h]
  have : l.getD j [] = l[j] := by simp [hj]
  rw [this]
  exact List.getElem_mem hj

theorem idAt_new (w : World) (x : List UInt8) (hx : x.length = 32) : IdAt (w.alloc (.cells (idCells x) 35)) w.heap.size x := ⟨hx, heap_alloc_new w _⟩

/-! ### IsSet -/
/-- As far as each stands ahead of the next. -/
def UpTo (l : List (List UInt8)) (j : Nat) : Prop := ∀ i, i + 1 < j → cmpF (l.getD i []) (l.getD (i + 1) []) < 0
theorem UpTo.next {l : List (List UInt8)} {j : Nat} (h : UpTo l j) (hc : cmpF (l.getD (j - 1) []) (l.getD j []) < 0) : UpTo l (j + 1) := fun i hi => by
  rcases Nat.lt_or_ge (i + 1) j with h1 | h1
  · exact h i h1
  · obtain rfl : i = j - 1 := by omega
    rw [show j - 1 + 1 = j from by omega]
    exact hc
/-- Is it a set? -/
def isSetF (l : List (List UInt8)) : Bool := decide (∀ i, i < l.length - 1 → cmpF (l.getD i []) (l.getD (i + 1) []) < 0)
theorem isSetF_iff (l : List (List UInt8)) : isSetF l = true ↔ SetF l := by
  unfold isSetF
  rw [decide_eq_true_iff, setF_chain]
  constructor
  · intro h i hi; exact h i (by omega)
  · intro h i hi; exact h i (by omega)
theorem UpTo.end {l : List (List UInt8)} (h : UpTo l l.length) : isSetF l = true := by
  rw [isSetF_iff, setF_chain]
  exact fun i hi => h i hi
theorem isSetF_no {l : List (List UInt8)} {j : Nat} (h1 : 1 ≤ j) (hj : j < l.length) (hc : 0 ≤ cmpF (l.getD (j - 1) []) (l.getD j [])) : isSetF l = false := by
  rw [Bool.eq_false_iff]
  intro h
  rw [isSetF_iff, setF_chain] at h
  have := h (j - 1) (by omega)
  rw [show j - 1 + 1 = j from by omega] at this
  omega

theorem cmp_is (l k : List UInt8) (z : Int) (w : World) (hl : l.length = 32) (hk : k.length = 32) (h : z = cmpF l k) : Calls Tryd.prog 78 #[.agg (idCells l), .agg (idCells k)] w fun e w' => e = .returned (.int .i64 z) ∧ Below w.heap.size w w' := by
  subst h; exact compare_any l k w hl hk
end Go.Proofs.YtcnhifkpflaibaaDoor

namespace Go.Proofs.YtcnhifkpflaibaaDoor
open Go.RowKit

/-- A row of ids at a block's head, that may be written. -/
def RowC (w : World) (g : Nat) (L : List (List UInt8)) : Prop := W32 L ∧ w.rangeAt g 0 (flat L) ∧ w.there g 0 (L.length * 32)

/-- Whatever is not one block stands; the rest grows. -/
abbrev Kept (g : Nat) (w w' : World) : Prop := w.grownBy w' (some g)

theorem Kept.refl (g : Nat) (w : World) : Kept g w w := ⟨rfl, rfl, rfl, Nat.le_refl _, fun _ _ _ => rfl⟩
theorem Kept.trans {g : Nat} {a b c : World} (h : Kept g a b) (k : Kept g b c) : Kept g a c :=
  ⟨k.os.trans h.os, k.tape.trans h.tape, k.output.trans h.output, Nat.le_trans h.size k.size, fun j hj hn => (k.block j (Nat.lt_of_lt_of_le hj h.size) hn).trans (h.block j hj hn)⟩
theorem Kept.of_below {g : Nat} {w w' : World} (h : Below w.heap.size w w') : Kept g w w' := ⟨h.os, h.tape, h.output, h.size, fun j hj _ => h.block j hj⟩
theorem Kept.below {g base : Nat} {w0 w w' : World} (hb : Below base w0 w) (h : Kept g w w') (hg : base ≤ g) (hs : base ≤ w.heap.size) : Below base w0 w' :=
  ⟨h.os.trans hb.os, h.tape.trans hb.tape, h.output.trans hb.output, Nat.le_trans hb.size h.size, fun k hk => (h.block k (by omega) (fun e => by simp at e; omega)).trans (hb.block k hk)⟩

theorem setCells_size (g : Nat) : ∀ (vs : List Value) (o : Nat) (w : World), (w.setCells g o vs).heap.size = w.heap.size
  | [], _, _ => rfl
  | v :: r, o, w => by rw [World.setCells, setCells_size g r (o + 1)]; simp [World.setCell]
theorem setCells_tape (g : Nat) : ∀ (vs : List Value) (o : Nat) (w : World), (w.setCells g o vs).tape = w.tape
  | [], _, _ => rfl
  | v :: r, o, w => by rw [World.setCells, setCells_tape g r (o + 1)]; rfl
theorem setCells_os (g : Nat) : ∀ (vs : List Value) (o : Nat) (w : World), (w.setCells g o vs).os = w.os ∧ (w.setCells g o vs).output = w.output
  | [], _, _ => ⟨rfl, rfl⟩
  | v :: r, o, w => by rw [World.setCells]; exact setCells_os g r (o + 1) _
theorem setCells_block (g : Nat) : ∀ (vs : List Value) (o : Nat) (w : World) (k : Nat), k ≠ g → (w.setCells g o vs).heap[k]? = w.heap[k]?
  | [], _, _, _, _ => rfl
  | v :: r, o, w, k, h => by rw [World.setCells, setCells_block g r (o + 1) _ k h]; exact Below.heap_setCell _ _ _ _ h
theorem Kept.setCells (g o : Nat) (vs : List Value) (w : World) : Kept g w (w.setCells g o vs) :=
  ⟨(setCells_os g vs o w).1, setCells_tape g vs o w, (setCells_os g vs o w).2, by rw [setCells_size g vs o w]; exact Nat.le_refl _, fun k _ hn => setCells_block g vs o w k (fun e => hn (by rw [e]))⟩

theorem rangeAt_kept {g : Nat} {w w' : World} {b off : Nat} {cs : List Value} (h : w.rangeAt b off cs) (hk : Kept g w w') (hb : b ≠ g) : w'.rangeAt b off cs := fun j v hv => by
  have h1 := h j v hv
  rw [World.cell?_of_block (a := ⟨b, off + j, none⟩) (hk.block b (World.block_lt_of_cell? _ _ h1) (fun e => hb (by simpa using e)))]
  exact h1

theorem IdsAt.kept {g : Nat} {w w' : World} {b off n c : Nat} {L : List (List UInt8)} (h : IdsAt w (some ⟨b, off, none⟩) n c L) (hk : Kept g w w') (hb : b ≠ g) : IdsAt w' (some ⟨b, off, none⟩) n c L := by
  obtain ⟨h1, h2, h3, h5, h4⟩ := h
  refine ⟨h1, h2, h3, h5, ?_⟩
  rcases h4 with h4 | ⟨b', off', ha, hc⟩
  · exact .inl h4
  · simp only [Option.some.injEq, Addr.mk.injEq, and_true] at ha
    obtain ⟨rfl, rfl⟩ := ha
    exact .inr ⟨b, off, rfl, rangeAt_kept hc hk hb⟩

theorem IdsAt.kept_ {g : Nat} {w w' : World} {a : Option Addr} {n c : Nat} {L : List (List UInt8)} (h : IdsAt w a n c L) (hk : Kept g w w') (hne : ∀ b off, a = some ⟨b, off, none⟩ → b ≠ g) : IdsAt w' a n c L := by
  rcases h.2.2.2.2 with ⟨h0, h0'⟩ | ⟨b, off, rfl, _⟩
  · exact ⟨h.1, h.2.1, h.2.2.1, h.2.2.2.1, .inl ⟨h0, h0'⟩⟩
  · exact h.kept hk (hne b off rfl)

theorem RowC.lt {w : World} {g : Nat} {L : List (List UInt8)} (h : RowC w g L) (hn : 0 < L.length) : g < w.heap.size := by
  have h1 := (h.2.2 0 (by omega)).1
  obtain ⟨u, hu⟩ := Option.isSome_iff_exists.1 h1
  exact World.block_lt_of_cell? _ _ hu
theorem RowC.below {w w' : World} {g : Nat} {L : List (List UInt8)} (h : RowC w g L) (hb : Below w.heap.size w w') : RowC w' g L := by
  refine ⟨h.1, rangeAt_below h.2.1 hb, fun j hj => ?_⟩
  obtain ⟨h1, h2⟩ := h.2.2 j hj
  obtain ⟨u, hu⟩ := Option.isSome_iff_exists.1 h1
  have hlt := World.block_lt_of_cell? _ _ hu
  exact ⟨by rw [hb.cell hlt]; exact h1, by rw [hb.frozen hlt]; exact h2⟩
theorem RowC.kept {w w' : World} {g k : Nat} {L : List (List UInt8)} (h : RowC w g L) (hk : Kept k w w') (hg : g ≠ k) : RowC w' g L := by
  refine ⟨h.1, rangeAt_kept h.2.1 hk hg, fun j hj => ?_⟩
  obtain ⟨h1, h2⟩ := h.2.2 j hj
  obtain ⟨u, hu⟩ := Option.isSome_iff_exists.1 h1
  have hlt := World.block_lt_of_cell? _ _ hu
  have hbl := hk.block g hlt (fun e => hg (by simpa using e))
  exact ⟨by rw [World.cell?_of_block (a := ⟨g, 0 + j, none⟩) hbl]; exact h1, by rw [World.frozen?_of_block (a := ⟨g, 0 + j, none⟩) hbl]; exact h2⟩

/-- A part of a row, as a slice. -/
theorem flat_drop {L : List (List UInt8)} (h : W32 L) : ∀ i, (flat L).drop (i * 32) = flat (L.drop i) := by
  induction L with
  | nil => intro i; simp [flat]
  | cons x L ih =>
    intro i
    have hx := h x (by simp)
    cases i with
    | zero => simp
    | succ i =>
      have e : flat (x :: L) = x.map B ++ flat L := rfl
      have hl : (x.map B).length = 32 := by simp [hx]
      rw [e, show (i + 1) * 32 = (x.map B).length + i * 32 from by omega, List.drop_append, List.drop_eq_nil_of_le (by omega), List.nil_append,
        show (x.map B).length + i * 32 - (x.map B).length = i * 32 from by omega, List.drop_succ_cons]
      exact ih (fun y hy => h y (by simp [hy])) i
theorem flat_take {L : List (List UInt8)} (h : W32 L) : ∀ i, (flat L).take (i * 32) = flat (L.take i) := by
  induction L with
  | nil => intro i; simp [flat]
  | cons x L ih =>
    intro i
    have hx := h x (by simp)
    cases i with
    | zero => simp [flat]
    | succ i =>
      have e : flat (x :: L) = x.map B ++ flat L := rfl
      have e2 : flat ((x :: L).take (i + 1)) = x.map B ++ flat (L.take i) := rfl
      have hl : (x.map B).length = 32 := by simp [hx]
      rw [e, e2, show (i + 1) * 32 = (x.map B).length + i * 32 from by omega, List.take_append, List.take_of_length_le (by omega),
        show (x.map B).length + i * 32 - (x.map B).length = i * 32 from by omega]
      rw [ih (fun y hy => h y (by simp [hy])) i]
theorem W32.drop {L : List (List UInt8)} (h : W32 L) (i : Nat) : W32 (L.drop i) := fun x hx => h x (List.mem_of_mem_drop hx)
theorem W32.take {L : List (List UInt8)} (h : W32 L) (i : Nat) : W32 (L.take i) := fun x hx => h x (List.mem_of_mem_take hx)

theorem rangeAt_part {w : World} {b off : Nat} {cs : List Value} (h : w.rangeAt b off cs) (i m : Nat) : w.rangeAt b (off + i) ((cs.drop i).take m) := fun j v hv => by
  rw [List.getElem?_take] at hv
  split at hv
  · rw [List.getElem?_drop] at hv
    have := h (i + j) v hv
    rw [Nat.add_assoc]
    exact this
  · cases hv

theorem RowC.part {w : World} {g : Nat} {L : List (List UInt8)} (h : RowC w g L) (i m c : Nat) (hm : i + m ≤ L.length) (hc : m ≤ c) (hc2 : c ≤ 9223372036854775807) : IdsAt w (some ⟨g, i * 32, none⟩) m c ((L.drop i).take m) := by
  refine ⟨by simp; omega, hc, hc2, (h.1.drop i).take m, .inr ⟨g, i * 32, rfl, ?_⟩⟩
  have := rangeAt_part h.2.1 (i * 32) (m * 32)
  rw [Nat.zero_add, flat_drop h.1, flat_take (h.1.drop i)] at this
  exact this

theorem IdsAt.tail_ {w : World} {b off n c : Nat} {x : List UInt8} {L : List (List UInt8)} (h : IdsAt w (some ⟨b, off, none⟩) n c (x :: L)) : IdsAt w (some ⟨b, off + 32, none⟩) (n - 1) (c - 1) L := by
  obtain ⟨h1, h2, h3, h5, h4⟩ := h
  rw [List.length_cons] at h1
  refine ⟨by omega, by omega, by omega, fun y hy => h5 y (by simp [hy]), ?_⟩
  rcases h4 with ⟨h0, _⟩ | ⟨b', off', ha, hc⟩
  · omega
  · simp only [Option.some.injEq, Addr.mk.injEq, and_true] at ha
    obtain ⟨rfl, rfl⟩ := ha
    refine .inr ⟨b, off + 32, rfl, ?_⟩
    have h6 := rangeAt_part hc 32 (flat L).length
    have e : (flat (x :: L)).drop 32 = flat L := by
      have := flat_drop h5 1
      simpa using this
    rw [e, List.take_of_length_le (Nat.le_refl _)] at h6
    exact h6

/-- One id stored into a row. -/
theorem flat_set {L : List (List UInt8)} (h : W32 L) (i : Nat) (hi : i < L.length) (x : List UInt8) : flat (L.set i x) = (flat L).take (i * 32) ++ (x.map B ++ (flat L).drop ((i + 1) * 32)) := by
  rw [flat_take h, flat_drop h, ← List.append_assoc]
  have : L.set i x = L.take i ++ (x :: L.drop (i + 1)) := by
    rw [List.set_eq_take_append_cons_drop, if_pos hi]
  rw [this, flat_append]
  have e : flat (x :: L.drop (i + 1)) = x.map B ++ flat (L.drop (i + 1)) := rfl
  rw [e, List.append_assoc]
theorem W32.set {L : List (List UInt8)} (h : W32 L) (i : Nat) {x : List UInt8} (hx : x.length = 32) : W32 (L.set i x) := fun y hy => by
  rcases List.mem_or_eq_of_mem_set hy with h1 | rfl
  · exact h y h1
  · exact hx

theorem RowC.there_at {w : World} {g : Nat} {L : List (List UInt8)} (h : RowC w g L) (i : Nat) (hi : i < L.length) : w.there g (i * 32) 32 := fun j hj => by
  have := h.2.2 (i * 32 + j) (by omega)
  rwa [Nat.zero_add] at this

theorem RowC.store {w : World} {g : Nat} {L : List (List UInt8)} (h : RowC w g L) (i : Nat) (hi : i < L.length) (x : List UInt8) (hx : x.length = 32) : RowC (w.setCells g (i * 32) (x.map B)) g (L.set i x) := by
  have hth := h.there_at i hi
  refine ⟨h.1.set i hx, ?_, by rw [List.length_set]; exact World.there_setCells h.2.2 _ _ _⟩
  intro j v hv
  rw [flat_set h.1 i hi, List.getElem?_append] at hv
  have hfl := flat_length h.1
  have htl : ((flat L).take (i * 32)).length = i * 32 := by rw [List.length_take, hfl]; omega
  rw [htl] at hv
  by_cases h1 : j < i * 32
  · rw [if_pos h1, List.getElem?_take, if_pos h1] at hv
    rw [World.cell?_setCells_out g _ _ w ⟨g, 0 + j, none⟩ (fun _ _ => .inl (by show 0 + j < i * 32; omega))]
    exact h.2.1 j v hv
  · rw [if_neg h1, List.getElem?_append, List.length_map, hx] at hv
    by_cases h2 : j - i * 32 < 32
    · rw [if_pos h2] at hv
      have h3 := World.cell?_setCells_in g (x.map B) (i * 32) w (fun q hq => (hth q (by simpa [hx] using hq)).1) (j - i * 32) (by simpa [hx] using h2)
      rw [show i * 32 + (j - i * 32) = 0 + j from by omega] at h3
      rw [h3, ← hv, List.getElem?_eq_getElem (by simpa [hx] using h2)]
    · rw [if_neg h2, List.getElem?_drop, show (i + 1) * 32 + (j - i * 32 - 32) = j from by omega] at hv
      rw [World.cell?_setCells_out g _ _ w ⟨g, 0 + j, none⟩ (fun _ _ => .inr (by show i * 32 + (x.map B).length ≤ 0 + j; simp [hx]; omega))]
      exact h.2.1 j v hv

/-! ### Merging, plainly -/
abbrev mrg (A C : List (List UInt8)) : List (List UInt8) := List.merge A C leB
theorem mrg_nil_right (A : List (List UInt8)) : mrg A [] = A := by simp [mrg]
theorem mrg_left {a : List UInt8} {A C : List (List UInt8)} (h : C = [] ∨ ∃ c D, C = c :: D ∧ cmpF a c ≤ 0) : mrg (a :: A) C = a :: mrg A C := by
  rcases h with rfl | ⟨c, D, rfl, h⟩
  · simp [mrg]
  · exact List.cons_merge_cons_pos leB A D (by simp [leB, h])
theorem mrg_right {c : List UInt8} {A D : List (List UInt8)} (h : A = [] ∨ ∃ a E, A = a :: E ∧ 0 < cmpF a c) : mrg A (c :: D) = c :: mrg A D := by
  rcases h with rfl | ⟨a, E, rfl, h⟩
  · simp [mrg]
  · exact List.cons_merge_cons_neg leB E D (by simp [leB]; omega)
theorem mrg_length (A C : List (List UInt8)) : (mrg A C).length = A.length + C.length := by simp [mrg]
#print axioms RowC.store
end Go.Proofs.YtcnhifkpflaibaaDoor

namespace Go.Proofs.YtcnhifkpflaibaaDoor
open Go.RowKit

theorem leB_trans (a b c : List UInt8) (h1 : leB a b = true) (h2 : leB b c = true) : leB a c = true := by
  simp only [leB, decide_eq_true_eq] at *; exact cmpF_le_trans h1 h2
theorem leB_total (a b : List UInt8) : (leB a b || leB b a) = true := by
  simp only [leB, Bool.or_eq_true, decide_eq_true_eq]; rw [cmpF_anti a b]; omega
theorem up_iff (l : List (List UInt8)) : Up l ↔ l.Pairwise (fun a b => leB a b = true) := by
  simp [Up, leB]
theorem mrg_up {A C : List (List UInt8)} (hA : Up A) (hC : Up C) : Up (mrg A C) :=
  (up_iff _).2 (List.pairwise_merge leB_trans leB_total A C ((up_iff _).1 hA) ((up_iff _).1 hC))
theorem mrg_perm (A C : List (List UInt8)) : (mrg A C).Perm (A ++ C) := List.merge_perm_append leB

/-- Each run of so many is in order. -/
def RunsI (q : Nat) (L : List (List UInt8)) : Prop := ∀ i, Up ((L.drop (i * q)).take q)
theorem runs_one (L : List (List UInt8)) : RunsI 1 L := fun i => by
  cases h : L.drop (i * 1) with
  | nil => simp [Up]
  | cons x T => simp [Up]
theorem runs_all {q : Nat} {L : List (List UInt8)} (h : RunsI q L) (hq : L.length ≤ q) : Up L := by
  have := h 0
  rwa [Nat.zero_mul, List.drop_zero, List.take_of_length_le hq] at this

/-- What one merge puts where two runs stood. -/
def twoM (q f : Nat) (L : List (List UInt8)) : List (List UInt8) := mrg ((L.drop f).take q) ((L.drop (f + q)).take q)
theorem twoM_perm (q f : Nat) (L : List (List UInt8)) : (twoM q f L).Perm ((L.drop f).take (2 * q)) := by
  have h := mrg_perm ((L.drop f).take q) ((L.drop (f + q)).take q)
  have e : (L.drop f).take (2 * q) = (L.drop f).take q ++ (L.drop (f + q)).take q := by
    rw [show 2 * q = q + q from by omega, List.take_add, List.drop_drop]
  rw [e]; exact h
theorem twoM_length (q f : Nat) (L : List (List UInt8)) : (twoM q f L).length = min (2 * q) (L.length - f) := by
  rw [(twoM_perm q f L).length_eq]; simp

/-- One pass, as far as it is. -/
def Pass (q t : Nat) (L R : List (List UInt8)) : Prop := R.length = L.length ∧ (R.take (t * (2 * q))).Perm (L.take (t * (2 * q))) ∧ ∀ i, i < t → Up ((R.drop (i * (2 * q))).take (2 * q))
theorem pass_zero (q : Nat) {L R : List (List UInt8)} (h : R.length = L.length) : Pass q 0 L R := ⟨h, by simp, fun i hi => by omega⟩
theorem pass_step {q t : Nat} {L R : List (List UInt8)} (hr : RunsI q L) (h : Pass q t L R) (hf : t * (2 * q) < L.length) :
    Pass q (t + 1) L (R.take (t * (2 * q)) ++ (twoM q (t * (2 * q)) L ++ R.drop (t * (2 * q) + (twoM q (t * (2 * q)) L).length))) := by
  obtain ⟨h1, h2, h3⟩ := h
  have hM := twoM_length q (t * (2 * q)) L
  have hMu : Up (twoM q (t * (2 * q)) L) := by
    refine mrg_up ?_ ?_
    · have := hr (t * 2)
      rwa [show t * 2 * q = t * (2 * q) from by rw [Nat.mul_assoc]] at this
    · have := hr (t * 2 + 1)
      rwa [show (t * 2 + 1) * q = t * (2 * q) + q from by rw [Nat.add_mul, Nat.mul_assoc, Nat.one_mul]] at this
  have hMp := twoM_perm q (t * (2 * q)) L
  have e2 : (t + 1) * (2 * q) = t * (2 * q) + 2 * q := by rw [Nat.add_mul, Nat.one_mul]
  rw [show (t + 1) = t + 1 from rfl]
  unfold Pass
  rw [e2]
  generalize hF : t * (2 * q) = f at *
  generalize twoM q f L = M at *
  generalize hs : 2 * q = s at *
  have htk : (R.take f).length = f := by simp; omega
  have hcut : (M ++ R.drop (f + M.length)).take s = M := by
    by_cases hc : f + s ≤ L.length
    · rw [List.take_append_of_le_length (by omega), List.take_of_length_le (by omega)]
    · rw [List.drop_eq_nil_of_le (by omega), List.append_nil, List.take_of_length_le (by omega)]
  refine ⟨by simp; omega, ?_, ?_⟩
  · rw [List.take_add, List.take_append_of_le_length (by omega), List.take_of_length_le (by omega)]
    rw [show (R.take f ++ (M ++ R.drop (f + M.length))).drop f = M ++ R.drop (f + M.length) from by
      have := @List.drop_append _ (R.take f) (M ++ R.drop (f + M.length)) f
      rw [this, List.drop_eq_nil_of_le (by omega), htk, Nat.sub_self, List.drop_zero, List.nil_append]]
    rw [hcut, List.take_add]
    exact h2.append hMp
  · intro i hi
    by_cases hit : i < t
    · have hle : i * s + s ≤ f := by
        have : (i + 1) * s ≤ t * s := Nat.mul_le_mul_right s (by omega)
        rw [Nat.add_mul, Nat.one_mul] at this
        omega
      rw [List.drop_append_of_le_length (by omega), List.take_append_of_le_length (by simp; omega), List.drop_take, List.take_take, show min s (f - i * s) = s from by omega]
      exact h3 i hit
    · obtain rfl : i = t := by omega
      rw [hF]
      rw [show (R.take f ++ (M ++ R.drop (f + M.length))).drop f = M ++ R.drop (f + M.length) from by
        have := @List.drop_append _ (R.take f) (M ++ R.drop (f + M.length)) f
        rw [this, List.drop_eq_nil_of_le (by omega), htk, Nat.sub_self, List.drop_zero, List.nil_append]]
      rw [hcut]
      exact hMu
theorem pass_end {q t : Nat} {L R : List (List UInt8)} (h : Pass q t L R) (hf : L.length ≤ t * (2 * q)) : R.length = L.length ∧ R.Perm L ∧ RunsI (2 * q) R := by
  obtain ⟨h1, h2, h3⟩ := h
  refine ⟨h1, ?_, ?_⟩
  · rwa [List.take_of_length_le (by omega), List.take_of_length_le hf] at h2
  · intro i
    by_cases hi : i < t
    · exact h3 i hi
    · have : t * (2 * q) ≤ i * (2 * q) := Nat.mul_le_mul_right _ (by omega)
      rw [List.drop_eq_nil_of_le (by omega)]
      simp [Up]

/-- A slice that the call made, as a row that may be written. -/
theorem OwnI.row {w : World} {base : Nat} {a : Option Addr} {n c : Nat} {L : List (List UInt8)} (h : OwnI w base (.slice a n c) L) (hn : 0 < n) : ∃ g, a = some ⟨g, 0, none⟩ ∧ base ≤ g ∧ RowC w g L ∧ L.length = n ∧ n ≤ c ∧ c ≤ 9223372036854775807 := by
  obtain ⟨h0, h5⟩ := h
  have h0' := h0
  obtain ⟨h1, h2⟩ := h0
  rcases h2 with ⟨hv, hz⟩ | ⟨g, cap, cur, hv, hb, hg, hle, hm, hs, ht⟩
  · simp only [Value.slice.injEq] at hv; omega
  · simp only [Value.slice.injEq] at hv
    obtain ⟨rfl, rfl, rfl⟩ := hv
    refine ⟨g, rfl, hb, ⟨h5, fun j v hj => ?_, fun j hj => ?_⟩, rfl, hle, by unfold maxLen at hm; omega⟩
    · have := h0'.cells (g := g) rfl j v hj
      rwa [Addr.add_lit] at this
    · rw [Nat.zero_add]
      have hlen := flat_length h5
      have h6 := h0'.cells (g := g) rfl j ((flat L)[j]'(by omega)) (List.getElem?_eq_getElem (by omega))
      rw [Addr.add_lit, Nat.zero_add] at h6
      exact ⟨by rw [h6]; rfl, h0'.frozenAt j⟩

/-- What is made anew, and may be written. -/
def MadeR (w : World) (L : List (List UInt8)) (e : Ending) (w' : World) : Prop :=
  ∃ a c, e = .returned (.slice a L.length c) ∧ IdsAt w' a L.length c L ∧ Below w.heap.size w w' ∧ (0 < L.length → ∃ g, a = some ⟨g, 0, none⟩ ∧ w.heap.size ≤ g ∧ RowC w' g L)

def zeros (n : Nat) : List (List UInt8) := List.replicate n idZero
theorem zeros_length (n : Nat) : (zeros n).length = n := by simp [zeros]
theorem zeros_W (n : Nat) : W32 (zeros n) := fun x hx => by rw [List.eq_of_mem_replicate hx]; exact idZero_length

theorem zeros_flat (n : Nat) : (madeCells (idCells idZero) (n * 32)).toList = flat (zeros n) := by
  have hz : flat (zeros n) = List.replicate (n * 32) (B 0) := by
    induction n with
    | zero => rfl
    | succ n ih =>
      have e : flat (zeros (n + 1)) = idZero.map B ++ flat (zeros n) := rfl
      rw [e, ih, show (n + 1) * 32 = 32 + n * 32 from by omega, List.replicate_append_replicate.symm]
      rfl
  rw [hz]
  apply List.ext_getElem
  · simp [madeCells]
  · intro i h1 h2
    have hm : i % 32 < 32 := Nat.mod_lt _ (by omega)
    have h3 : ∀ k (hk : k < (idCells idZero).size), (idCells idZero)[k] = B 0 := fun k hk => by
      have e : idCells idZero = Array.replicate 32 (B 0) := by rfl
      simp only [e, Array.getElem_replicate]
    simp only [List.getElem_replicate]
    have hsz : (idCells idZero).size = 32 := by simp [idCells, idZero]
    have h4 : (madeCells (idCells idZero) (n * 32)).toList[i] = (idCells idZero)[i % (idCells idZero).size]! := by simp [madeCells]
    rw [h4, getElem!_pos _ _ (by rw [hsz]; exact hm), h3]

/-- 'make([]Id, n)'. -/
theorem make_ids {w : World} {ops : Array Oper} {rest : List Oper} {o : Oper} {a : Act} {Q : Exit → Act → World → Prop} (hgd : o.guard = none) (x y : Operand) (ho : o.op = Op.makeSlice 45 x y)
    (n : Nat) (hx : a.eval x = .int .i64 (n : Int)) (hy : a.eval y = .int .i64 (n : Int)) (hn : n ≤ 1000000000000)
    (h : ∀ w', OwnI w' w.heap.size (.slice (some ⟨w.heap.size, 0, none⟩) n n) (zeros n) → w.grownBy w' none → wpList Tryd.prog ops Q rest (a.put o.dst (.slice (some ⟨w.heap.size, 0, none⟩) n n)) w') : wpList Tryd.prog ops Q (o :: rest) a w := by
  obtain ⟨i0, hi, hz0, hz1, hz2⟩ := info_parts Tryd.infoI35
  refine wpList_make_full w hgd x y _ ho w.heap.size 35 i0 (.agg (idCells idZero)) 32 Tryd.underlying45 hi hz0 hz1 .i64 .i64 _ _ n hx hy rfl rfl (by rw [hz2]; omega) (by unfold maxLen; omega) (Nat.le_refl _) ?_
  intro w' h1 h2
  refine h w' ⟨?_, zeros_W n⟩ h2
  have e : (madeCells (Value.agg (idCells idZero)).cells (n * 32)).toList = flat (zeros n) := zeros_flat n
  rw [e] at h1
  rw [zeros_length]
  exact h1

/-- 'min(x, y)'. -/
theorem wl_min {P : Program} {w : World} {ops : Array Oper} {rest : List Oper} {o : Oper} {a : Act} {Q : Exit → Act → World → Prop} (hgd : o.guard = none) (x y : Operand) (ats : Array TypeId)
    (ho : o.op = .call { callee := .builtin .min, args := #[x, y], argTypes := ats }) (X Y Z : Int) (hx : a.eval x = .int .i64 X) (hy : a.eval y = .int .i64 Y) (hz : Z = if Y < X then Y else X)
    (h : wpList P ops Q rest (a.put o.dst (.int .i64 Z)) w) : wpList P ops Q (o :: rest) a w := by
  refine wpList_ok hgd (v := .int .i64 Z) ?_ h
  subst hz
  obtain ⟨dst, op, ty, pos, after, guard⟩ := o
  subst ho
  simp only [BigFrame.execOp_builtin, BigFrame.builtin_min]
  simp [hx, hy, Builtin.min_, Builtin.min2]
#print axioms wl_min
end Go.Proofs.YtcnhifkpflaibaaDoor

namespace Go.Proofs.YtcnhifkpflaibaaDoor
open Go.RowKit

/-- order.Compare as a value. -/
def cmpV : Value := .func (.func 78) #[] #[]

theorem wl_store {w : World} {ops : Array Oper} {rest : List Oper} {o : Oper} {a : Act} {Q : Exit → Act → World → Prop} (hgd : o.guard = none) (x y : Operand) (ho : o.op = .store 35 x y)
    (g off : Nat) (l : List UInt8) (hl : l.length = 32) (hx : a.eval x = .pointer (some ⟨g, off, none⟩)) (hy : a.eval y = .agg (idCells l)) (ht : w.there g off 32)
    (h : wpList Tryd.prog ops Q rest (a.put o.dst undef) (w.setCells g off (l.map B))) : wpList Tryd.prog ops Q (o :: rest) a w :=
  wpList_store_mid hgd 35 x y ho g off (idCells l) hx hy (by rw [idCells_size hl]; exact ht) (by rw [idCells_size hl]; exact info_id) (all_oneCell_toArray (fun v hv => by obtain ⟨b, _, rfl⟩ := List.mem_map.1 hv; rfl)) h

theorem store_step {w : World} {ops : Array Oper} {o : Oper} {a : Act} {K : Act → World → Prop} {Q : Exit → Act → World → Prop} (x y : Operand) {g off : Nat} {l : List UInt8} (hl : l.length = 32) (ht : w.there g off 32)
    (h : K (a.put o.dst undef) (w.setCells g off (l.map B))) (hgd : o.guard = none := by rfl) (ho : o.op = .store 35 x y := by rfl) (hx : a.eval x = .pointer (some ⟨g, off, none⟩) := by rfl) (hy : a.eval y = .agg (idCells l) := by rfl) :
    if Region.wanted o (yielded ops a.tmps) = true then o.wp Tryd.prog a w K Q else K (a.put o.dst undef) w := by
  rw [if_pos (by unfold Region.wanted; rw [hgd])]
  exact wp_store_mid 35 x y ho g off (idCells l) hx hy (by rw [idCells_size hl]; exact ht) (by rw [idCells_size hl]; exact info_id) (all_oneCell_toArray (fun v hv => by obtain ⟨b, _, rfl⟩ := List.mem_map.1 hv; rfl)) h

/-- The row, as far as it is filled. -/
def filled (R M : List (List UInt8)) (i j : Nat) : List (List UInt8) := R.take i ++ (M.take j ++ R.drop (i + j))
theorem filled_length {R M : List (List UInt8)} {i j : Nat} (h : i + M.length ≤ R.length) (hj : j ≤ M.length) : (filled R M i j).length = R.length := by
  unfold filled; simp; omega
theorem filled_zero (R M : List (List UInt8)) (i : Nat) : filled R M i 0 = R := by unfold filled; simp
theorem filled_step {R M : List (List UInt8)} {i j : Nat} {x : List UInt8} {T : List (List UInt8)} (h : i + M.length ≤ R.length) (hj : j < M.length) (hd : M.drop j = x :: T) : (filled R M i j).set (i + j) x = filled R M i (j + 1) := by
  unfold filled
  have hx : M[j] = x := by
    have := List.drop_eq_getElem_cons hj
    rw [hd] at this
    exact (List.cons.inj this).1.symm
  rw [List.set_append_right _ _ (by simp; omega), List.length_take, show i + j - min i R.length = j from by omega, List.set_append_right _ _ (by simp; omega), List.length_take,
    show j - min j M.length = 0 from by omega, List.take_succ_eq_append_getElem hj, hx]
  rw [List.drop_eq_getElem_cons (show i + j < R.length by omega), List.set_cons_zero]
  simp [Nat.add_assoc]
theorem drop_next {M T : List (List UInt8)} {j : Nat} {x : List UInt8} (hd : M.drop j = x :: T) : M.drop (j + 1) = T := by
  rw [← List.drop_drop, hd]; rfl

theorem cmpV_any (l k : List UInt8) (z : Int) (w : World) (hl : l.length = 32) (hk : k.length = 32) (h : z = cmpF l k) : Calls Tryd.prog 78 #[.agg (idCells l), .agg (idCells k)] w fun e w' => e = .returned (.int .i64 z) ∧ Below w.heap.size w w' := cmp_is l k z w hl hk h

theorem IdsAt.empty {w : World} {a : Option Addr} {c : Nat} {L : List (List UInt8)} (h : IdsAt w a 0 c L) : L = [] := List.length_eq_zero_iff.1 h.1
theorem IdsAt.cons {w : World} {a : Option Addr} {n c : Nat} {L : List (List UInt8)} (h : IdsAt w a n c L) (hn : 0 < n) : ∃ x T, L = x :: T ∧ x.length = 32 := by
  cases L with
  | nil => have := h.1; simp at this; omega
  | cons x T => exact ⟨x, T, rfl, h.2.2.2.1 x (by simp)⟩

/-- What is left of a slice behind its first. -/
def NotIn (a : Option Addr) (g : Nat) : Prop := ∀ b off, a = some ⟨b, off, none⟩ → b ≠ g

set_option maxRecDepth 100000 in
set_option maxHeartbeats 4000000 in
theorem merge_any (gr i n cR : Nat) (R : List (List UInt8)) (aA aC : Option Addr) (nA cA nC cC : Nat) (A C : List (List UInt8)) (w : World)
    (hR : RowC w gr R) (hin : i + n ≤ R.length) (hA : IdsAt w aA nA cA A) (hC : IdsAt w aC nC cC C) (hAn : NotIn aA gr) (hCn : NotIn aC gr) (hnn : nA + nC = n) (hn : n ≤ 1000000000000) :
    Calls Tryd.prog 85 #[.slice (some ⟨gr, i * 32, none⟩) n cR, .slice aA nA cA, .slice aC nC cC, cmpV] w
      fun e w' => e = .returned (.tuple #[]) ∧ Kept gr w w' ∧ RowC w' gr (filled R (mrg A C) i n) := by
  obtain ⟨M, hM⟩ : ∃ M, M = mrg A C := ⟨_, rfl⟩
  have hMl : M.length = n := by rw [hM, mrg_length, hA.1, hC.1]; exact hnn
  rw [← hM]
  have HR := Lib.hid hR
  have HIN := Lib.hid (show i + M.length ≤ R.length by omega)
  have HML := Lib.hid hMl
  have hnI : (n : Int) ≤ 1000000000000 := by omega
  have HA := Lib.hid hA
  have HC := Lib.hid hC
  have HAN := Lib.hid hAn
  have HCN := Lib.hid hCn
  have HM := Lib.hid (show M.drop 0 = mrg A C by rw [List.drop_zero]; exact hM)
  have HNN := Lib.hid hnn
  clear hR hin hA hC hAn hCn hnn hn hM hMl
  unfold cmpV
  go_enter Tryd.func85, Tryd.ntmps85
  go_wp2
  go_loopg [1, 2, 11] n (fun g v1 v2 v11 W => ∃ (j : Nat) (A' C' : List (List UInt8)) (a1 a2 : Option Addr) (n1 c1 n2 c2 : Nat), v1 = .slice a1 n1 c1 ∧ v2 = .slice a2 n2 c2 ∧ v11 = .int .i64 j ∧ g + j = n ∧ n1 + n2 = g ∧ Kept gr w W ∧ Hid (RowC W gr (filled R M i j)) ∧ Hid (IdsAt W a1 n1 c1 A') ∧ Hid (IdsAt W a2 n2 c2 C') ∧ Hid (NotIn a1 gr) ∧ Hid (NotIn a2 gr) ∧ Hid (M.drop j = mrg A' C'))
  case atStart => exact ⟨0, A, C, aA, aC, nA, cA, nC, cC, rfl, rfl, rfl, rfl, HNN.out, Kept.refl _ _, Lib.hid (by rw [filled_zero]; exact HR.out), HA, HC, HAN, HCN, HM⟩
  case round =>
    obtain ⟨j, A', C', a1, a2, n1, c1, n2, c2, rfl, rfl, rfl, hg, hng, hkw, hrow, hA', hC', hAn', hCn', hdrop⟩ := hrel
    have HG := Lib.hid hg
    have HNG := Lib.hid hng
    have h0 : (0 : Int) ≤ (j : Int) := by omega
    have h2 : (j : Int) ≤ (n : Int) := by omega
    by_cases hlt : (j : Int) < (n : Int)
    · have hjn : j < n := by omega
      have HJ := Lib.hid hjn
      clear hg hng
      by_cases hc0 : n2 = 0
      · -- nothing left behind
        subst hc0
        obtain ⟨x, T, hxT, hx⟩ := hA'.out.cons (by have := HNG.out; have := HG.out; omega)
        subst hxT
        have hCe := hC'.out.empty
        subst hCe
        have HD := Lib.hid (show M.drop j = x :: mrg T [] by rw [hdrop.out]; exact mrg_left (.inl rfl))
        obtain ⟨ba, oa, rfl⟩ := hA'.out.some_ (by have := HNG.out; have := HG.out; omega)
        have HX := Lib.hid hx
        clear hx
        have HNP := Lib.hid (show 1 ≤ n1 by have := HNG.out; have := HG.out; omega)
        go_wp2
        go_quiet (fail)
        have hkd : Kept gr w (wr.drewN nq) := hkw.trans (Kept.of_below (below_drewN (Below.refl _ _) _))
        have HRD := Lib.hid (hrow.out.below (below_drewN (Below.refl _ _) nq))
        have HAD := Lib.hid (hA'.out.below (below_drewN (Below.refl _ _) nq))
        have HCD := Lib.hid (hC'.out.below (below_drewN (Below.refl _ _) nq))
        clear hrow hA' hC' hkw
        generalize wr.drewN nq = wq at hkd HRD HAD HCD ⊢
        have HRL := Lib.hid (filled_length (j := j) HIN.out (by rw [HML.out]; exact Nat.le_of_lt HJ.out))
        have HRD2 := Lib.hid (HRD.out.below (Below.refl _ wq).drew)
        have HST := Lib.hid (show wq.drew.there gr (i * 32 + j * 32) 32 from by have := HRD2.out.there_at (i + j) (by rw [HRL.out]; have := HIN.out; have := HML.out; have := HJ.out; omega); rwa [Nat.add_mul] at this)
        have HS0 := Lib.hid (show wq.drew.rangeAt ba oa (x.map B) by have := (HAD.out.below (Below.refl _ wq).drew).at_ 0 (by have := HNP.out; omega); rwa [Nat.zero_mul, Nat.add_zero] at this)
        have HKS := Lib.hid (Kept.setCells gr (i * 32 + j * 32) (x.map B) wq.drew)
        have HSS := Lib.hid (show (wq.drew.setCells gr (i * 32 + j * 32) (x.map B)).rangeAt ba oa (x.map B) from rangeAt_kept HS0.out HKS.out (hAn'.out _ _ rfl))
        have HRS := Lib.hid (show RowC (wq.drew.setCells gr (i * 32 + j * 32) (x.map B)) gr (filled R M i (j + 1)) by have h1 := HRD2.out.store (i + j) (by rw [HRL.out]; have := HIN.out; have := HML.out; have := HJ.out; omega) x HX.out; rw [filled_step HIN.out (by rw [HML.out]; exact HJ.out) HD.out, Nat.add_mul] at h1; exact h1)
        have HTL := Lib.hid ((HAD.out.below (Below.refl _ wq).drew).tail_.kept HKS.out (hAn'.out _ _ rfl))
        have HOT := Lib.hid ((HCD.out.below (Below.refl _ wq).drew).kept_ HKS.out hCn'.out)
        have HKK := Lib.hid (hkd.trans ((Kept.of_below (Below.refl _ wq).drew).trans HKS.out))
        have HDN := Lib.hid (drop_next HD.out)
        have hu := Tryd.underlying35
        have hi1 : (Tryd.prog.info? 35).map (·.size) = some (x.map B).length := by rw [List.length_map, HX.out]; exact info_id
        have HXL := HX
        have hn1 : (1 : Int) ≤ (n1 : Int) := by have := HNP.out; omega
        have hn1' : 1 ≤ n1 := by omega
        have hn0 : 0 < n1 := by omega
        have hcc : (c1 : Int) ≤ 9223372036854775807 := by have := HAD.out.2.2.1; omega
        have hnc : n1 ≤ c1 := HAD.out.2.1
        have HTN := Lib.hid HAD.out.1
        clear hkd
        by_cases hc1 : c1 = 1
        · have hn11 : n1 = 1 := by omega
          subst hn11
          have hTe : T = [] := List.length_eq_zero_iff.1 (by have h := HTN.out; rw [List.length_cons] at h; omega)
          subst hTe
          subst hc1
          have HTE := Lib.hid (show IdsAt (wq.drew.setCells gr (i * 32 + j * 32) (x.map B)) (some ⟨ba, oa, none⟩) 0 0 [] from ⟨rfl, Nat.le_refl _, by omega, (fun _ h => by cases h), .inl ⟨rfl, rfl⟩⟩)
          go_wp2
          refine wp_region_held_drew (S := fun W => W.rangeAt ba oa (x.map B)) (by kernel_rfl) HS0.out (fun hHeld => ?_)
          refine wpAnyH_take (i := 0) (oi := ⟨some 33, .move (.tmp 0), _, _, _, _⟩) (v := (.slice (some ⟨gr, i * 32, none⟩) n cR)) rfl (by kernel_rfl) (by kernel_rfl) (by kernel_rfl) (fun _ _ _ h => h) (Or.inl ⟨by rfl, fun W hW => by go_simp⟩) (by assumption) ?_
          simp only [Act.put, List.setIfInBounds_toArray, List.set_cons_zero, List.set_cons_succ]
          refine wpAnyH_take (i := 1) (oi := ⟨some 34, .move (.tmp 8), _, _, _, _⟩) (v := (.int .i64 (j : Int))) rfl (by kernel_rfl) (by kernel_rfl) (by kernel_rfl) (fun _ _ _ h => h) (Or.inl ⟨by rfl, fun W hW => by go_simp⟩) (by assumption) ?_
          simp only [Act.put, List.setIfInBounds_toArray, List.set_cons_zero, List.set_cons_succ]
          refine wpAnyH_take (i := 2) (oi := ⟨some 35, .move (.tmp 1), _, _, _, _⟩) (v := (.slice (some ⟨ba, oa, none⟩) 1 1)) rfl (by kernel_rfl) (by kernel_rfl) (by kernel_rfl) (fun _ _ _ h => h) (Or.inl ⟨by rfl, fun W hW => by go_simp⟩) (by assumption) ?_
          simp only [Act.put, List.setIfInBounds_toArray, List.set_cons_zero, List.set_cons_succ]
          refine wpAnyH_take (i := 3) (oi := ⟨some 36, .indexAddr 45 (.tmp 35) (.const (.int .i64 0)), _, _, _, _⟩) (v := (.pointer (some ⟨ba, oa, none⟩))) rfl (by kernel_rfl) (by kernel_rfl) (by kernel_rfl) (fun _ _ _ h => h) (Or.inl ⟨by rfl, fun W hW => by go_simp⟩) (by assumption) ?_
          simp only [Act.put, List.setIfInBounds_toArray, List.set_cons_zero, List.set_cons_succ]
          refine wpAnyH_take (i := 4) (oi := ⟨some 37, .load 35 (.tmp 36), _, _, _, _⟩) (v := _) rfl (by kernel_rfl) (by kernel_rfl) (by kernel_rfl) (fun _ _ _ h => h) (yieldsIf_load_mid (by rfl) _ _ rfl _ _ rfl _ _ (fun W hW => hW) hu rfl hi1) (by assumption) ?_
          simp only [Act.put, List.setIfInBounds_toArray, List.set_cons_zero, List.set_cons_succ]
          refine wpAnyH_take (i := 5) (oi := ⟨some 38, .move (.tmp 1), _, _, _, _⟩) (v := (.slice (some ⟨ba, oa, none⟩) 1 1)) rfl (by kernel_rfl) (by kernel_rfl) (by kernel_rfl) (fun _ _ _ h => h) (Or.inl ⟨by rfl, fun W hW => by go_simp⟩) (by assumption) ?_
          simp only [Act.put, List.setIfInBounds_toArray, List.set_cons_zero, List.set_cons_succ]
          refine wpAnyH_take (i := 6) (oi := ⟨some 39, .slice 45 (.tmp 38) (some (.const (.int .i64 1))) none none, _, _, _, _⟩) (v := (.slice (some ⟨ba, oa, none⟩) 0 0)) rfl (by kernel_rfl) (by kernel_rfl) (by kernel_rfl) (fun _ _ _ h => h) (Or.inl ⟨by rfl, fun W hW => by go_simp⟩) (by assumption) ?_
          simp only [Act.put, List.setIfInBounds_toArray, List.set_cons_zero, List.set_cons_succ]
          refine wpAnyH_take (i := 7) (oi := ⟨some 40, .indexAddr 45 (.tmp 33) (.tmp 34), _, _, _, _⟩) (v := (.pointer (some ⟨gr, i * 32 + j * 32, none⟩))) rfl (by kernel_rfl) (by kernel_rfl) (by kernel_rfl) (fun _ _ _ h => h) (Or.inl ⟨by rfl, fun W hW => by go_simp⟩) (by assumption) ?_
          simp only [Act.put, List.setIfInBounds_toArray, List.set_cons_zero, List.set_cons_succ]
          refine wpAnyH_ready (rs := [8]) (by kernel_rfl) (by simp) ?_
          refine AllReadyH.cons (o := ⟨none, .store 35 (.tmp 40) (.tmp 37), _, _, _, _⟩) rfl (fun K hK => ?_) AllReadyH.nil
          refine store_step (.tmp 40) (.tmp 37) HXL.out HST.out ?_
          refine hK.out _ _ HSS.out (fun hHeld => ?_)
          clear hK K
          simp only [Act.put]
          refine wpAnyH_take (i := 9) (oi := ⟨some 1, .assign (.tmp 39), _, _, _, _⟩) (v := (.slice (some ⟨ba, oa, none⟩) 0 0)) rfl (by kernel_rfl) (by kernel_rfl) (by kernel_rfl) (fun _ _ _ h => h) (Or.inl ⟨by rfl, fun W hW => by go_simp⟩) (by assumption) ?_
          simp only [Act.put, List.setIfInBounds_toArray, List.set_cons_zero, List.set_cons_succ]
          refine wpAnyH_done (by kernel_rfl) ?_ _
          go_wp2
          go_roundg (gk - 1)
          case measure => have := HG.out; have := HJ.out; omega
          case rel => exact ⟨j + 1, _, _, _, _, _, _, _, _, rfl, rfl, by go_num, by have := HG.out; have := HJ.out; omega, by have := HG.out; have := HNG.out; have := HJ.out; omega, HKK.out, HRS, HTE, HOT, hAn', hCn', HDN⟩
        · have hc2 : (1 : Int) < (c1 : Int) := by omega
          have hnc' : (n1 : Int) ≤ (c1 : Int) := by omega
          have HNW := Lib.hid (show NotIn (some ⟨ba, oa + 32, none⟩) gr from fun b off h => by simp only [Option.some.injEq, Addr.mk.injEq, and_true] at h; obtain ⟨rfl, _⟩ := h; exact hAn'.out _ oa rfl)
          go_wp2
          refine wp_region_held_drew (S := fun W => W.rangeAt ba oa (x.map B)) (by kernel_rfl) HS0.out (fun hHeld => ?_)
          refine wpAnyH_take (i := 0) (oi := ⟨some 33, .move (.tmp 0), _, _, _, _⟩) (v := (.slice (some ⟨gr, i * 32, none⟩) n cR)) rfl (by kernel_rfl) (by kernel_rfl) (by kernel_rfl) (fun _ _ _ h => h) (Or.inl ⟨by rfl, fun W hW => by go_simp⟩) (by assumption) ?_
          simp only [Act.put, List.setIfInBounds_toArray, List.set_cons_zero, List.set_cons_succ]
          refine wpAnyH_take (i := 1) (oi := ⟨some 34, .move (.tmp 8), _, _, _, _⟩) (v := (.int .i64 (j : Int))) rfl (by kernel_rfl) (by kernel_rfl) (by kernel_rfl) (fun _ _ _ h => h) (Or.inl ⟨by rfl, fun W hW => by go_simp⟩) (by assumption) ?_
          simp only [Act.put, List.setIfInBounds_toArray, List.set_cons_zero, List.set_cons_succ]
          refine wpAnyH_take (i := 2) (oi := ⟨some 35, .move (.tmp 1), _, _, _, _⟩) (v := (.slice (some ⟨ba, oa, none⟩) n1 c1)) rfl (by kernel_rfl) (by kernel_rfl) (by kernel_rfl) (fun _ _ _ h => h) (Or.inl ⟨by rfl, fun W hW => by go_simp⟩) (by assumption) ?_
          simp only [Act.put, List.setIfInBounds_toArray, List.set_cons_zero, List.set_cons_succ]
          refine wpAnyH_take (i := 3) (oi := ⟨some 36, .indexAddr 45 (.tmp 35) (.const (.int .i64 0)), _, _, _, _⟩) (v := (.pointer (some ⟨ba, oa, none⟩))) rfl (by kernel_rfl) (by kernel_rfl) (by kernel_rfl) (fun _ _ _ h => h) (Or.inl ⟨by rfl, fun W hW => by go_simp⟩) (by assumption) ?_
          simp only [Act.put, List.setIfInBounds_toArray, List.set_cons_zero, List.set_cons_succ]
          refine wpAnyH_take (i := 4) (oi := ⟨some 37, .load 35 (.tmp 36), _, _, _, _⟩) (v := _) rfl (by kernel_rfl) (by kernel_rfl) (by kernel_rfl) (fun _ _ _ h => h) (yieldsIf_load_mid (by rfl) _ _ rfl _ _ rfl _ _ (fun W hW => hW) hu rfl hi1) (by assumption) ?_
          simp only [Act.put, List.setIfInBounds_toArray, List.set_cons_zero, List.set_cons_succ]
          refine wpAnyH_take (i := 5) (oi := ⟨some 38, .move (.tmp 1), _, _, _, _⟩) (v := (.slice (some ⟨ba, oa, none⟩) n1 c1)) rfl (by kernel_rfl) (by kernel_rfl) (by kernel_rfl) (fun _ _ _ h => h) (Or.inl ⟨by rfl, fun W hW => by go_simp⟩) (by assumption) ?_
          simp only [Act.put, List.setIfInBounds_toArray, List.set_cons_zero, List.set_cons_succ]
          refine wpAnyH_take (i := 6) (oi := ⟨some 39, .slice 45 (.tmp 38) (some (.const (.int .i64 1))) none none, _, _, _, _⟩) (v := (.slice (some ⟨ba, oa + 32, none⟩) (n1 - 1) (c1 - 1))) rfl (by kernel_rfl) (by kernel_rfl) (by kernel_rfl) (fun _ _ _ h => h) (Or.inl ⟨by rfl, fun W hW => by go_simp⟩) (by assumption) ?_
          simp only [Act.put, List.setIfInBounds_toArray, List.set_cons_zero, List.set_cons_succ]
          refine wpAnyH_take (i := 7) (oi := ⟨some 40, .indexAddr 45 (.tmp 33) (.tmp 34), _, _, _, _⟩) (v := (.pointer (some ⟨gr, i * 32 + j * 32, none⟩))) rfl (by kernel_rfl) (by kernel_rfl) (by kernel_rfl) (fun _ _ _ h => h) (Or.inl ⟨by rfl, fun W hW => by go_simp⟩) (by assumption) ?_
          simp only [Act.put, List.setIfInBounds_toArray, List.set_cons_zero, List.set_cons_succ]
          refine wpAnyH_ready (rs := [8]) (by kernel_rfl) (by simp) ?_
          refine AllReadyH.cons (o := ⟨none, .store 35 (.tmp 40) (.tmp 37), _, _, _, _⟩) rfl (fun K hK => ?_) AllReadyH.nil
          refine store_step (.tmp 40) (.tmp 37) HXL.out HST.out ?_
          refine hK.out _ _ HSS.out (fun hHeld => ?_)
          clear hK K
          simp only [Act.put]
          refine wpAnyH_take (i := 9) (oi := ⟨some 1, .assign (.tmp 39), _, _, _, _⟩) (v := (.slice (some ⟨ba, oa + 32, none⟩) (n1 - 1) (c1 - 1))) rfl (by kernel_rfl) (by kernel_rfl) (by kernel_rfl) (fun _ _ _ h => h) (Or.inl ⟨by rfl, fun W hW => by go_simp⟩) (by assumption) ?_
          simp only [Act.put, List.setIfInBounds_toArray, List.set_cons_zero, List.set_cons_succ]
          refine wpAnyH_done (by kernel_rfl) ?_ _
          go_wp2
          go_roundg (gk - 1)
          case measure => have := HG.out; have := HJ.out; omega
          case rel => exact ⟨j + 1, _, _, _, _, _, _, _, _, rfl, rfl, by go_num, by have := HG.out; have := HJ.out; omega, by have := HG.out; have := HNG.out; have := HJ.out; omega, HKK.out, HRS, HTL, HOT, HNW, hCn', HDN⟩
      · have hn2p : 0 < n2 := by omega
        obtain ⟨y, U, hyU, hy⟩ := hC'.out.cons hn2p
        subst hyU
        have d2 : ((n2 : Int) == 0) = false := by simp; omega
        have d2' : (n2 == 0) = false := by simp; omega
        by_cases ha0 : n1 = 0
        · -- nothing left ahead
          subst ha0
          have hAe := hA'.out.empty
          subst hAe
          obtain ⟨x, T, hx, rfl, rfl⟩ : ∃ x T, x.length = 32 ∧ x = y ∧ T = U := ⟨y, U, hy, rfl, rfl⟩
          have HD := Lib.hid (show M.drop j = x :: mrg [] T by rw [hdrop.out]; exact mrg_right (.inl rfl))
          obtain ⟨ba, oa, rfl⟩ := hC'.out.some_ hn2p
          have HX := Lib.hid hx
          have HNP := Lib.hid (show 1 ≤ n2 from hn2p)
          clear hx hy hc0
          go_wp2
          go_quiet (fail)
          have hkd : Kept gr w (wr.drewN nq) := hkw.trans (Kept.of_below (below_drewN (Below.refl _ _) _))
          have HRD := Lib.hid (hrow.out.below (below_drewN (Below.refl _ _) nq))
          have HAD := Lib.hid (hA'.out.below (below_drewN (Below.refl _ _) nq))
          have HCD := Lib.hid (hC'.out.below (below_drewN (Below.refl _ _) nq))
          clear hrow hA' hC' hkw
          generalize wr.drewN nq = wq at hkd HRD HAD HCD ⊢
          have HRL := Lib.hid (filled_length (j := j) HIN.out (by rw [HML.out]; exact Nat.le_of_lt HJ.out))
          have HRD2 := Lib.hid (HRD.out.below (Below.refl _ wq).drew)
          have HST := Lib.hid (show wq.drew.there gr (i * 32 + j * 32) 32 from by have := HRD2.out.there_at (i + j) (by rw [HRL.out]; have := HIN.out; have := HML.out; have := HJ.out; omega); rwa [Nat.add_mul] at this)
          have HS0 := Lib.hid (show wq.drew.rangeAt ba oa (x.map B) by have := (HCD.out.below (Below.refl _ wq).drew).at_ 0 (by have := HNP.out; omega); rwa [Nat.zero_mul, Nat.add_zero] at this)
          have HKS := Lib.hid (Kept.setCells gr (i * 32 + j * 32) (x.map B) wq.drew)
          have HSS := Lib.hid (show (wq.drew.setCells gr (i * 32 + j * 32) (x.map B)).rangeAt ba oa (x.map B) from rangeAt_kept HS0.out HKS.out (hCn'.out _ _ rfl))
          have HRS := Lib.hid (show RowC (wq.drew.setCells gr (i * 32 + j * 32) (x.map B)) gr (filled R M i (j + 1)) by have h1 := HRD2.out.store (i + j) (by rw [HRL.out]; have := HIN.out; have := HML.out; have := HJ.out; omega) x HX.out; rw [filled_step HIN.out (by rw [HML.out]; exact HJ.out) HD.out, Nat.add_mul] at h1; exact h1)
          have HTL := Lib.hid ((HCD.out.below (Below.refl _ wq).drew).tail_.kept HKS.out (hCn'.out _ _ rfl))
          have HOT := Lib.hid ((HAD.out.below (Below.refl _ wq).drew).kept_ HKS.out hAn'.out)
          have HKK := Lib.hid (hkd.trans ((Kept.of_below (Below.refl _ wq).drew).trans HKS.out))
          have HDN := Lib.hid (drop_next HD.out)
          have hu := Tryd.underlying35
          have hi1 : (Tryd.prog.info? 35).map (·.size) = some (x.map B).length := by rw [List.length_map, HX.out]; exact info_id
          have HXL := HX
          have hn1 : (1 : Int) ≤ (n2 : Int) := by have := HNP.out; omega
          have hn1' : 1 ≤ n2 := by omega
          have hn0 : 0 < n2 := by omega
          have hcc : (c2 : Int) ≤ 9223372036854775807 := by have := HCD.out.2.2.1; omega
          have hnc : n2 ≤ c2 := HCD.out.2.1
          have HTN := Lib.hid HCD.out.1
          clear hkd
          by_cases hc1 : c2 = 1
          · have hn11 : n2 = 1 := by omega
            subst hn11
            have hTe : T = [] := List.length_eq_zero_iff.1 (by have h := HTN.out; rw [List.length_cons] at h; omega)
            subst hTe
            subst hc1
            have HTE := Lib.hid (show IdsAt (wq.drew.setCells gr (i * 32 + j * 32) (x.map B)) (some ⟨ba, oa, none⟩) 0 0 [] from ⟨rfl, Nat.le_refl _, by omega, (fun _ h => by cases h), .inl ⟨rfl, rfl⟩⟩)
            go_wp2
            refine wp_region_held_drew (S := fun W => W.rangeAt ba oa (x.map B)) (by kernel_rfl) HS0.out (fun hHeld => ?_)
            refine wpAnyH_take (i := 0) (oi := ⟨some 41, .move (.tmp 0), _, _, _, _⟩) (v := (.slice (some ⟨gr, i * 32, none⟩) n cR)) rfl (by kernel_rfl) (by kernel_rfl) (by kernel_rfl) (fun _ _ _ h => h) (Or.inl ⟨by rfl, fun W hW => by go_simp⟩) (by assumption) ?_
            simp only [Act.put, List.setIfInBounds_toArray, List.set_cons_zero, List.set_cons_succ]
            refine wpAnyH_take (i := 1) (oi := ⟨some 42, .move (.tmp 8), _, _, _, _⟩) (v := (.int .i64 (j : Int))) rfl (by kernel_rfl) (by kernel_rfl) (by kernel_rfl) (fun _ _ _ h => h) (Or.inl ⟨by rfl, fun W hW => by go_simp⟩) (by assumption) ?_
            simp only [Act.put, List.setIfInBounds_toArray, List.set_cons_zero, List.set_cons_succ]
            refine wpAnyH_take (i := 2) (oi := ⟨some 43, .move (.tmp 2), _, _, _, _⟩) (v := (.slice (some ⟨ba, oa, none⟩) 1 1)) rfl (by kernel_rfl) (by kernel_rfl) (by kernel_rfl) (fun _ _ _ h => h) (Or.inl ⟨by rfl, fun W hW => by go_simp⟩) (by assumption) ?_
            simp only [Act.put, List.setIfInBounds_toArray, List.set_cons_zero, List.set_cons_succ]
            refine wpAnyH_take (i := 3) (oi := ⟨some 44, .indexAddr 45 (.tmp 43) (.const (.int .i64 0)), _, _, _, _⟩) (v := (.pointer (some ⟨ba, oa, none⟩))) rfl (by kernel_rfl) (by kernel_rfl) (by kernel_rfl) (fun _ _ _ h => h) (Or.inl ⟨by rfl, fun W hW => by go_simp⟩) (by assumption) ?_
            simp only [Act.put, List.setIfInBounds_toArray, List.set_cons_zero, List.set_cons_succ]
            refine wpAnyH_take (i := 4) (oi := ⟨some 45, .load 35 (.tmp 44), _, _, _, _⟩) (v := _) rfl (by kernel_rfl) (by kernel_rfl) (by kernel_rfl) (fun _ _ _ h => h) (yieldsIf_load_mid (by rfl) _ _ rfl _ _ rfl _ _ (fun W hW => hW) hu rfl hi1) (by assumption) ?_
            simp only [Act.put, List.setIfInBounds_toArray, List.set_cons_zero, List.set_cons_succ]
            refine wpAnyH_take (i := 5) (oi := ⟨some 46, .move (.tmp 2), _, _, _, _⟩) (v := (.slice (some ⟨ba, oa, none⟩) 1 1)) rfl (by kernel_rfl) (by kernel_rfl) (by kernel_rfl) (fun _ _ _ h => h) (Or.inl ⟨by rfl, fun W hW => by go_simp⟩) (by assumption) ?_
            simp only [Act.put, List.setIfInBounds_toArray, List.set_cons_zero, List.set_cons_succ]
            refine wpAnyH_take (i := 6) (oi := ⟨some 47, .slice 45 (.tmp 46) (some (.const (.int .i64 1))) none none, _, _, _, _⟩) (v := (.slice (some ⟨ba, oa, none⟩) 0 0)) rfl (by kernel_rfl) (by kernel_rfl) (by kernel_rfl) (fun _ _ _ h => h) (Or.inl ⟨by rfl, fun W hW => by go_simp⟩) (by assumption) ?_
            simp only [Act.put, List.setIfInBounds_toArray, List.set_cons_zero, List.set_cons_succ]
            refine wpAnyH_take (i := 7) (oi := ⟨some 48, .indexAddr 45 (.tmp 41) (.tmp 42), _, _, _, _⟩) (v := (.pointer (some ⟨gr, i * 32 + j * 32, none⟩))) rfl (by kernel_rfl) (by kernel_rfl) (by kernel_rfl) (fun _ _ _ h => h) (Or.inl ⟨by rfl, fun W hW => by go_simp⟩) (by assumption) ?_
            simp only [Act.put, List.setIfInBounds_toArray, List.set_cons_zero, List.set_cons_succ]
            refine wpAnyH_ready (rs := [8]) (by kernel_rfl) (by simp) ?_
            refine AllReadyH.cons (o := ⟨none, .store 35 (.tmp 48) (.tmp 45), _, _, _, _⟩) rfl (fun K hK => ?_) AllReadyH.nil
            refine store_step (.tmp 48) (.tmp 45) HXL.out HST.out ?_
            refine hK.out _ _ HSS.out (fun hHeld => ?_)
            clear hK K
            simp only [Act.put]
            refine wpAnyH_take (i := 9) (oi := ⟨some 2, .assign (.tmp 47), _, _, _, _⟩) (v := (.slice (some ⟨ba, oa, none⟩) 0 0)) rfl (by kernel_rfl) (by kernel_rfl) (by kernel_rfl) (fun _ _ _ h => h) (Or.inl ⟨by rfl, fun W hW => by go_simp⟩) (by assumption) ?_
            simp only [Act.put, List.setIfInBounds_toArray, List.set_cons_zero, List.set_cons_succ]
            refine wpAnyH_done (by kernel_rfl) ?_ _
            go_wp2
            go_roundg (gk - 1)
            case measure => have := HG.out; have := HJ.out; omega
            case rel => exact ⟨j + 1, _, _, _, _, _, _, _, _, rfl, rfl, by go_num, by have := HG.out; have := HJ.out; omega, by have := HG.out; have := HNG.out; have := HJ.out; omega, HKK.out, HRS, HOT, HTE, hAn', hCn', HDN⟩
          · have hc2 : (1 : Int) < (c2 : Int) := by omega
            have hnc' : (n2 : Int) ≤ (c2 : Int) := by omega
            have HNW := Lib.hid (show NotIn (some ⟨ba, oa + 32, none⟩) gr from fun b off h => by simp only [Option.some.injEq, Addr.mk.injEq, and_true] at h; obtain ⟨rfl, _⟩ := h; exact hCn'.out _ oa rfl)
            go_wp2
            refine wp_region_held_drew (S := fun W => W.rangeAt ba oa (x.map B)) (by kernel_rfl) HS0.out (fun hHeld => ?_)
            refine wpAnyH_take (i := 0) (oi := ⟨some 41, .move (.tmp 0), _, _, _, _⟩) (v := (.slice (some ⟨gr, i * 32, none⟩) n cR)) rfl (by kernel_rfl) (by kernel_rfl) (by kernel_rfl) (fun _ _ _ h => h) (Or.inl ⟨by rfl, fun W hW => by go_simp⟩) (by assumption) ?_
            simp only [Act.put, List.setIfInBounds_toArray, List.set_cons_zero, List.set_cons_succ]
            refine wpAnyH_take (i := 1) (oi := ⟨some 42, .move (.tmp 8), _, _, _, _⟩) (v := (.int .i64 (j : Int))) rfl (by kernel_rfl) (by kernel_rfl) (by kernel_rfl) (fun _ _ _ h => h) (Or.inl ⟨by rfl, fun W hW => by go_simp⟩) (by assumption) ?_
            simp only [Act.put, List.setIfInBounds_toArray, List.set_cons_zero, List.set_cons_succ]
            refine wpAnyH_take (i := 2) (oi := ⟨some 43, .move (.tmp 2), _, _, _, _⟩) (v := (.slice (some ⟨ba, oa, none⟩) n2 c2)) rfl (by kernel_rfl) (by kernel_rfl) (by kernel_rfl) (fun _ _ _ h => h) (Or.inl ⟨by rfl, fun W hW => by go_simp⟩) (by assumption) ?_
            simp only [Act.put, List.setIfInBounds_toArray, List.set_cons_zero, List.set_cons_succ]
            refine wpAnyH_take (i := 3) (oi := ⟨some 44, .indexAddr 45 (.tmp 43) (.const (.int .i64 0)), _, _, _, _⟩) (v := (.pointer (some ⟨ba, oa, none⟩))) rfl (by kernel_rfl) (by kernel_rfl) (by kernel_rfl) (fun _ _ _ h => h) (Or.inl ⟨by rfl, fun W hW => by go_simp⟩) (by assumption) ?_
            simp only [Act.put, List.setIfInBounds_toArray, List.set_cons_zero, List.set_cons_succ]
            refine wpAnyH_take (i := 4) (oi := ⟨some 45, .load 35 (.tmp 44), _, _, _, _⟩) (v := _) rfl (by kernel_rfl) (by kernel_rfl) (by kernel_rfl) (fun _ _ _ h => h) (yieldsIf_load_mid (by rfl) _ _ rfl _ _ rfl _ _ (fun W hW => hW) hu rfl hi1) (by assumption) ?_
            simp only [Act.put, List.setIfInBounds_toArray, List.set_cons_zero, List.set_cons_succ]
            refine wpAnyH_take (i := 5) (oi := ⟨some 46, .move (.tmp 2), _, _, _, _⟩) (v := (.slice (some ⟨ba, oa, none⟩) n2 c2)) rfl (by kernel_rfl) (by kernel_rfl) (by kernel_rfl) (fun _ _ _ h => h) (Or.inl ⟨by rfl, fun W hW => by go_simp⟩) (by assumption) ?_
            simp only [Act.put, List.setIfInBounds_toArray, List.set_cons_zero, List.set_cons_succ]
            refine wpAnyH_take (i := 6) (oi := ⟨some 47, .slice 45 (.tmp 46) (some (.const (.int .i64 1))) none none, _, _, _, _⟩) (v := (.slice (some ⟨ba, oa + 32, none⟩) (n2 - 1) (c2 - 1))) rfl (by kernel_rfl) (by kernel_rfl) (by kernel_rfl) (fun _ _ _ h => h) (Or.inl ⟨by rfl, fun W hW => by go_simp⟩) (by assumption) ?_
            simp only [Act.put, List.setIfInBounds_toArray, List.set_cons_zero, List.set_cons_succ]
            refine wpAnyH_take (i := 7) (oi := ⟨some 48, .indexAddr 45 (.tmp 41) (.tmp 42), _, _, _, _⟩) (v := (.pointer (some ⟨gr, i * 32 + j * 32, none⟩))) rfl (by kernel_rfl) (by kernel_rfl) (by kernel_rfl) (fun _ _ _ h => h) (Or.inl ⟨by rfl, fun W hW => by go_simp⟩) (by assumption) ?_
            simp only [Act.put, List.setIfInBounds_toArray, List.set_cons_zero, List.set_cons_succ]
            refine wpAnyH_ready (rs := [8]) (by kernel_rfl) (by simp) ?_
            refine AllReadyH.cons (o := ⟨none, .store 35 (.tmp 48) (.tmp 45), _, _, _, _⟩) rfl (fun K hK => ?_) AllReadyH.nil
            refine store_step (.tmp 48) (.tmp 45) HXL.out HST.out ?_
            refine hK.out _ _ HSS.out (fun hHeld => ?_)
            clear hK K
            simp only [Act.put]
            refine wpAnyH_take (i := 9) (oi := ⟨some 2, .assign (.tmp 47), _, _, _, _⟩) (v := (.slice (some ⟨ba, oa + 32, none⟩) (n2 - 1) (c2 - 1))) rfl (by kernel_rfl) (by kernel_rfl) (by kernel_rfl) (fun _ _ _ h => h) (Or.inl ⟨by rfl, fun W hW => by go_simp⟩) (by assumption) ?_
            simp only [Act.put, List.setIfInBounds_toArray, List.set_cons_zero, List.set_cons_succ]
            refine wpAnyH_done (by kernel_rfl) ?_ _
            go_wp2
            go_roundg (gk - 1)
            case measure => have := HG.out; have := HJ.out; omega
            case rel => exact ⟨j + 1, _, _, _, _, _, _, _, _, rfl, rfl, by go_num, by have := HG.out; have := HJ.out; omega, by have := HG.out; have := HNG.out; have := HJ.out; omega, HKK.out, HRS, HOT, HTL, hAn', HNW, HDN⟩
        · have hn1p : 0 < n1 := by omega
          obtain ⟨x1, T1, hxT, hx1⟩ := hA'.out.cons hn1p
          subst hxT
          have i1 : (0 : Int) < (n1 : Int) := by omega
          obtain ⟨b1, o1, rfl⟩ := hA'.out.some_ hn1p
          obtain ⟨b2, o2, rfl⟩ := hC'.out.some_ hn2p
          have HX1 := Lib.hid hx1
          have HY1 := Lib.hid hy
          have HCX := Lib.hid (show wr.drew.rangeAt b1 o1 (x1.map B) by have := (hA'.out.below (Below.refl _ wr).drew).at_ 0 hn1p; rwa [Nat.zero_mul, Nat.add_zero] at this)
          have HCY := Lib.hid (show wr.drew.rangeAt b2 o2 (y.map B) by have := (hC'.out.below (Below.refl _ wr).drew).at_ 0 hn2p; rwa [Nat.zero_mul, Nat.add_zero] at this)
          have hkd0 := hkw.trans (Kept.of_below (Below.refl _ wr).drew)
          have HRD0 := Lib.hid (hrow.out.below (Below.refl _ wr).drew)
          have HAD0 := Lib.hid (hA'.out.below (Below.refl _ wr).drew)
          have HCD0 := Lib.hid (hC'.out.below (Below.refl _ wr).drew)
          obtain ⟨z, hz⟩ : ∃ z, z = cmpF x1 y := ⟨_, rfl⟩
          have HZ := Lib.hid hz
          have HCM := fun W => Lib.hid (cmpV_any x1 y z W hx1 hy hz)
          have HNP1 := Lib.hid (show 1 ≤ n1 from hn1p)
          have HNP2 := Lib.hid (show 1 ≤ n2 from hn2p)
          clear hx1 hz hrow hA' hC' hkw ha0 hc0
          go_wp2
          refine wp_region_still_tail 15 (by kernel_rfl) (by kernel_rfl) ?_
          simp only [List.take_succ_cons, List.take_zero, List.drop_succ_cons, List.drop_zero]
          still_step
          still_step
          still_step
          still_step
          still_step
          still_step
          still_step
          still_step
          still_step
          still_step
          still_step
          refine still_w (by rfl) (exec_loadId _ rfl _ _ _ HX1.out rfl HCX.out) ?_
          simp only [Act.put, List.setIfInBounds_toArray, List.set_cons_zero, List.set_cons_succ]
          still_step
          still_step
          refine still_w (by rfl) (exec_loadId _ rfl _ _ _ HY1.out rfl HCY.out) ?_
          simp only [Act.put, List.setIfInBounds_toArray, List.set_cons_zero, List.set_cons_succ]
          refine wpStill_nil ?_
          change wpList _ _ _ _ _ wr.drew
          generalize wr.drew = w2 at hkd0 HRD0 HAD0 HCD0 ⊢
          clear HCX HCY
          by_cases hc : z ≤ 0
          · go_wp2_with (go_at_call 78; go_must (refine (HCM _).out.mono ?_); rintro e wq ⟨rfl, hb3⟩)
            have hkd := hkd0.trans (Kept.of_below hb3)
            have HRD := Lib.hid (HRD0.out.below hb3)
            have HAD := Lib.hid (HAD0.out.below hb3)
            have HCD := Lib.hid (HCD0.out.below hb3)
            obtain ⟨x, T, ba, oa, rfl, rfl, rfl, rfl⟩ : ∃ x T ba oa, x = x1 ∧ T = T1 ∧ ba = b1 ∧ oa = o1 := ⟨_, _, _, _, rfl, rfl, rfl, rfl⟩
            have HX := HX1
            have HNP := HNP1
            have HD := Lib.hid (show M.drop j = x :: mrg T (y :: U) by rw [hdrop.out]; exact mrg_left (.inr ⟨y, U, rfl, by rw [← HZ.out]; exact hc⟩))
            clear hc hy
            have HRL := Lib.hid (filled_length (j := j) HIN.out (by rw [HML.out]; exact Nat.le_of_lt HJ.out))
            have HRD2 := Lib.hid (HRD.out.below (Below.refl _ wq).drew)
            have HST := Lib.hid (show wq.drew.there gr (i * 32 + j * 32) 32 from by have := HRD2.out.there_at (i + j) (by rw [HRL.out]; have := HIN.out; have := HML.out; have := HJ.out; omega); rwa [Nat.add_mul] at this)
            have HS0 := Lib.hid (show wq.drew.rangeAt ba oa (x.map B) by have := (HAD.out.below (Below.refl _ wq).drew).at_ 0 (by have := HNP.out; omega); rwa [Nat.zero_mul, Nat.add_zero] at this)
            have HKS := Lib.hid (Kept.setCells gr (i * 32 + j * 32) (x.map B) wq.drew)
            have HSS := Lib.hid (show (wq.drew.setCells gr (i * 32 + j * 32) (x.map B)).rangeAt ba oa (x.map B) from rangeAt_kept HS0.out HKS.out (hAn'.out _ _ rfl))
            have HRS := Lib.hid (show RowC (wq.drew.setCells gr (i * 32 + j * 32) (x.map B)) gr (filled R M i (j + 1)) by have h1 := HRD2.out.store (i + j) (by rw [HRL.out]; have := HIN.out; have := HML.out; have := HJ.out; omega) x HX.out; rw [filled_step HIN.out (by rw [HML.out]; exact HJ.out) HD.out, Nat.add_mul] at h1; exact h1)
            have HTL := Lib.hid ((HAD.out.below (Below.refl _ wq).drew).tail_.kept HKS.out (hAn'.out _ _ rfl))
            have HOT := Lib.hid ((HCD.out.below (Below.refl _ wq).drew).kept_ HKS.out hCn'.out)
            have HKK := Lib.hid (hkd.trans ((Kept.of_below (Below.refl _ wq).drew).trans HKS.out))
            have HDN := Lib.hid (drop_next HD.out)
            have hu := Tryd.underlying35
            have hi1 : (Tryd.prog.info? 35).map (·.size) = some (x.map B).length := by rw [List.length_map, HX.out]; exact info_id
            have HXL := HX
            have hn1 : (1 : Int) ≤ (n1 : Int) := by have := HNP.out; omega
            have hn1' : 1 ≤ n1 := by omega
            have hn0 : 0 < n1 := by omega
            have hcc : (c1 : Int) ≤ 9223372036854775807 := by have := HAD.out.2.2.1; omega
            have hnc : n1 ≤ c1 := HAD.out.2.1
            have HTN := Lib.hid HAD.out.1
            clear hkd
            by_cases hc1 : c1 = 1
            · have hn11 : n1 = 1 := by omega
              subst hn11
              have hTe : T = [] := List.length_eq_zero_iff.1 (by have h := HTN.out; rw [List.length_cons] at h; omega)
              subst hTe
              subst hc1
              have HTE := Lib.hid (show IdsAt (wq.drew.setCells gr (i * 32 + j * 32) (x.map B)) (some ⟨ba, oa, none⟩) 0 0 [] from ⟨rfl, Nat.le_refl _, by omega, (fun _ h => by cases h), .inl ⟨rfl, rfl⟩⟩)
              go_wp2
              refine wp_region_held_drew (S := fun W => W.rangeAt ba oa (x.map B)) (by kernel_rfl) HS0.out (fun hHeld => ?_)
              refine wpAnyH_take (i := 0) (oi := ⟨some 33, .move (.tmp 0), _, _, _, _⟩) (v := (.slice (some ⟨gr, i * 32, none⟩) n cR)) rfl (by kernel_rfl) (by kernel_rfl) (by kernel_rfl) (fun _ _ _ h => h) (Or.inl ⟨by rfl, fun W hW => by go_simp⟩) (by assumption) ?_
              simp only [Act.put, List.setIfInBounds_toArray, List.set_cons_zero, List.set_cons_succ]
              refine wpAnyH_take (i := 1) (oi := ⟨some 34, .move (.tmp 8), _, _, _, _⟩) (v := (.int .i64 (j : Int))) rfl (by kernel_rfl) (by kernel_rfl) (by kernel_rfl) (fun _ _ _ h => h) (Or.inl ⟨by rfl, fun W hW => by go_simp⟩) (by assumption) ?_
              simp only [Act.put, List.setIfInBounds_toArray, List.set_cons_zero, List.set_cons_succ]
              refine wpAnyH_take (i := 2) (oi := ⟨some 35, .move (.tmp 1), _, _, _, _⟩) (v := (.slice (some ⟨ba, oa, none⟩) 1 1)) rfl (by kernel_rfl) (by kernel_rfl) (by kernel_rfl) (fun _ _ _ h => h) (Or.inl ⟨by rfl, fun W hW => by go_simp⟩) (by assumption) ?_
              simp only [Act.put, List.setIfInBounds_toArray, List.set_cons_zero, List.set_cons_succ]
              refine wpAnyH_take (i := 3) (oi := ⟨some 36, .indexAddr 45 (.tmp 35) (.const (.int .i64 0)), _, _, _, _⟩) (v := (.pointer (some ⟨ba, oa, none⟩))) rfl (by kernel_rfl) (by kernel_rfl) (by kernel_rfl) (fun _ _ _ h => h) (Or.inl ⟨by rfl, fun W hW => by go_simp⟩) (by assumption) ?_
              simp only [Act.put, List.setIfInBounds_toArray, List.set_cons_zero, List.set_cons_succ]
              refine wpAnyH_take (i := 4) (oi := ⟨some 37, .load 35 (.tmp 36), _, _, _, _⟩) (v := _) rfl (by kernel_rfl) (by kernel_rfl) (by kernel_rfl) (fun _ _ _ h => h) (yieldsIf_load_mid (by rfl) _ _ rfl _ _ rfl _ _ (fun W hW => hW) hu rfl hi1) (by assumption) ?_
              simp only [Act.put, List.setIfInBounds_toArray, List.set_cons_zero, List.set_cons_succ]
              refine wpAnyH_take (i := 5) (oi := ⟨some 38, .move (.tmp 1), _, _, _, _⟩) (v := (.slice (some ⟨ba, oa, none⟩) 1 1)) rfl (by kernel_rfl) (by kernel_rfl) (by kernel_rfl) (fun _ _ _ h => h) (Or.inl ⟨by rfl, fun W hW => by go_simp⟩) (by assumption) ?_
              simp only [Act.put, List.setIfInBounds_toArray, List.set_cons_zero, List.set_cons_succ]
              refine wpAnyH_take (i := 6) (oi := ⟨some 39, .slice 45 (.tmp 38) (some (.const (.int .i64 1))) none none, _, _, _, _⟩) (v := (.slice (some ⟨ba, oa, none⟩) 0 0)) rfl (by kernel_rfl) (by kernel_rfl) (by kernel_rfl) (fun _ _ _ h => h) (Or.inl ⟨by rfl, fun W hW => by go_simp⟩) (by assumption) ?_
              simp only [Act.put, List.setIfInBounds_toArray, List.set_cons_zero, List.set_cons_succ]
              refine wpAnyH_take (i := 7) (oi := ⟨some 40, .indexAddr 45 (.tmp 33) (.tmp 34), _, _, _, _⟩) (v := (.pointer (some ⟨gr, i * 32 + j * 32, none⟩))) rfl (by kernel_rfl) (by kernel_rfl) (by kernel_rfl) (fun _ _ _ h => h) (Or.inl ⟨by rfl, fun W hW => by go_simp⟩) (by assumption) ?_
              simp only [Act.put, List.setIfInBounds_toArray, List.set_cons_zero, List.set_cons_succ]
              refine wpAnyH_ready (rs := [8]) (by kernel_rfl) (by simp) ?_
              refine AllReadyH.cons (o := ⟨none, .store 35 (.tmp 40) (.tmp 37), _, _, _, _⟩) rfl (fun K hK => ?_) AllReadyH.nil
              refine store_step (.tmp 40) (.tmp 37) HXL.out HST.out ?_
              refine hK.out _ _ HSS.out (fun hHeld => ?_)
              clear hK K
              simp only [Act.put]
              refine wpAnyH_take (i := 9) (oi := ⟨some 1, .assign (.tmp 39), _, _, _, _⟩) (v := (.slice (some ⟨ba, oa, none⟩) 0 0)) rfl (by kernel_rfl) (by kernel_rfl) (by kernel_rfl) (fun _ _ _ h => h) (Or.inl ⟨by rfl, fun W hW => by go_simp⟩) (by assumption) ?_
              simp only [Act.put, List.setIfInBounds_toArray, List.set_cons_zero, List.set_cons_succ]
              refine wpAnyH_done (by kernel_rfl) ?_ _
              go_wp2
              go_roundg (gk - 1)
              case measure => have := HG.out; have := HJ.out; omega
              case rel => exact ⟨j + 1, _, _, _, _, _, _, _, _, rfl, rfl, by go_num, by have := HG.out; have := HJ.out; omega, by have := HG.out; have := HNG.out; have := HJ.out; omega, HKK.out, HRS, HTE, HOT, hAn', hCn', HDN⟩
            · have hc2 : (1 : Int) < (c1 : Int) := by omega
              have hnc' : (n1 : Int) ≤ (c1 : Int) := by omega
              have HNW := Lib.hid (show NotIn (some ⟨ba, oa + 32, none⟩) gr from fun b off h => by simp only [Option.some.injEq, Addr.mk.injEq, and_true] at h; obtain ⟨rfl, _⟩ := h; exact hAn'.out _ oa rfl)
              go_wp2
              refine wp_region_held_drew (S := fun W => W.rangeAt ba oa (x.map B)) (by kernel_rfl) HS0.out (fun hHeld => ?_)
              refine wpAnyH_take (i := 0) (oi := ⟨some 33, .move (.tmp 0), _, _, _, _⟩) (v := (.slice (some ⟨gr, i * 32, none⟩) n cR)) rfl (by kernel_rfl) (by kernel_rfl) (by kernel_rfl) (fun _ _ _ h => h) (Or.inl ⟨by rfl, fun W hW => by go_simp⟩) (by assumption) ?_
              simp only [Act.put, List.setIfInBounds_toArray, List.set_cons_zero, List.set_cons_succ]
              refine wpAnyH_take (i := 1) (oi := ⟨some 34, .move (.tmp 8), _, _, _, _⟩) (v := (.int .i64 (j : Int))) rfl (by kernel_rfl) (by kernel_rfl) (by kernel_rfl) (fun _ _ _ h => h) (Or.inl ⟨by rfl, fun W hW => by go_simp⟩) (by assumption) ?_
              simp only [Act.put, List.setIfInBounds_toArray, List.set_cons_zero, List.set_cons_succ]
              refine wpAnyH_take (i := 2) (oi := ⟨some 35, .move (.tmp 1), _, _, _, _⟩) (v := (.slice (some ⟨ba, oa, none⟩) n1 c1)) rfl (by kernel_rfl) (by kernel_rfl) (by kernel_rfl) (fun _ _ _ h => h) (Or.inl ⟨by rfl, fun W hW => by go_simp⟩) (by assumption) ?_
              simp only [Act.put, List.setIfInBounds_toArray, List.set_cons_zero, List.set_cons_succ]
              refine wpAnyH_take (i := 3) (oi := ⟨some 36, .indexAddr 45 (.tmp 35) (.const (.int .i64 0)), _, _, _, _⟩) (v := (.pointer (some ⟨ba, oa, none⟩))) rfl (by kernel_rfl) (by kernel_rfl) (by kernel_rfl) (fun _ _ _ h => h) (Or.inl ⟨by rfl, fun W hW => by go_simp⟩) (by assumption) ?_
              simp only [Act.put, List.setIfInBounds_toArray, List.set_cons_zero, List.set_cons_succ]
              refine wpAnyH_take (i := 4) (oi := ⟨some 37, .load 35 (.tmp 36), _, _, _, _⟩) (v := _) rfl (by kernel_rfl) (by kernel_rfl) (by kernel_rfl) (fun _ _ _ h => h) (yieldsIf_load_mid (by rfl) _ _ rfl _ _ rfl _ _ (fun W hW => hW) hu rfl hi1) (by assumption) ?_
              simp only [Act.put, List.setIfInBounds_toArray, List.set_cons_zero, List.set_cons_succ]
              refine wpAnyH_take (i := 5) (oi := ⟨some 38, .move (.tmp 1), _, _, _, _⟩) (v := (.slice (some ⟨ba, oa, none⟩) n1 c1)) rfl (by kernel_rfl) (by kernel_rfl) (by kernel_rfl) (fun _ _ _ h => h) (Or.inl ⟨by rfl, fun W hW => by go_simp⟩) (by assumption) ?_
              simp only [Act.put, List.setIfInBounds_toArray, List.set_cons_zero, List.set_cons_succ]
              refine wpAnyH_take (i := 6) (oi := ⟨some 39, .slice 45 (.tmp 38) (some (.const (.int .i64 1))) none none, _, _, _, _⟩) (v := (.slice (some ⟨ba, oa + 32, none⟩) (n1 - 1) (c1 - 1))) rfl (by kernel_rfl) (by kernel_rfl) (by kernel_rfl) (fun _ _ _ h => h) (Or.inl ⟨by rfl, fun W hW => by go_simp⟩) (by assumption) ?_
              simp only [Act.put, List.setIfInBounds_toArray, List.set_cons_zero, List.set_cons_succ]
              refine wpAnyH_take (i := 7) (oi := ⟨some 40, .indexAddr 45 (.tmp 33) (.tmp 34), _, _, _, _⟩) (v := (.pointer (some ⟨gr, i * 32 + j * 32, none⟩))) rfl (by kernel_rfl) (by kernel_rfl) (by kernel_rfl) (fun _ _ _ h => h) (Or.inl ⟨by rfl, fun W hW => by go_simp⟩) (by assumption) ?_
              simp only [Act.put, List.setIfInBounds_toArray, List.set_cons_zero, List.set_cons_succ]
              refine wpAnyH_ready (rs := [8]) (by kernel_rfl) (by simp) ?_
              refine AllReadyH.cons (o := ⟨none, .store 35 (.tmp 40) (.tmp 37), _, _, _, _⟩) rfl (fun K hK => ?_) AllReadyH.nil
              refine store_step (.tmp 40) (.tmp 37) HXL.out HST.out ?_
              refine hK.out _ _ HSS.out (fun hHeld => ?_)
              clear hK K
              simp only [Act.put]
              refine wpAnyH_take (i := 9) (oi := ⟨some 1, .assign (.tmp 39), _, _, _, _⟩) (v := (.slice (some ⟨ba, oa + 32, none⟩) (n1 - 1) (c1 - 1))) rfl (by kernel_rfl) (by kernel_rfl) (by kernel_rfl) (fun _ _ _ h => h) (Or.inl ⟨by rfl, fun W hW => by go_simp⟩) (by assumption) ?_
              simp only [Act.put, List.setIfInBounds_toArray, List.set_cons_zero, List.set_cons_succ]
              refine wpAnyH_done (by kernel_rfl) ?_ _
              go_wp2
              go_roundg (gk - 1)
              case measure => have := HG.out; have := HJ.out; omega
              case rel => exact ⟨j + 1, _, _, _, _, _, _, _, _, rfl, rfl, by go_num, by have := HG.out; have := HJ.out; omega, by have := HG.out; have := HNG.out; have := HJ.out; omega, HKK.out, HRS, HTL, HOT, HNW, hCn', HDN⟩
          · have hcf : decide (z ≤ 0) = false := decide_eq_false hc
            go_wp2_with (go_at_call 78; go_must (refine (HCM _).out.mono ?_); rintro e wq ⟨rfl, hb3⟩)
            have hkd := hkd0.trans (Kept.of_below hb3)
            have HRD := Lib.hid (HRD0.out.below hb3)
            have HAD := Lib.hid (HAD0.out.below hb3)
            have HCD := Lib.hid (HCD0.out.below hb3)
            obtain ⟨x, T, ba, oa, rfl, rfl, rfl, rfl⟩ : ∃ x T ba oa, x = y ∧ T = U ∧ ba = b2 ∧ oa = o2 := ⟨_, _, _, _, rfl, rfl, rfl, rfl⟩
            have HX := HY1
            have HNP := HNP2
            have HD := Lib.hid (show M.drop j = x :: mrg (x1 :: T1) T by rw [hdrop.out]; exact mrg_right (.inr ⟨x1, T1, rfl, by rw [← HZ.out]; omega⟩))
            clear hc hy hcf
            have HRL := Lib.hid (filled_length (j := j) HIN.out (by rw [HML.out]; exact Nat.le_of_lt HJ.out))
            have HRD2 := Lib.hid (HRD.out.below (Below.refl _ wq).drew)
            have HST := Lib.hid (show wq.drew.there gr (i * 32 + j * 32) 32 from by have := HRD2.out.there_at (i + j) (by rw [HRL.out]; have := HIN.out; have := HML.out; have := HJ.out; omega); rwa [Nat.add_mul] at this)
            have HS0 := Lib.hid (show wq.drew.rangeAt ba oa (x.map B) by have := (HCD.out.below (Below.refl _ wq).drew).at_ 0 (by have := HNP.out; omega); rwa [Nat.zero_mul, Nat.add_zero] at this)
            have HKS := Lib.hid (Kept.setCells gr (i * 32 + j * 32) (x.map B) wq.drew)
            have HSS := Lib.hid (show (wq.drew.setCells gr (i * 32 + j * 32) (x.map B)).rangeAt ba oa (x.map B) from rangeAt_kept HS0.out HKS.out (hCn'.out _ _ rfl))
            have HRS := Lib.hid (show RowC (wq.drew.setCells gr (i * 32 + j * 32) (x.map B)) gr (filled R M i (j + 1)) by have h1 := HRD2.out.store (i + j) (by rw [HRL.out]; have := HIN.out; have := HML.out; have := HJ.out; omega) x HX.out; rw [filled_step HIN.out (by rw [HML.out]; exact HJ.out) HD.out, Nat.add_mul] at h1; exact h1)
            have HTL := Lib.hid ((HCD.out.below (Below.refl _ wq).drew).tail_.kept HKS.out (hCn'.out _ _ rfl))
            have HOT := Lib.hid ((HAD.out.below (Below.refl _ wq).drew).kept_ HKS.out hAn'.out)
            have HKK := Lib.hid (hkd.trans ((Kept.of_below (Below.refl _ wq).drew).trans HKS.out))
            have HDN := Lib.hid (drop_next HD.out)
            have hu := Tryd.underlying35
            have hi1 : (Tryd.prog.info? 35).map (·.size) = some (x.map B).length := by rw [List.length_map, HX.out]; exact info_id
            have HXL := HX
            have hn1 : (1 : Int) ≤ (n2 : Int) := by have := HNP.out; omega
            have hn1' : 1 ≤ n2 := by omega
            have hn0 : 0 < n2 := by omega
            have hcc : (c2 : Int) ≤ 9223372036854775807 := by have := HCD.out.2.2.1; omega
            have hnc : n2 ≤ c2 := HCD.out.2.1
            have HTN := Lib.hid HCD.out.1
            clear hkd
            by_cases hc1 : c2 = 1
            · have hn11 : n2 = 1 := by omega
              subst hn11
              have hTe : T = [] := List.length_eq_zero_iff.1 (by have h := HTN.out; rw [List.length_cons] at h; omega)
              subst hTe
              subst hc1
              have HTE := Lib.hid (show IdsAt (wq.drew.setCells gr (i * 32 + j * 32) (x.map B)) (some ⟨ba, oa, none⟩) 0 0 [] from ⟨rfl, Nat.le_refl _, by omega, (fun _ h => by cases h), .inl ⟨rfl, rfl⟩⟩)
              go_wp2
              refine wp_region_held_drew (S := fun W => W.rangeAt ba oa (x.map B)) (by kernel_rfl) HS0.out (fun hHeld => ?_)
              refine wpAnyH_take (i := 0) (oi := ⟨some 41, .move (.tmp 0), _, _, _, _⟩) (v := (.slice (some ⟨gr, i * 32, none⟩) n cR)) rfl (by kernel_rfl) (by kernel_rfl) (by kernel_rfl) (fun _ _ _ h => h) (Or.inl ⟨by rfl, fun W hW => by go_simp⟩) (by assumption) ?_
              simp only [Act.put, List.setIfInBounds_toArray, List.set_cons_zero, List.set_cons_succ]
              refine wpAnyH_take (i := 1) (oi := ⟨some 42, .move (.tmp 8), _, _, _, _⟩) (v := (.int .i64 (j : Int))) rfl (by kernel_rfl) (by kernel_rfl) (by kernel_rfl) (fun _ _ _ h => h) (Or.inl ⟨by rfl, fun W hW => by go_simp⟩) (by assumption) ?_
              simp only [Act.put, List.setIfInBounds_toArray, List.set_cons_zero, List.set_cons_succ]
              refine wpAnyH_take (i := 2) (oi := ⟨some 43, .move (.tmp 2), _, _, _, _⟩) (v := (.slice (some ⟨ba, oa, none⟩) 1 1)) rfl (by kernel_rfl) (by kernel_rfl) (by kernel_rfl) (fun _ _ _ h => h) (Or.inl ⟨by rfl, fun W hW => by go_simp⟩) (by assumption) ?_
              simp only [Act.put, List.setIfInBounds_toArray, List.set_cons_zero, List.set_cons_succ]
              refine wpAnyH_take (i := 3) (oi := ⟨some 44, .indexAddr 45 (.tmp 43) (.const (.int .i64 0)), _, _, _, _⟩) (v := (.pointer (some ⟨ba, oa, none⟩))) rfl (by kernel_rfl) (by kernel_rfl) (by kernel_rfl) (fun _ _ _ h => h) (Or.inl ⟨by rfl, fun W hW => by go_simp⟩) (by assumption) ?_
              simp only [Act.put, List.setIfInBounds_toArray, List.set_cons_zero, List.set_cons_succ]
              refine wpAnyH_take (i := 4) (oi := ⟨some 45, .load 35 (.tmp 44), _, _, _, _⟩) (v := _) rfl (by kernel_rfl) (by kernel_rfl) (by kernel_rfl) (fun _ _ _ h => h) (yieldsIf_load_mid (by rfl) _ _ rfl _ _ rfl _ _ (fun W hW => hW) hu rfl hi1) (by assumption) ?_
              simp only [Act.put, List.setIfInBounds_toArray, List.set_cons_zero, List.set_cons_succ]
              refine wpAnyH_take (i := 5) (oi := ⟨some 46, .move (.tmp 2), _, _, _, _⟩) (v := (.slice (some ⟨ba, oa, none⟩) 1 1)) rfl (by kernel_rfl) (by kernel_rfl) (by kernel_rfl) (fun _ _ _ h => h) (Or.inl ⟨by rfl, fun W hW => by go_simp⟩) (by assumption) ?_
              simp only [Act.put, List.setIfInBounds_toArray, List.set_cons_zero, List.set_cons_succ]
              refine wpAnyH_take (i := 6) (oi := ⟨some 47, .slice 45 (.tmp 46) (some (.const (.int .i64 1))) none none, _, _, _, _⟩) (v := (.slice (some ⟨ba, oa, none⟩) 0 0)) rfl (by kernel_rfl) (by kernel_rfl) (by kernel_rfl) (fun _ _ _ h => h) (Or.inl ⟨by rfl, fun W hW => by go_simp⟩) (by assumption) ?_
              simp only [Act.put, List.setIfInBounds_toArray, List.set_cons_zero, List.set_cons_succ]
              refine wpAnyH_take (i := 7) (oi := ⟨some 48, .indexAddr 45 (.tmp 41) (.tmp 42), _, _, _, _⟩) (v := (.pointer (some ⟨gr, i * 32 + j * 32, none⟩))) rfl (by kernel_rfl) (by kernel_rfl) (by kernel_rfl) (fun _ _ _ h => h) (Or.inl ⟨by rfl, fun W hW => by go_simp⟩) (by assumption) ?_
              simp only [Act.put, List.setIfInBounds_toArray, List.set_cons_zero, List.set_cons_succ]
              refine wpAnyH_ready (rs := [8]) (by kernel_rfl) (by simp) ?_
              refine AllReadyH.cons (o := ⟨none, .store 35 (.tmp 48) (.tmp 45), _, _, _, _⟩) rfl (fun K hK => ?_) AllReadyH.nil
              refine store_step (.tmp 48) (.tmp 45) HXL.out HST.out ?_
              refine hK.out _ _ HSS.out (fun hHeld => ?_)
              clear hK K
              simp only [Act.put]
              refine wpAnyH_take (i := 9) (oi := ⟨some 2, .assign (.tmp 47), _, _, _, _⟩) (v := (.slice (some ⟨ba, oa, none⟩) 0 0)) rfl (by kernel_rfl) (by kernel_rfl) (by kernel_rfl) (fun _ _ _ h => h) (Or.inl ⟨by rfl, fun W hW => by go_simp⟩) (by assumption) ?_
              simp only [Act.put, List.setIfInBounds_toArray, List.set_cons_zero, List.set_cons_succ]
              refine wpAnyH_done (by kernel_rfl) ?_ _
              go_wp2
              go_roundg (gk - 1)
              case measure => have := HG.out; have := HJ.out; omega
              case rel => exact ⟨j + 1, _, _, _, _, _, _, _, _, rfl, rfl, by go_num, by have := HG.out; have := HJ.out; omega, by have := HG.out; have := HNG.out; have := HJ.out; omega, HKK.out, HRS, HOT, HTE, hAn', hCn', HDN⟩
            · have hc2 : (1 : Int) < (c2 : Int) := by omega
              have hnc' : (n2 : Int) ≤ (c2 : Int) := by omega
              have HNW := Lib.hid (show NotIn (some ⟨ba, oa + 32, none⟩) gr from fun b off h => by simp only [Option.some.injEq, Addr.mk.injEq, and_true] at h; obtain ⟨rfl, _⟩ := h; exact hCn'.out _ oa rfl)
              go_wp2
              refine wp_region_held_drew (S := fun W => W.rangeAt ba oa (x.map B)) (by kernel_rfl) HS0.out (fun hHeld => ?_)
              refine wpAnyH_take (i := 0) (oi := ⟨some 41, .move (.tmp 0), _, _, _, _⟩) (v := (.slice (some ⟨gr, i * 32, none⟩) n cR)) rfl (by kernel_rfl) (by kernel_rfl) (by kernel_rfl) (fun _ _ _ h => h) (Or.inl ⟨by rfl, fun W hW => by go_simp⟩) (by assumption) ?_
              simp only [Act.put, List.setIfInBounds_toArray, List.set_cons_zero, List.set_cons_succ]
              refine wpAnyH_take (i := 1) (oi := ⟨some 42, .move (.tmp 8), _, _, _, _⟩) (v := (.int .i64 (j : Int))) rfl (by kernel_rfl) (by kernel_rfl) (by kernel_rfl) (fun _ _ _ h => h) (Or.inl ⟨by rfl, fun W hW => by go_simp⟩) (by assumption) ?_
              simp only [Act.put, List.setIfInBounds_toArray, List.set_cons_zero, List.set_cons_succ]
              refine wpAnyH_take (i := 2) (oi := ⟨some 43, .move (.tmp 2), _, _, _, _⟩) (v := (.slice (some ⟨ba, oa, none⟩) n2 c2)) rfl (by kernel_rfl) (by kernel_rfl) (by kernel_rfl) (fun _ _ _ h => h) (Or.inl ⟨by rfl, fun W hW => by go_simp⟩) (by assumption) ?_
              simp only [Act.put, List.setIfInBounds_toArray, List.set_cons_zero, List.set_cons_succ]
              refine wpAnyH_take (i := 3) (oi := ⟨some 44, .indexAddr 45 (.tmp 43) (.const (.int .i64 0)), _, _, _, _⟩) (v := (.pointer (some ⟨ba, oa, none⟩))) rfl (by kernel_rfl) (by kernel_rfl) (by kernel_rfl) (fun _ _ _ h => h) (Or.inl ⟨by rfl, fun W hW => by go_simp⟩) (by assumption) ?_
              simp only [Act.put, List.setIfInBounds_toArray, List.set_cons_zero, List.set_cons_succ]
              refine wpAnyH_take (i := 4) (oi := ⟨some 45, .load 35 (.tmp 44), _, _, _, _⟩) (v := _) rfl (by kernel_rfl) (by kernel_rfl) (by kernel_rfl) (fun _ _ _ h => h) (yieldsIf_load_mid (by rfl) _ _ rfl _ _ rfl _ _ (fun W hW => hW) hu rfl hi1) (by assumption) ?_
              simp only [Act.put, List.setIfInBounds_toArray, List.set_cons_zero, List.set_cons_succ]
              refine wpAnyH_take (i := 5) (oi := ⟨some 46, .move (.tmp 2), _, _, _, _⟩) (v := (.slice (some ⟨ba, oa, none⟩) n2 c2)) rfl (by kernel_rfl) (by kernel_rfl) (by kernel_rfl) (fun _ _ _ h => h) (Or.inl ⟨by rfl, fun W hW => by go_simp⟩) (by assumption) ?_
              simp only [Act.put, List.setIfInBounds_toArray, List.set_cons_zero, List.set_cons_succ]
              refine wpAnyH_take (i := 6) (oi := ⟨some 47, .slice 45 (.tmp 46) (some (.const (.int .i64 1))) none none, _, _, _, _⟩) (v := (.slice (some ⟨ba, oa + 32, none⟩) (n2 - 1) (c2 - 1))) rfl (by kernel_rfl) (by kernel_rfl) (by kernel_rfl) (fun _ _ _ h => h) (Or.inl ⟨by rfl, fun W hW => by go_simp⟩) (by assumption) ?_
              simp only [Act.put, List.setIfInBounds_toArray, List.set_cons_zero, List.set_cons_succ]
              refine wpAnyH_take (i := 7) (oi := ⟨some 48, .indexAddr 45 (.tmp 41) (.tmp 42), _, _, _, _⟩) (v := (.pointer (some ⟨gr, i * 32 + j * 32, none⟩))) rfl (by kernel_rfl) (by kernel_rfl) (by kernel_rfl) (fun _ _ _ h => h) (Or.inl ⟨by rfl, fun W hW => by go_simp⟩) (by assumption) ?_
              simp only [Act.put, List.setIfInBounds_toArray, List.set_cons_zero, List.set_cons_succ]
              refine wpAnyH_ready (rs := [8]) (by kernel_rfl) (by simp) ?_
              refine AllReadyH.cons (o := ⟨none, .store 35 (.tmp 48) (.tmp 45), _, _, _, _⟩) rfl (fun K hK => ?_) AllReadyH.nil
              refine store_step (.tmp 48) (.tmp 45) HXL.out HST.out ?_
              refine hK.out _ _ HSS.out (fun hHeld => ?_)
              clear hK K
              simp only [Act.put]
              refine wpAnyH_take (i := 9) (oi := ⟨some 2, .assign (.tmp 47), _, _, _, _⟩) (v := (.slice (some ⟨ba, oa + 32, none⟩) (n2 - 1) (c2 - 1))) rfl (by kernel_rfl) (by kernel_rfl) (by kernel_rfl) (fun _ _ _ h => h) (Or.inl ⟨by rfl, fun W hW => by go_simp⟩) (by assumption) ?_
              simp only [Act.put, List.setIfInBounds_toArray, List.set_cons_zero, List.set_cons_succ]
              refine wpAnyH_done (by kernel_rfl) ?_ _
              go_wp2
              go_roundg (gk - 1)
              case measure => have := HG.out; have := HJ.out; omega
              case rel => exact ⟨j + 1, _, _, _, _, _, _, _, _, rfl, rfl, by go_num, by have := HG.out; have := HJ.out; omega, by have := HG.out; have := HNG.out; have := HJ.out; omega, HKK.out, HRS, HOT, HTL, hAn', HNW, HDN⟩
    · have hjn : j = n := by omega
      subst hjn
      clear hg hng
      go_wp2
      go_end0
      exact ⟨rfl, hkw, hrow.out⟩
#print axioms merge_any
end Go.Proofs.YtcnhifkpflaibaaDoor

namespace Go.Proofs.YtcnhifkpflaibaaDoor
open Go.RowKit

set_option maxRecDepth 100000 in
set_option maxHeartbeats 400000 in
theorem cloneI_any (a : Option Addr) (n c : Nat) (l : List (List UInt8)) (w : World) (hb : IdsAt w a n c l) (hl : n ≤ 1000000000) :
    Calls Tryd.prog 84 #[.slice a n c] w (MadeI w l) := by
  rcases a with _ | ad
  · have hn0 : l = [] := by
      rcases hb.2.2.2.2 with ⟨h0, _⟩ | ⟨b, off, h, _⟩
      · exact List.length_eq_zero_iff.1 (by rw [hb.1]; exact h0)
      · cases h
    subst hn0
    have HO := Lib.hid (OwnI.nil w w.heap.size)
    clear hb
    have q := fun W a n c n' c' => Lib.run_eql_slice_nil (P := Tryd.prog) W _ _ a n c n' c' Tryd.underlying45
    go_enter Tryd.func84, Tryd.ntmps84
    go_wp2
    go_ret
    exact MadeI.of HO.out (Below.refl _ _)
  · have hbel : Below w.heap.size w (w.alloc (.cells #[] 35)) := (Below.refl _ _).alloc (Nat.le_refl _) _
    have HB := Lib.hid (hb.below hbel)
    have HO := Lib.hid (ownI_empty w)
    have HBL := Lib.hid hbel
    clear hbel hb
    have q := fun W a n c n' c' => Lib.run_eql_slice_nil (P := Tryd.prog) W _ _ a n c n' c' Tryd.underlying45
    go_enter Tryd.func84, Tryd.ntmps84
    go_wp2_with (at_builtin; go_must (refine app_ids rfl (.tmp 5) (.tmp 6) rfl w.heap.size _ [] rfl HO.out (some ad) n c l rfl HB.out (by simp; omega) (by simp) ?_); intro v' w1 hown1 hgr1)
    go_ret
    exact MadeI.of (by simpa using hown1) (HBL.out.grown hgr1 (by simp) (fun k hk => (HO.out.lt k hk).1))
#print axioms cloneI_any

theorem clone_is (a : Option Addr) (n c : Nat) (l : List (List UInt8)) (w : World) (hb : IdsAt w a n c l) (hl : n ≤ 1000000000) :
    Calls Tryd.prog 84 #[.slice a n c] w fun e w' => ∃ a1 c1, e = .returned (.slice a1 n c1) ∧ OwnI w' w.heap.size (.slice a1 n c1) l ∧ Below w.heap.size w w' := by
  have hn := hb.1
  refine (cloneI_any a n c l w hb hl).mono ?_
  rintro e w' ⟨a1, n1, c1, rfl, ho, hbb⟩
  obtain ⟨a2, c2, hv, _⟩ := ho.ids
  simp only [Value.slice.injEq] at hv
  obtain ⟨rfl, rfl, rfl⟩ := hv
  subst hn
  exact ⟨a1, c1, rfl, ho, hbb⟩

theorem RowC.whole {w : World} {g n c : Nat} {L : List (List UInt8)} (h : RowC w g L) (hn : L.length = n) (hc : n ≤ c) (hc2 : c ≤ 9223372036854775807) : IdsAt w (some ⟨g, 0, none⟩) n c L := by
  have := h.part 0 n c (by omega) hc hc2
  rwa [Nat.zero_mul, List.drop_zero, List.take_of_length_le (by omega)] at this

/-- The two rows that sorting goes between. -/
def Two (base n : Nat) (W : World) (aL aR : Option Addr) (cL cR : Nat) (L R : List (List UInt8)) : Prop :=
  0 < n → ∃ gl gr, aL = some ⟨gl, 0, none⟩ ∧ aR = some ⟨gr, 0, none⟩ ∧ gl ≠ gr ∧ base ≤ gl ∧ base ≤ gr ∧ RowC W gl L ∧ RowC W gr R ∧ n ≤ cL ∧ cL ≤ 9223372036854775807 ∧ n ≤ cR ∧ cR ≤ 9223372036854775807

theorem MadeR.of {w w' : World} {l : List (List UInt8)} {n c : Nat} {a : Option Addr} (hn : l.length = n) (h : IdsAt w' a n c l) (hb : Below w.heap.size w w') (hr : 0 < n → ∃ g, a = some ⟨g, 0, none⟩ ∧ w.heap.size ≤ g ∧ RowC w' g l) : MadeR w l (.returned (.slice a n c)) w' := by
  subst hn; exact ⟨a, c, rfl, h, hb, hr⟩

theorem merge_runs {W : World} {gl gr q f mid en cL cR n : Nat} {L R : List (List UInt8)} (hL : RowC W gl L) (hR : RowC W gr R) (hne : gl ≠ gr) (hLn : L.length = n) (hRn : R.length = n) (hn : n ≤ 1000000000)
    (hmid : (f + q ≤ n ∧ mid = f + q) ∨ (n < f + q ∧ mid = n)) (hen : (f + 2 * q ≤ n ∧ en = f + 2 * q) ∨ (n < f + 2 * q ∧ en = n)) (hf : f < n) (hcl : n ≤ cL) (hcl2 : cL ≤ 9223372036854775807) :
    Calls Tryd.prog 85 #[.slice (some ⟨gr, f * 32, none⟩) (en - f) (cR - f), .slice (some ⟨gl, f * 32, none⟩) (mid - f) (cL - f), .slice (if cL = mid then some ⟨gl, 0, none⟩ else some ⟨gl, mid * 32, none⟩) (en - mid) (cL - mid), cmpV] W
      fun e w' => e = .returned (.tuple #[]) ∧ Kept gr W w' ∧ RowC w' gr (R.take f ++ (twoM q f L ++ R.drop (f + (twoM q f L).length))) := by
  have hA : IdsAt W (some ⟨gl, f * 32, none⟩) (mid - f) (cL - f) ((L.drop f).take q) := by
    have h := hL.part f (mid - f) (cL - f) (by omega) (by omega) (by omega)
    have e : (L.drop f).take (mid - f) = (L.drop f).take q := by
      rcases hmid with ⟨h1, h2⟩ | ⟨h1, h2⟩
      · rw [show mid - f = q from by omega]
      · rw [List.take_of_length_le (by simp; omega), List.take_of_length_le (by simp; omega)]
    rwa [e] at h
  have hC : IdsAt W (if cL = mid then some ⟨gl, 0, none⟩ else some ⟨gl, mid * 32, none⟩) (en - mid) (cL - mid) ((L.drop (f + q)).take q) := by
    have e : (L.drop mid).take (en - mid) = (L.drop (f + q)).take q := by
      rcases hmid with ⟨h1, h2⟩ | ⟨h1, h2⟩
      · rw [h2]
        rcases hen with ⟨h3, h4⟩ | ⟨h3, h4⟩
        · rw [show en - (f + q) = q from by omega]
        · rw [List.take_of_length_le (by simp; omega), List.take_of_length_le (by simp; omega)]
      · rw [List.drop_eq_nil_of_le (by omega), List.drop_eq_nil_of_le (by omega)]; simp
    by_cases hc : cL = mid
    · rw [if_pos hc]
      have h0 : (L.drop (f + q)).take q = [] := by
        rw [← e, List.drop_eq_nil_of_le (by omega)]; simp
      rw [h0]
      exact ⟨by simp; omega, by omega, by omega, (fun _ h => by cases h), .inl ⟨by omega, by omega⟩⟩
    · rw [if_neg hc, ← e]
      exact hL.part mid (en - mid) (cL - mid) (by omega) (by omega) (by omega)
  have hlen := twoM_length q f L
  refine (merge_any gr f (en - f) (cR - f) R _ _ _ _ _ _ _ _ W hR (by omega) hA hC (fun b off h => by simp only [Option.some.injEq, Addr.mk.injEq, and_true] at h; omega)
    (fun b off h => by split at h <;> simp only [Option.some.injEq, Addr.mk.injEq, and_true] at h <;> omega) (by omega) (by omega)).mono ?_
  rintro e w' ⟨rfl, hk, hr⟩
  refine ⟨rfl, hk, ?_⟩
  have e : filled R (mrg ((L.drop f).take q) ((L.drop (f + q)).take q)) f (en - f) = R.take f ++ (twoM q f L ++ R.drop (f + (twoM q f L).length)) := by
    show R.take f ++ ((twoM q f L).take (en - f) ++ R.drop (f + (en - f))) = _
    have h1 : (twoM q f L).length = en - f := by omega
    rw [show (twoM q f L).take (en - f) = twoM q f L from List.take_of_length_le (by omega), h1]
  rwa [e] at hr

set_option maxRecDepth 100000 in
set_option maxHeartbeats 4000000 in
theorem sorted_any (a : Option Addr) (n c : Nat) (l : List (List UInt8)) (w : World) (hb : IdsAt w a n c l) (hl : n ≤ 1000000000) :
    Calls Tryd.prog 77 #[.slice a n c, cmpV] w (MadeR w (sortF l)) := by
  have HCL := Lib.hid (clone_is a n c l w hb hl)
  have HLN := Lib.hid hb.1
  have hnI : (n : Int) ≤ 1000000000 := by omega
  have hn0 : (0 : Int) ≤ (n : Int) := by omega
  have HHN := Lib.hid (show n ≤ 1000000000000 by omega)
  have HNB := Lib.hid hl
  clear hb hl
  unfold cmpV
  go_enter Tryd.func77, Tryd.ntmps77
  go_wp2_with (first
    | (at_make; go_must (refine make_ids rfl _ _ rfl n rfl rfl HHN.out ?_); intro w2 hz hgz)
    | (go_at_call 84; go_must (refine HCL.out.mono ?_); rintro e w1 ⟨a1, c1, rfl, hown, hb1⟩))
  have hbw : Below w.heap.size w w2 := hb1.grown hgz hb1.size (fun k hk => by cases hk)
  have hbg : Below w1.heap.size w1 w2 := (Below.refl _ _).grown hgz (Nat.le_refl _) (fun k hk => by cases hk)
  have H2 := Lib.hid (show Two w.heap.size n w2 a1 (some ⟨w1.heap.size, 0, none⟩) c1 n l (zeros n) from fun hp => by
    obtain ⟨gl, rfl, hgb, hrow, hlen, hc1, hc2⟩ := hown.row hp
    obtain ⟨gr, hgr, hgb2, hrow2, _⟩ := hz.row hp
    simp only [Option.some.injEq, Addr.mk.injEq, and_true] at hgr
    subst hgr
    have hlt := hrow.lt (by omega)
    exact ⟨gl, _, rfl, rfl, by omega, hgb, hb1.size, hrow.below hbg, hrow2, hc1, hc2, Nat.le_refl _, by omega⟩)
  have HI := Lib.hid (hown.isIds.below hbg)
  have HP := Lib.hid (show l.Perm l ∧ RunsI 1 l ∧ (zeros n).length = n from ⟨List.Perm.refl _, runs_one l, zeros_length n⟩)
  clear hown hz hgz hb1 hbg
  go_loopg [0, 5, 6] (n - 1) (fun g v0 v5 v6 W => ∃ (q : Nat) (aL aR : Option Addr) (cL cR : Nat) (L R : List (List UInt8)), v0 = .slice aL n cL ∧ v5 = .slice aR n cR ∧ v6 = .int .i64 q ∧ g = n - q ∧ 1 ≤ q ∧ (q : Int) ≤ 2000000000 ∧ Below w.heap.size w W ∧ Hid (Two w.heap.size n W aL aR cL cR L R) ∧ Hid (IdsAt W aL n cL L) ∧ Hid (L.Perm l ∧ RunsI q L ∧ R.length = n))
  case atStart => exact ⟨1, a1, _, c1, n, l, zeros n, rfl, rfl, rfl, rfl, Nat.le_refl _, by omega, hbw, H2, HI, HP⟩
  case round =>
    clear HI H2 HP hbw
    obtain ⟨q, aL, aR, cL, cR, L, R, rfl, rfl, rfl, hg, hq1, hq2, hbw, H2, HI, HP⟩ := hrel
    have HG := Lib.hid hg
    have HQ1 := Lib.hid hq1
    have hq0 : (0 : Int) ≤ (q : Int) := by omega
    by_cases hqn : (q : Int) < (n : Int)
    · obtain ⟨gl, gr, rfl, rfl, hne, hbl, hbr, hrl, hrr, hcl1, hcl2, hcr1, hcr2⟩ := H2.out (by omega)
      have HNE := Lib.hid hne
      have HBL := Lib.hid hbl
      have HBR := Lib.hid hbr
      have HCB := Lib.hid (And.intro (And.intro hcl1 hcl2) (And.intro hcr1 hcr2))
      have HL0 := Lib.hid hrl
      have HR0 := Lib.hid hrr
      have HPS := Lib.hid (pass_zero q (L := L) (R := R) (by rw [HP.out.2.2]; exact HI.out.1.symm))
      have HQN := Lib.hid (show q < n by omega)
      clear hg hq1 hne hbl hbr hrl hrr hcl1 hcl2 hcr1 hcr2 H2
      go_wp2
      go_loopg [7] n (fun g v7 W => ∃ (t f : Nat) (R' : List (List UInt8)), v7 = .int .i64 f ∧ g = n - f ∧ Hid (f = t * (2 * q)) ∧ (f : Int) ≤ 6000000000 ∧ Hid (Below w.heap.size w W) ∧ Hid (RowC W gl L) ∧ Hid (RowC W gr R') ∧ Hid (Pass q t L R'))
      case atStart => exact ⟨0, 0, R, rfl, by omega, Lib.hid (by omega), by omega, Lib.hid hbw, HL0, HR0, HPS⟩
      case round =>
        clear HL0 HR0 HPS
        obtain ⟨t, f, R', rfl, hg, hft, hfI, hbw', hL, hR, hps⟩ := hrel
        have HG2 := Lib.hid hg
        have hf0 : (0 : Int) ≤ (f : Int) := by omega
        by_cases hfn : (f : Int) < (n : Int)
        · obtain ⟨mid, hmid⟩ : ∃ mid, (f + q ≤ n ∧ mid = f + q) ∨ (n < f + q ∧ mid = n) := by by_cases h : f + q ≤ n; exact ⟨_, .inl ⟨h, rfl⟩⟩; exact ⟨_, .inr ⟨by omega, rfl⟩⟩
          obtain ⟨en, hen⟩ : ∃ en, (f + 2 * q ≤ n ∧ en = f + 2 * q) ∨ (n < f + 2 * q ∧ en = n) := by by_cases h : f + 2 * q ≤ n; exact ⟨_, .inl ⟨h, rfl⟩⟩; exact ⟨_, .inr ⟨by omega, rfl⟩⟩
          have HM := Lib.hid hmid
          have HE := Lib.hid hen
          have hm1 : (f : Int) < (mid : Int) := by have := HQ1.out; omega
          have hm2 : (mid : Int) ≤ (en : Int) := by omega
          have hm3 : (en : Int) ≤ (n : Int) := by omega
          have HMZ := Lib.hid (show (mid : Int) = if (n : Int) < (f : Int) + (q : Int) then (n : Int) else (f : Int) + (q : Int) by split <;> omega)
          have HEZ := Lib.hid (show (en : Int) = if (n : Int) < (f : Int) + 2 * (q : Int) then (n : Int) else (f : Int) + 2 * (q : Int) by split <;> omega)
          clear hmid hen hg
          go_wp2_with (first
            | (refine wl_min rfl _ _ _ rfl ((f : Int) + (q : Int)) (n : Int) (mid : Int) rfl rfl HMZ.out ?_)
            | (refine wl_min rfl _ _ _ rfl ((f : Int) + 2 * (q : Int)) (n : Int) (en : Int) rfl rfl HEZ.out ?_))
          have hwd := Lib.hid hbw'.out.drew
          have HLd := Lib.hid (hL.out.below (Below.refl _ wr).drew)
          have HRd := Lib.hid (hR.out.below (Below.refl _ wr).drew)
          have s1 : en ≤ cR := by have := HCB.out.2.1; omega
          have s2 : en ≤ cL := by have := HCB.out.1.1; omega
          have s3 : mid ≤ cL := by omega
          have s4 : f ≤ en := by omega
          have s5 : f ≤ mid := by omega
          have s6 : mid ≤ en := by omega
          have s7 : (cR = f) = False := eq_false (by omega)
          have s8 : (cL = f) = False := eq_false (by omega)
          have HS := Lib.hid (show Calls Tryd.prog 85 #[.slice (some ⟨gr, f * 32, none⟩) (en - f) (cR - f), .slice (some ⟨gl, f * 32, none⟩) (mid - f) (cL - f), .slice (if cL = mid then some ⟨gl, 0, none⟩ else some ⟨gl, mid * 32, none⟩) (en - mid) (cL - mid), cmpV] wr.drew
            fun e w' => e = .returned (.tuple #[]) ∧ Kept gr wr.drew w' ∧ RowC w' gr (R'.take f ++ (twoM q f L ++ R'.drop (f + (twoM q f L).length))) from
            merge_runs (n := n) HLd.out HRd.out HNE.out HI.out.1 (hps.out.1.trans HI.out.1) HNB.out HM.out HE.out (by omega) HCB.out.1.1 HCB.out.1.2)
          have HFN := Lib.hid (show f < n by omega)
          by_cases hcm : cL = mid
          · subst hcm
            rw [if_pos rfl, Nat.sub_self, show en - cL = 0 by omega] at HS
            refine wp_region_still_tail 13 (by kernel_rfl) (by kernel_rfl) ?_
            simp only [List.take_succ_cons, List.take_zero, List.drop_succ_cons, List.drop_zero]
            still_step
            still_step
            still_step
            still_step
            still_step
            still_step
            still_step
            still_step
            still_step
            still_step
            still_step
            still_step
            still_step
            refine wpStill_nil ?_
            change wpList _ _ _ _ _ wr.drew
            generalize wr.drew = wq at hwd HLd HRd HS ⊢
            unfold cmpV at HS
            go_wp2_with (go_at_call 85; go_must (refine HS.out.mono ?_); rintro e wm ⟨rfl, hkm, hrm⟩)
            have HP2 := Lib.hid (show Pass q (t + 1) L (R'.take f ++ (twoM q f L ++ R'.drop (f + (twoM q f L).length))) by
              have h := pass_step HP.out.2.1 hps.out (by rw [← hft.out, HI.out.1]; exact HFN.out)
              rwa [← hft.out] at h)
            go_roundg (n - (f + 2 * q))
            case measure => have := HQ1.out; have := HFN.out; have := HG2.out; omega
            case rel => exact ⟨t + 1, f + 2 * q, _, by go_num, rfl, Lib.hid (by rw [Nat.add_mul, Nat.one_mul, ← hft.out]), by omega, Lib.hid (hkm.below hwd.out HBR.out (by have := hwd.out.size; exact this)), Lib.hid (HLd.out.kept hkm HNE.out), Lib.hid hrm, HP2⟩
          · have s9 : (cL = mid) = False := eq_false hcm
            rw [if_neg hcm] at HS
            clear hcm
            refine wp_region_still_tail 13 (by kernel_rfl) (by kernel_rfl) ?_
            simp only [List.take_succ_cons, List.take_zero, List.drop_succ_cons, List.drop_zero]
            still_step
            still_step
            still_step
            still_step
            still_step
            still_step
            still_step
            still_step
            still_step
            still_step
            still_step
            still_step
            still_step
            refine wpStill_nil ?_
            change wpList _ _ _ _ _ wr.drew
            generalize wr.drew = wq at hwd HLd HRd HS ⊢
            unfold cmpV at HS
            go_wp2_with (go_at_call 85; go_must (refine HS.out.mono ?_); rintro e wm ⟨rfl, hkm, hrm⟩)
            have HP2 := Lib.hid (show Pass q (t + 1) L (R'.take f ++ (twoM q f L ++ R'.drop (f + (twoM q f L).length))) by
              have h := pass_step HP.out.2.1 hps.out (by rw [← hft.out, HI.out.1]; exact HFN.out)
              rwa [← hft.out] at h)
            go_roundg (n - (f + 2 * q))
            case measure => have := HQ1.out; have := HFN.out; have := HG2.out; omega
            case rel => exact ⟨t + 1, f + 2 * q, _, by go_num, rfl, Lib.hid (by rw [Nat.add_mul, Nat.one_mul, ← hft.out]), by omega, Lib.hid (hkm.below hwd.out HBR.out (by have := hwd.out.size; exact this)), Lib.hid (HLd.out.kept hkm HNE.out), Lib.hid hrm, HP2⟩
        · have HFN := Lib.hid (show n ≤ f by omega)
          clear hg
          go_wp2
          have HE2 := Lib.hid (pass_end hps.out (by rw [← hft.out, HI.out.1]; exact HFN.out))
          go_roundg (n - 2 * q)
          case measure => have := HQ1.out; have := HQN.out; have := HG.out; omega
          case rel => exact ⟨2 * q, _, _, cR, cL, R', L, rfl, rfl, by go_num, rfl, by have := HQ1.out; omega, by omega, hbw'.out, Lib.hid (fun _ => ⟨gr, gl, rfl, rfl, fun h => HNE.out h.symm, HBR.out, HBL.out, hR.out, hL.out, HCB.out.2.1, HCB.out.2.2, HCB.out.1.1, HCB.out.1.2⟩), Lib.hid (hR.out.whole (HE2.out.1.trans HI.out.1) HCB.out.2.1 HCB.out.2.2), Lib.hid ⟨HE2.out.2.1.trans HP.out.1, HE2.out.2.2, HI.out.1⟩⟩
    · have HQN := Lib.hid (show n ≤ q by omega)
      have HLS := Lib.hid (show L = sortF l from sortF_of (runs_all HP.out.2.1 (by rw [HI.out.1]; exact HQN.out)) HP.out.1)
      clear hg hq1
      go_wp2
      go_ret
      have hLS := HLS.out
      subst hLS
      exact MadeR.of HI.out.1 HI.out hbw (fun hp => by
        obtain ⟨gl, gr, h1, h2, hne, hbl, hbr, hrl, hrr, _⟩ := H2.out hp
        exact ⟨gl, h1, hbl, hrl⟩)
#print axioms sorted_any
end Go.Proofs.YtcnhifkpflaibaaDoor

namespace Go.Proofs.YtcnhifkpflaibaaDoor
open Go.RowKit

theorem getD_left {T U : List (List UInt8)} {i : Nat} (h : i < T.length) : (T ++ U).getD i [] = T.getD i [] := by
  simp [List.getElem?_append_left h]
theorem getD_end {T : List (List UInt8)} {x : List UInt8} {i : Nat} (h : i = T.length) : (T ++ [x]).getD i [] = x := by
  subst h; simp
theorem set_snoc {T : List (List UInt8)} {x : List UInt8} (h : SetF T) (hx : 0 < T.length → cmpF (T.getD (T.length - 1) []) x < 0) : SetF (T ++ [x]) := by
  rw [setF_chain] at h ⊢
  intro i hi
  rw [List.length_append, List.length_singleton] at hi
  by_cases h1 : i + 1 < T.length
  · have := h i h1
    rw [getD_left (by omega), getD_left h1]
    exact this
  · have e : i = T.length - 1 := by omega
    have := hx (by omega)
    rw [getD_left (by omega), getD_end (by omega), e]
    exact this

theorem take_snoc {L : List (List UInt8)} {i : Nat} (h : i < L.length) : L.take (i + 1) = L.take i ++ [L.getD i []] := by
  rw [List.take_succ_eq_append_getElem h]
  simp [h]
theorem getD_take {L : List (List UInt8)} {i j : Nat} (h : j < i) : (L.take i).getD j [] = L.getD j [] := by
  simp [h]
theorem up_at {L : List (List UInt8)} (h : Up L) {i j : Nat} (hij : i < j) (hj : j < L.length) : cmpF (L.getD i []) (L.getD j []) ≤ 0 := by
  have := List.pairwise_iff_getElem.1 h i j (by omega) hj hij
  simpa [hj, show i < L.length from by omega] using this
theorem up_ne {L : List (List UInt8)} (h : Up L) {i j : Nat} (hij : i < j) (hj : j < L.length) (hne : L.getD j [] ≠ L.getD i []) : cmpF (L.getD i []) (L.getD j []) < 0 := by
  have h1 := up_at h hij hj
  have h2 : cmpF (L.getD i []) (L.getD j []) ≠ 0 := fun h0 => hne (cmpF_eq h0).symm
  omega

theorem one_set {L : List (List UInt8)} (h : 1 ≤ L.length) : SetF (L.take 1) := by
  cases L with
  | nil => simp at h
  | cons x T => simp [SetF]
theorem set_next {L : List (List UInt8)} {i : Nat} (hu : Up L) (h : SetF (L.take i)) (h1 : 1 ≤ i) (hi : i < L.length) (hne : L.getD i [] ≠ L.getD (i - 1) []) : SetF (L.take (i + 1)) := by
  rw [take_snoc hi]
  refine set_snoc h (fun _ => ?_)
  rw [List.length_take, show min i L.length - 1 = i - 1 from by omega, getD_take (by omega)]
  exact up_ne hu (by omega) hi hne

/-- How far it is, in place. -/
structure Once (L : List (List UInt8)) (p i : Nat) (R : List (List UInt8)) : Prop where
  one : 1 ≤ i
  le : i ≤ p
  lt : p < L.length
  len : R.length = L.length
  rest : R.drop p = L.drop p
  set : SetF (R.take i)
  mem : ∀ x, x ∈ R.take i ↔ x ∈ L.take (p + 1)
  last : R.getD (i - 1) [] = L.getD p []

theorem Once.start {L : List (List UInt8)} {i : Nat} (h : SetF (L.take i)) (h1 : 1 ≤ i) (hi : i < L.length) (he : L.getD i [] = L.getD (i - 1) []) : Once L i i L := by
  refine ⟨h1, Nat.le_refl _, hi, rfl, rfl, h, fun x => ?_, he.symm⟩
  rw [take_snoc hi, List.mem_append, List.mem_singleton]
  refine ⟨.inl, fun hx => ?_⟩
  rcases hx with hx | rfl
  · exact hx
  · rw [he]
    have : (L.take i).getD (i - 1) [] = L.getD (i - 1) [] := getD_take (by omega)
    rw [← this]
    have h3 : i - 1 < (L.take i).length := by simp; omega
    have : (L.take i).getD (i - 1) [] = (L.take i)[i - 1] := by rw [List.getD_eq_getElem?_getD, List.getElem?_eq_getElem h3]; rfl
    rw [this]
    exact List.getElem_mem h3
theorem Once.same {L R : List (List UInt8)} {p i : Nat} (h : Once L p i R) (hp : p + 1 < L.length) (he : L.getD (p + 1) [] = L.getD p []) : Once L (p + 1) i R := by
  refine ⟨h.one, by have := h.le; omega, hp, h.len, ?_, h.set, fun x => ?_, h.last.trans he.symm⟩
  · rw [← List.drop_drop, ← List.drop_drop, h.rest]
  · rw [h.mem, take_snoc hp, List.mem_append, List.mem_singleton]
    refine ⟨.inl, fun hx => ?_⟩
    rcases hx with hx | rfl
    · exact hx
    · rw [he, take_snoc (by omega)]; simp
theorem set_take {R : List (List UInt8)} {i : Nat} {x : List UInt8} (h : i < R.length) : (R.set i x).take (i + 1) = R.take i ++ [x] := by
  rw [List.set_eq_take_append_cons_drop, if_pos h]
  have h1 : (R.take i).length = i := by simp; omega
  rw [List.take_append, h1, List.take_of_length_le (by omega), show i + 1 - i = 1 from by omega]
  rfl
theorem Once.next {L R : List (List UInt8)} {p i : Nat} (hu : Up L) (h : Once L p i R) (hp : p + 1 < L.length) (hne : L.getD (p + 1) [] ≠ L.getD p []) : Once L (p + 1) (i + 1) (R.set i (L.getD (p + 1) [])) := by
  have hir : i < R.length := by have := h.le; have := h.lt; have := h.len; omega
  refine ⟨by omega, by have := h.le; omega, hp, by rw [List.length_set]; exact h.len, ?_, ?_, fun x => ?_, ?_⟩
  · rw [List.drop_set_of_lt (by have := h.le; omega), ← List.drop_drop, ← List.drop_drop, h.rest]
  · rw [set_take hir]
    refine set_snoc h.set (fun _ => ?_)
    rw [List.length_take, show min i R.length - 1 = i - 1 from by omega, getD_take (by have := h.one; omega), h.last]
    exact up_ne hu (by omega) hp hne
  · rw [set_take hir, take_snoc hp, List.mem_append, List.mem_append, h.mem]
  · simp [hir]
theorem Once.end {L R : List (List UInt8)} {p i : Nat} (h : Once L p i R) (hp : p + 1 = L.length) : SetF (R.take i) ∧ ∀ x, x ∈ R.take i ↔ x ∈ L :=
  ⟨h.set, fun x => by rw [h.mem, List.take_of_length_le (by omega)]⟩
theorem Once.read {L R : List (List UInt8)} {p i : Nat} (h : Once L p i R) (j : Nat) (hj : p ≤ j) : R.getD j [] = L.getD j [] := by
  have h1 : (R.drop p).getD (j - p) [] = (L.drop p).getD (j - p) [] := by rw [h.rest]
  simpa [show p + (j - p) = j from by omega] using h1

theorem RowC.at_ {w : World} {g : Nat} {L : List (List UInt8)} (h : RowC w g L) (i : Nat) (hi : i < L.length) : w.rangeAt g (i * 32) ((L.getD i []).map B) := by
  have := rangeAt_part h.2.1 (i * 32) 32
  rwa [flat_at h.1 i hi, Nat.zero_add] at this

/-- 'clear(s)'. -/
theorem run_clear_ids (w : World) (ty : TypeId) (b o n c : Nat) (hn : 0 < n) (ht : w.there b o (n * 32)) :
    (Builtin.clear_ #[45] ty #[.slice (some ⟨b, o, none⟩) n c]).run Tryd.prog w = .ok (.tuple #[]) (w.setCells b o (flat (zeros n))) := by
  have hv : (zeroValue 35).run Tryd.prog w = .ok (.agg (idCells idZero)) w := run_zero_id w
  have hzc : (Builtin.zeroCells (Value.agg (idCells idZero)).cells n).toList = flat (zeros n) := by
    have h := zeros_flat n
    have hsz : (idCells idZero).size = 32 := idCells_size idZero_length
    have e : Builtin.zeroCells (Value.agg (idCells idZero)).cells n = madeCells (idCells idZero) (n * 32) := by
      show (Array.range (n * (idCells idZero).size)).map _ = (Array.range (n * 32)).map _
      rw [hsz]; exact congrArg (fun k => (Array.range (n * 32)).map (fun i => (idCells idZero)[i % k]!)) hsz
    rw [e]; exact h
  have hlen : (flat (zeros n)).length = n * 32 := by rw [flat_length (zeros_W n), zeros_length]
  have hst := run_storeCells_cells (P := Tryd.prog) b o (flat (zeros n)) 0 w (by rw [hlen]; simpa using fun j hj => (ht j hj).1) (by rw [hlen]; simpa using fun j hj => (ht j hj).2) (flat_one _)
  simp only [Nat.add_zero] at hst
  obtain ⟨m, rfl⟩ : ∃ m, n = m + 1 := ⟨n - 1, by omega⟩
  simp [Builtin.clear_, run_underlying Tryd.underlying45, hv, hzc, hst]

theorem wl_clear {w : World} {ops : Array Oper} {rest : List Oper} {o : Oper} {a : Act} {Q : Exit → Act → World → Prop} (hgd : o.guard = none) (x : Operand)
    (ho : o.op = .call { callee := .builtin .clear, args := #[x], argTypes := #[45] }) (b off n c : Nat) (hx : a.eval x = .slice (some ⟨b, off, none⟩) n c) (hn : 0 < n) (ht : w.there b off (n * 32))
    (h : wpList Tryd.prog ops Q rest (a.put o.dst (.tuple #[])) (w.setCells b off (flat (zeros n)))) : wpList Tryd.prog ops Q (o :: rest) a w := by
  refine wpList_ok hgd (v := .tuple #[]) ?_ h
  obtain ⟨dst, op, ty, pos, after, guard⟩ := o
  subst ho
  simp only [BigFrame.execOp_builtin, BigFrame.builtin_clear]
  simp [hx, run_clear_ids w ty b off n c hn ht]

theorem RowC.there_from {w : World} {g : Nat} {L : List (List UInt8)} (h : RowC w g L) (i n : Nat) (hi : i + n ≤ L.length) : w.there g (i * 32) (n * 32) := fun j hj => by
  have := h.2.2 (i * 32 + j) (by omega)
  rwa [Nat.zero_add] at this
theorem RowC.head_cleared {w : World} {g : Nat} {L : List (List UInt8)} (h : RowC w g L) (i c : Nat) (hi : i ≤ L.length) (hc : i ≤ c) (hc2 : c ≤ 9223372036854775807) (vs : List Value) : IdsAt (w.setCells g (i * 32) vs) (some ⟨g, 0, none⟩) i c (L.take i) := by
  refine ⟨by simp; omega, hc, hc2, h.1.take i, .inr ⟨g, 0, rfl, fun j v hv => ?_⟩⟩
  have hj : j < i * 32 := by
    have := (List.getElem?_eq_some_iff.1 hv).1
    rw [flat_length (h.1.take i), List.length_take] at this
    omega
  rw [World.cell?_setCells_out g _ _ w ⟨g, 0 + j, none⟩ (fun _ _ => .inl (by show 0 + j < i * 32; omega))]
  rw [← flat_take h.1, List.getElem?_take, if_pos hj] at hv
  exact h.2.1 j v hv
#print axioms wl_clear
end Go.Proofs.YtcnhifkpflaibaaDoor

namespace Go.Proofs.YtcnhifkpflaibaaDoor
open Go.RowKit

/-- A slice that reads as these ids; from a block on, all may be new. -/
def MadeS (base : Nat) (w : World) (L : List (List UInt8)) (e : Ending) (w' : World) : Prop := ∃ a c, e = .returned (.slice a L.length c) ∧ IdsAt w' a L.length c L ∧ Below base w w'
theorem MadeS.of {base n c : Nat} {w w' : World} {L M : List (List UInt8)} {a : Option Addr} (h : IdsAt w' a n c M) (hb : Below base w w') (hs : SetF M) (hm : ∀ x, x ∈ M ↔ x ∈ L) : MadeS base w (setF L) (.returned (.slice a n c)) w' := by
  obtain rfl := setF_of hs hm
  have := h.1
  subst this
  exact ⟨a, c, rfl, h, hb⟩

set_option maxRecDepth 100000 in
set_option maxHeartbeats 4000000 in
theorem compact_any (base : Nat) (a : Option Addr) (n c : Nat) (L : List (List UInt8)) (w : World) (hI : IdsAt w a n c L) (hr : 0 < n → ∃ g, a = some ⟨g, 0, none⟩ ∧ base ≤ g ∧ RowC w g L) (hu : Up L) (hn : n ≤ 1000000000) (hbase : base ≤ w.heap.size) :
    Calls Tryd.prog 63 #[.slice a n c] w (MadeS base w (setF L)) := by
  have HLN := Lib.hid hI.1
  have HU := Lib.hid hu
  have hnI : (n : Int) ≤ 1000000000 := by omega
  by_cases h2 : (n : Int) < 2
  · have HI := Lib.hid hI
    have HS := Lib.hid (show SetF L by
      have h1 := hI.1
      rcases L with _ | ⟨x, _ | ⟨y, T⟩⟩
      · simp [SetF]
      · simp [SetF]
      · simp at h1; omega)
    clear hI hr hu hbase
    go_enter Tryd.func63, Tryd.ntmps63
    go_wp2
    go_ret
    exact MadeS.of HI.out (Below.refl _ _) HS.out (fun x => Iff.rfl)
  · obtain ⟨g, rfl, hbg, hrow⟩ := hr (by omega)
    have HB := Lib.hid hbg
    have HBS := Lib.hid hbase
    have HR := Lib.hid hrow
    have hcn : (n : Int) ≤ (c : Int) := by have := hI.2.1; omega
    have hcm : (c : Int) ≤ 9223372036854775807 := by have := hI.2.2.1; omega
    have HC := Lib.hid (And.intro hI.2.1 hI.2.2.1)
    have HO := Lib.hid (show SetF (L.take 1) from one_set (by have := hI.1; omega))
    clear hI hr hu hbase hbg hrow
    go_enter Tryd.func63, Tryd.ntmps63
    go_wp2
    go_loopg [3] n (fun gg v3 W => ∃ i : Nat, v3 = .int .i64 i ∧ 1 ≤ i ∧ (i : Int) ≤ (n : Int) ∧ gg + i = n + 1 ∧ Kept g w W ∧ Hid (RowC W g L) ∧ Hid (SetF (L.take i)))
    case atStart => exact ⟨1, rfl, Nat.le_refl _, by omega, rfl, Kept.refl _ _, HR, HO⟩
    case round =>
      clear HR HO
      obtain ⟨i, rfl, hi1, hiI, hg, hkw, hrow, hset⟩ := hrel
      have HG := Lib.hid hg
      have hi0 : (1 : Int) ≤ (i : Int) := by omega
      by_cases hin : (i : Int) < (n : Int)
      · have hkd := hkw.trans (Kept.of_below (Below.refl _ wr).drew)
        have HRD := Lib.hid (hrow.out.below (Below.refl _ wr).drew)
        have HCA := Lib.hid (HRD.out.at_ i (by rw [HLN.out]; omega))
        have HCB := Lib.hid (HRD.out.at_ (i - 1) (by rw [HLN.out]; omega))
        have HX := Lib.hid (getD_32 HRD.out.1 (i := i) (by rw [HLN.out]; omega))
        have HY := Lib.hid (getD_32 HRD.out.1 (i := i - 1) (by rw [HLN.out]; omega))
        have HIL := Lib.hid (show i < L.length by rw [HLN.out]; omega)
        have k1 : IntKind.i64.wrap ((i : Int) - 1) = (i : Int) - 1 := IntWalk.i64_in _ (by omega)
        have k2 : 0 ≤ (i : Int) - 1 := by omega
        have k3 : ((i : Int) - 1).toNat = i - 1 := by omega
        have k4 : (i : Int) - 1 < (n : Int) := by omega
        have k5 : i - 1 < n := by omega
        have HI1 := Lib.hid hi1
        clear hg hi1 hkw hrow
        go_wp2
        refine wp_region_still_lit (by kernel_rfl) (by kernel_rfl) ?_
        still_step
        still_step
        still_step
        refine still_w (by rfl) (exec_loadId _ rfl _ _ _ HX.out rfl HCA.out) ?_
        simp only [Act.put, List.setIfInBounds_toArray, List.set_cons_zero, List.set_cons_succ]
        still_step
        still_step
        still_step
        still_step
        refine still_w (by rfl) (exec_loadId _ rfl _ _ _ HY.out rfl HCB.out) ?_
        simp only [Act.put, List.setIfInBounds_toArray, List.set_cons_zero, List.set_cons_succ]
        refine still_w (by rfl) (exec_eqlId _ _ _ rfl _ _ HX.out HY.out rfl rfl) ?_
        simp only [Act.put, List.setIfInBounds_toArray, List.set_cons_zero, List.set_cons_succ]
        refine wpStill_nil ?_
        change Exit.then _ _ _ _ wr.drew
        clear k1 k3
        generalize wr.drew = w2 at hkd HRD HCA HCB ⊢
        by_cases he : L.getD i [] = L.getD (i - 1) []
        · have HON := Lib.hid (Once.start hset.out HI1.out HIL.out he)
          rw [decide_eq_true he]
          clear he hset
          have j1 : i ≤ n := by omega
          have j2 : n ≤ c := HC.out.1
          have j3 : (c = i) = False := eq_false (by omega)
          have hRk := HRD
          go_wp2
          go_loopg [3, 5] n (fun gg v3 v5 W => ∃ (k j : Nat) (R : List (List UInt8)), v3 = .int .i64 k ∧ v5 = .int .i64 j ∧ 1 ≤ j ∧ (j : Int) ≤ ((n - i : Nat) : Int) ∧ (k : Int) < (n : Int) ∧ gg + j = n + 1 ∧ Kept g w W ∧ Hid (RowC W g R) ∧ Hid (Once L (i + (j - 1)) k R))
          case atStart => exact ⟨i, 1, L, rfl, rfl, Nat.le_refl _, by omega, by omega, rfl, hkd, HRD, HON⟩
          case round =>
            clear HRD HON hRk hkd HCA HCB
            obtain ⟨k, j, R, rfl, rfl, hj1, hjI, hkI, hg, hkw, hrow, hon⟩ := hrel
            have HG2 := Lib.hid hg
            have hj0 : (1 : Int) ≤ (j : Int) := by omega
            have hk0 : (0 : Int) ≤ (k : Int) := by omega
            have HRN := Lib.hid (show R.length = n by rw [hon.out.len, HLN.out])
            by_cases hjn : (j : Int) < ((n - i : Nat) : Int)
            · have hkd := hkw.trans (Kept.of_below (Below.refl _ wr).drew)
              have HRD := Lib.hid (hrow.out.below (Below.refl _ wr).drew)
              obtain ⟨x, hxe⟩ : ∃ x, x = R.getD (i + j) [] := ⟨_, rfl⟩
              obtain ⟨y, hye⟩ : ∃ y, y = R.getD (i + (j - 1)) [] := ⟨_, rfl⟩
              have HCA := Lib.hid (show wr.drew.rangeAt g (i * 32 + j * 32) (x.map B) by have := HRD.out.at_ (i + j) (by rw [HRN.out]; omega); rwa [Nat.add_mul, ← hxe] at this)
              have HCB := Lib.hid (show wr.drew.rangeAt g (i * 32 + (j - 1) * 32) (y.map B) by have := HRD.out.at_ (i + (j - 1)) (by rw [HRN.out]; omega); rwa [Nat.add_mul, ← hye] at this)
              have HX := Lib.hid (show x.length = 32 by rw [hxe]; exact getD_32 HRD.out.1 (by rw [HRN.out]; omega))
              have HY := Lib.hid (show y.length = 32 by rw [hye]; exact getD_32 HRD.out.1 (by rw [HRN.out]; omega))
              have HXE := Lib.hid (show x = L.getD (i + (j - 1) + 1) [] by rw [hxe, hon.out.read (i + j) (by omega), show i + (j - 1) + 1 = i + j from by omega])
              have HYE := Lib.hid (show y = L.getD (i + (j - 1)) [] by rw [hye, hon.out.read (i + (j - 1)) (by omega)])
              have HLT := Lib.hid (show i + (j - 1) + 1 < L.length by rw [HLN.out]; omega)
              have HTH := Lib.hid (show wr.drew.there g (k * 32) 32 from HRD.out.there_at k (by rw [HRN.out]; omega))
              have HKN := Lib.hid (show k < R.length by rw [HRN.out]; omega)
              have k1 : IntKind.i64.wrap ((j : Int) - 1) = (j : Int) - 1 := IntWalk.i64_in _ (by omega)
              have k2 : 0 ≤ (j : Int) - 1 := by omega
              have k3 : ((j : Int) - 1).toNat = j - 1 := by omega
              have k4 : (j : Int) - 1 < ((n - i : Nat) : Int) := by omega
              have k5 : j - 1 < n - i := by omega
              have HJ1 := Lib.hid hj1
              clear hg hj1 hkw hrow hxe hye
              go_wp2
              refine wp_region_still_lit (by kernel_rfl) (by kernel_rfl) ?_
              still_step
              still_step
              still_step
              refine still_w (by rfl) (exec_loadId _ rfl _ _ _ HX.out rfl HCA.out) ?_
              simp only [Act.put, List.setIfInBounds_toArray, List.set_cons_zero, List.set_cons_succ]
              still_step
              still_step
              still_step
              still_step
              refine still_w (by rfl) (exec_loadId _ rfl _ _ _ HY.out rfl HCB.out) ?_
              simp only [Act.put, List.setIfInBounds_toArray, List.set_cons_zero, List.set_cons_succ]
              refine still_w (by rfl) (exec_neqId _ _ _ rfl _ _ HX.out HY.out rfl rfl) ?_
              simp only [Act.put, List.setIfInBounds_toArray, List.set_cons_zero, List.set_cons_succ]
              refine wpStill_nil ?_
              change Exit.then _ _ _ _ wr.drew
              clear k1 k3
              generalize wr.drew = w2 at hkd HRD HCA HCB HTH ⊢
              by_cases he : x = y
              · have HN := Lib.hid (show Once L (i + (j + 1 - 1)) k R by
                  have h := hon.out.same HLT.out (by rw [← HXE.out, ← HYE.out, he])
                  rwa [show i + (j - 1) + 1 = i + (j + 1 - 1) from by have := HJ1.out; omega] at h)
                rw [decide_eq_true he, Bool.not_true]
                clear he
                go_wp2
                go_roundg (gk - 1)
                case measure => have := HG2.out; omega
                case rel => exact ⟨k, j + 1, R, rfl, by go_num, by omega, by omega, hkI, by have := HG2.out; omega, hkd, HRD, HN⟩
              · have HN := Lib.hid (show Once L (i + (j + 1 - 1)) (k + 1) (R.set k x) by
                  have h := hon.out.next HU.out HLT.out (by rw [← HXE.out, ← HYE.out]; exact he)
                  rwa [← HXE.out, show i + (j - 1) + 1 = i + (j + 1 - 1) from by have := HJ1.out; omega] at h)
                have HKP := Lib.hid (show (k : Int) + 1 < (n : Int) by have := HN.out.le; have := HN.out.lt; have := HLN.out; omega)
                have HRS := Lib.hid (HRD.out.store k HKN.out x HX.out)
                have HKS := Lib.hid (hkd.trans (Kept.setCells g (k * 32) (x.map B) w2))
                rw [decide_eq_false he, Bool.not_false]
                clear he hkd
                go_wp2_with (first
                  | (refine wl_load (by rfl) _ rfl g (i * 32 + j * 32) x HX.out rfl HCA.out ?_)
                  | (refine wl_store rfl _ _ rfl g (k * 32) x HX.out rfl rfl HTH.out ?_))
                go_roundg (gk - 1)
                case measure => have := HG2.out; omega
                case rel => exact ⟨k + 1, j + 1, R.set k x, by go_num, by go_num, by omega, by omega, by have := HKP.out; omega, by have := HG2.out; omega, HKS.out, HRS, HN⟩
            · have HE := Lib.hid (hon.out.end (by rw [HLN.out]; omega))
              have m1 : k ≤ n := by omega
              have m2 : k ≤ c := by omega
              have m3 : (c = k) = False := eq_false (by omega)
              have HTH := Lib.hid (show wr.there g (k * 32) ((n - k) * 32) from hrow.out.there_from k (n - k) (by rw [HRN.out]; omega))
              have HNK := Lib.hid (show 0 < n - k by omega)
              have HIA := Lib.hid (hrow.out.head_cleared k c (by rw [HRN.out]; omega) m2 HC.out.2 (flat (zeros (n - k))))
              have HKS := Lib.hid (hkw.trans (Kept.setCells g (k * 32) (flat (zeros (n - k))) wr))
              clear hg hj1 hkw hrow
              go_wp2_with (refine wl_clear rfl _ rfl g (k * 32) (n - k) (c - k) rfl HNK.out HTH.out ?_)
              go_ret
              exact MadeS.of HIA.out (HKS.out.below (Below.refl _ _) HB.out HBS.out) HE.out.1 HE.out.2
        · have HN := Lib.hid (set_next HU.out hset.out HI1.out HIL.out he)
          rw [decide_eq_false he]
          clear he
          go_wp2
          go_roundg (gk - 1)
          case measure => have := HG.out; omega
          case rel => exact ⟨i + 1, by go_num, by omega, by omega, by have := HG.out; omega, hkd, HRD, HN⟩
      · have HS := Lib.hid (show SetF L by have h := hset.out; rwa [List.take_of_length_le (by rw [HLN.out]; omega)] at h)
        have HI := Lib.hid (hrow.out.whole HLN.out HC.out.1 HC.out.2)
        clear hg hi1
        go_wp2
        go_ret
        exact MadeS.of HI.out (hkw.below (Below.refl _ _) HB.out HBS.out) HS.out (fun x => Iff.rfl)
#print axioms compact_any

set_option maxRecDepth 100000 in
set_option maxHeartbeats 400000 in
theorem sort_any (a : Option Addr) (n c : Nat) (l : List (List UInt8)) (w : World) (hb : IdsAt w a n c l) (hl : n ≤ 1000000000) :
    Calls Tryd.prog 64 #[.slice a n c] w (MadeR w (sortF l)) := by
  have HS := Lib.hid (sorted_any a n c l w hb hl)
  clear hb hl
  unfold cmpV at HS
  go_enter Tryd.func64, Tryd.ntmps64
  go_wp2_with (go_at_call 77; go_must (refine HS.out.mono ?_); rintro e w1 ⟨a1, c1, rfl, hr⟩)
  go_ret
  exact ⟨a1, c1, rfl, hr⟩

theorem setF_sortF (l : List (List UInt8)) : setF (sortF l) = setF l := setF_of (setF_set _) (fun x => (setF_mem _ x).trans (sortF_perm l).mem_iff)

set_option maxRecDepth 100000 in
set_option maxHeartbeats 400000 in
theorem set_any (a : Option Addr) (n c : Nat) (l : List (List UInt8)) (w : World) (hb : IdsAt w a n c l) (hl : n ≤ 1000000000) :
    Calls Tryd.prog 42 #[.slice a n c] w (MadeS w.heap.size w (setF l)) := by
  have hlen : (sortF l).length ≤ 1000000000 := by rw [sortF_length, hb.1]; exact hl
  have HS := Lib.hid (sort_any a n c l w hb hl)
  have HL := Lib.hid hlen
  clear hb hl hlen
  go_enter Tryd.func42, Tryd.ntmps42
  go_wp2_with (first
    | (go_at_call 64; go_must (refine HS.out.mono ?_); rintro e w1 ⟨a1, c1, rfl, hi1, hb1, hr1⟩)
    | (go_at_call 63; go_must (refine (compact_any w.heap.size a1 _ c1 (sortF l) w1 hi1 hr1 (sortF_up l) HL.out hb1.size).mono ?_); rintro e w2 ⟨a2, c2, rfl, hi2, hb2⟩))
  go_ret
  rw [setF_sortF] at hi2 ⊢
  exact ⟨a2, c2, rfl, hi2, hb1.trans hb2⟩
#print axioms set_any
end Go.Proofs.YtcnhifkpflaibaaDoor

namespace Go.Proofs.YtcnhifkpflaibaaDoor
open Go.RowKit

theorem run_one (w : World) {x : List UInt8} (hx : x.length = 32) : (Instr.buildSlice 45 1 #[(0, .agg (idCells x))]).run Tryd.prog w = .ok (.slice (some ⟨w.heap.size, 0, none⟩) 1 1) (w.alloc (.cells (idCells x) 35)) := by
  obtain ⟨i0, hi, hz0, hz1, hz2⟩ := info_parts Tryd.infoI35
  obtain ⟨r, h1, h2, h3⟩ := Great.fill_dense (s := 32) (by omega) [.agg (idCells x)] 0 ((Array.range (1 * 32)).map ((Value.agg (idCells idZero)).cells[· % (Value.agg (idCells idZero)).cells.size]!)) (fun v hv => by
    simp only [List.mem_singleton] at hv; subst hv; exact idCells_size hx) (by simp)
  have e : r = idCells x := by
    apply Array.ext_getElem?
    intro k
    rw [h3 k]
    by_cases hk : k < 32
    · rw [if_pos (by simp; omega), show k / 32 - 0 = 0 from by omega, Nat.mod_eq_of_lt hk]; rfl
    · rw [if_neg (by simp; omega), Array.getElem?_eq_none (by simp; omega), Array.getElem?_eq_none (by rw [idCells_size hx]; omega)]
  refine run_buildSlice w _ _ 1 _ (idCells x) i0 _ Tryd.underlying45 hi hz0 (by rw [hz1]; omega) (by rw [hz1]; omega) ?_
  rw [hz1]
  rw [e] at h1
  exact h1

theorem wl_one {w : World} {ops : Array Oper} {rest : List Oper} {o : Oper} {a : Act} {Q : Exit → Act → World → Prop} (hgd : o.guard = none) (x : Operand) (ho : o.op = .buildSlice 45 1 #[(0, x)])
    (l : List UInt8) (hl : l.length = 32) (hx : a.eval x = .agg (idCells l))
    (h : wpList Tryd.prog ops Q rest (a.put o.dst (.slice (some ⟨w.heap.size, 0, none⟩) 1 1)) (w.alloc (.cells (idCells l) 35))) : wpList Tryd.prog ops Q (o :: rest) a w := by
  refine wpList_ok hgd ?_ h
  unfold execOp
  simp only [ho, List.map_toArray, List.map_cons, List.map_nil, hx, Sem.run_bind, run_one w hl, Result.andThen_ok, Sem.run_pure]

theorem ids_new (w : World) {x : List UInt8} (hx : x.length = 32) : IdsAt (w.alloc (.cells (idCells x) 35)) (some ⟨w.heap.size, 0, none⟩) 1 1 [x] :=
  ⟨rfl, Nat.le_refl _, by omega, (fun y hy => by simp only [List.mem_singleton] at hy; subst hy; exact hx), .inr ⟨_, 0, rfl, by
    have h := (idAt_new w x hx).range
    have e : flat [x] = x.map B := by simp [flat]
    rwa [e]⟩⟩

/-- What one more comes to, behind what the call owns. -/
def MoreI (base : Nat) (w : World) (L : List (List UInt8)) (v' : Value) (w' : World) : Prop := ∃ g c, v' = .slice (some ⟨g, 0, none⟩) L.length c ∧ base ≤ g ∧ OwnI w' base v' L ∧ Below base w w'

theorem more_of {base : Nat} {w w1 w' : World} {v v' : Value} {L : List (List UInt8)} (h : OwnI w' base v' L) (hp : 0 < L.length) (hb : Below base w w1) (hg : w1.grownBy w' v.ownBlock) (hv : ∀ k, v.ownBlock = some k → base ≤ k) (hs : base ≤ w1.heap.size) : MoreI base w L v' w' := by
  obtain ⟨a, c, rfl, _⟩ := h.ids
  obtain ⟨g, rfl, hgb, _⟩ := h.row hp
  exact ⟨g, c, rfl, hgb, h, hb.grown hg hs hv⟩

end Go.Proofs.YtcnhifkpflaibaaDoor
