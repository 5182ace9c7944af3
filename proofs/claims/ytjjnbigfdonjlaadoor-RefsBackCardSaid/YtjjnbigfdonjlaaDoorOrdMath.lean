/-
  Plain facts on the order of ids and of keys, on lists in order and on sets. No program is named here.
-/
import Derived.Below
namespace Go.Proofs.YtjjnbigfdonjlaaDoor

/-- Which stands ahead: by the first byte that differs. -/
def cmpF : List UInt8 → List UInt8 → Int
  | [], [] => 0
  | [], _ :: _ => -1
  | _ :: _, [] => 1
  | a :: r, b :: s => if a.toNat < b.toNat then -1 else if b.toNat < a.toNat then 1 else cmpF r s

theorem cmpF_range (a b : List UInt8) : cmpF a b = -1 ∨ cmpF a b = 0 ∨ cmpF a b = 1 := by
  induction a generalizing b with
  | nil => cases b <;> simp [cmpF]
  | cons x r ih =>
    cases b with
    | nil => simp [cmpF]
    | cons y s =>
      unfold cmpF
      repeat' split
      · exact .inl rfl
      · exact .inr (.inr rfl)
      · exact ih s

theorem cmpF_self (a : List UInt8) : cmpF a a = 0 := by
  induction a with
  | nil => rfl
  | cons x r ih => simp [cmpF, ih]

theorem cmpF_eq {a b : List UInt8} (h : cmpF a b = 0) : a = b := by
  induction a generalizing b with
  | nil => cases b with | nil => rfl | cons y s => simp [cmpF] at h
  | cons x r ih =>
    cases b with
    | nil => simp [cmpF] at h
    | cons y s =>
      unfold cmpF at h
      split at h
      · omega
      · split at h
        · omega
        · have hxy : x = y := UInt8.toNat_inj.1 (by omega)
          rw [hxy, ih h]

theorem cmpF_anti (a b : List UInt8) : cmpF b a = - cmpF a b := by
  induction a generalizing b with
  | nil => cases b <;> simp [cmpF]
  | cons x r ih =>
    cases b with
    | nil => simp [cmpF]
    | cons y s =>
      unfold cmpF
      by_cases h1 : x.toNat < y.toNat
      · rw [if_neg (by omega), if_pos h1, if_pos h1]; rfl
      · by_cases h2 : y.toNat < x.toNat
        · rw [if_pos h2, if_neg h1, if_pos h2]
        · rw [if_neg h2, if_neg h1, if_neg h1, if_neg h2]; exact ih s

/-- Ahead of what stands ahead. -/
theorem cmpF_trans {a b c : List UInt8} (h1 : cmpF a b ≤ 0) (h2 : cmpF b c ≤ 0) : cmpF a c ≤ 0 ∧ (cmpF a c = 0 → cmpF a b = 0 ∧ cmpF b c = 0) := by
  induction a generalizing b c with
  | nil =>
    cases b with
    | nil => exact ⟨h2, fun h => ⟨rfl, h⟩⟩
    | cons y s => cases c with | nil => simp [cmpF] at h2 | cons z t => simp [cmpF]
  | cons x r ih =>
    cases b with
    | nil => simp [cmpF] at h1
    | cons y s =>
      cases c with
      | nil => simp [cmpF] at h2
      | cons z t =>
        unfold cmpF at h1 h2 ⊢
        by_cases e1 : x.toNat < y.toNat
        · have e2 : ¬ z.toNat < y.toNat := fun h => by rw [if_neg (by omega), if_pos h] at h2; omega
          rw [if_pos (by omega)]
          exact ⟨by omega, fun h => by omega⟩
        · rw [if_neg e1] at h1
          by_cases e2 : y.toNat < x.toNat
          · rw [if_pos e2] at h1; omega
          · rw [if_neg e2] at h1
            have hxy : x.toNat = y.toNat := by omega
            by_cases e3 : y.toNat < z.toNat
            · rw [if_pos (by omega)]
              exact ⟨by omega, fun h => by omega⟩
            · rw [if_neg e3] at h2
              by_cases e4 : z.toNat < y.toNat
              · rw [if_pos e4] at h2; omega
              · rw [if_neg e4] at h2
                rw [if_neg (by omega), if_neg (by omega), if_neg e1, if_neg e2, if_neg e3, if_neg e4]
                exact ih h1 h2

/-- The first byte that differs decides. -/
theorem cmpF_at : ∀ (i : Nat) (a b : List UInt8), a.take i = b.take i → i < a.length → i < b.length →
    cmpF a b = if (a.getD i 0).toNat < (b.getD i 0).toNat then -1 else if (b.getD i 0).toNat < (a.getD i 0).toNat then 1 else cmpF (a.drop (i + 1)) (b.drop (i + 1))
  | 0, [], _, _, h, _ => by simp at h
  | 0, _ :: _, [], _, _, h => by simp at h
  | 0, x :: r, y :: s, _, _, _ => by simp [cmpF]
  | i + 1, [], _, _, h, _ => by simp at h
  | i + 1, _ :: _, [], _, _, h => by simp at h
  | i + 1, x :: r, y :: s, h, ha, hb => by
    simp only [List.take_succ_cons, List.cons.injEq] at h
    obtain ⟨rfl, h⟩ := h
    have := cmpF_at i r s h (by simpa using ha) (by simpa using hb)
    rw [cmpF, if_neg (by omega), if_neg (by omega), this]
    rfl

/-- Lists in order; sets. -/
def Up (l : List (List UInt8)) : Prop := l.Pairwise fun a b => cmpF a b ≤ 0
def SetF (l : List (List UInt8)) : Prop := l.Pairwise fun a b => cmpF a b < 0

theorem cmpF_le_trans {a b c : List UInt8} (h1 : cmpF a b ≤ 0) (h2 : cmpF b c ≤ 0) : cmpF a c ≤ 0 := (cmpF_trans h1 h2).1
theorem cmpF_lt_trans {a b c : List UInt8} (h1 : cmpF a b < 0) (h2 : cmpF b c < 0) : cmpF a c < 0 := by
  have h := cmpF_trans (a := a) (b := b) (c := c) (by omega) (by omega)
  rcases Int.lt_or_eq_of_le h.1 with h3 | h3
  · exact h3
  · have := (h.2 h3).1; omega
theorem cmpF_lt_le_trans {a b c : List UInt8} (h1 : cmpF a b < 0) (h2 : cmpF b c ≤ 0) : cmpF a c < 0 := by
  have h := cmpF_trans (a := a) (b := b) (c := c) (by omega) h2
  rcases Int.lt_or_eq_of_le h.1 with h3 | h3
  · exact h3
  · have := (h.2 h3).1; omega
theorem cmpF_le_lt_trans {a b c : List UInt8} (h1 : cmpF a b ≤ 0) (h2 : cmpF b c < 0) : cmpF a c < 0 := by
  have h := cmpF_trans (a := a) (b := b) (c := c) h1 (by omega)
  rcases Int.lt_or_eq_of_le h.1 with h3 | h3
  · exact h3
  · have := (h.2 h3).2; omega

theorem up_unique {l m : List (List UInt8)} (hl : Up l) (hm : Up m) (hp : l.Perm m) : l = m :=
  List.Perm.eq_of_pairwise (fun a b _ _ h1 h2 => cmpF_eq (by have := cmpF_anti a b; omega)) hl hm hp

theorem SetF.up {l : List (List UInt8)} (h : SetF l) : Up l := h.imp (fun h => by omega)
theorem SetF.nodup {l : List (List UInt8)} (h : SetF l) : l.Nodup := h.imp (fun {a b} h e => by subst e; rw [cmpF_self] at h; omega)

theorem set_unique {l m : List (List UInt8)} (hl : SetF l) (hm : SetF m) (h : ∀ x, x ∈ l ↔ x ∈ m) : l = m :=
  up_unique hl.up hm.up ((List.perm_ext_iff_of_nodup hl.nodup hm.nodup).2 h)

theorem set_of_up {l : List (List UInt8)} (h : Up l) (hn : l.Nodup) : SetF l := by
  unfold Up at h
  unfold SetF
  have := List.Pairwise.and h hn
  refine this.imp (fun {a b} h => ?_)
  rcases Int.lt_or_eq_of_le h.1 with h3 | h3
  · exact h3
  · exact absurd (cmpF_eq h3) h.2

/-- In order. -/
def leB (a b : List UInt8) : Bool := decide (cmpF a b ≤ 0)
def sortF (l : List (List UInt8)) : List (List UInt8) := l.mergeSort leB
theorem sortF_perm (l : List (List UInt8)) : (sortF l).Perm l := List.mergeSort_perm l leB
theorem sortF_up (l : List (List UInt8)) : Up (sortF l) := by
  have h := List.pairwise_mergeSort (le := leB) (fun a b c h1 h2 => by simp only [leB, decide_eq_true_eq] at h1 h2 ⊢; exact cmpF_le_trans h1 h2)
    (fun a b => by simp only [leB, Bool.or_eq_true, decide_eq_true_eq]; have := cmpF_anti a b; omega) l
  exact h.imp (fun h => by simpa [leB] using h)
theorem sortF_length (l : List (List UInt8)) : (sortF l).length = l.length := (sortF_perm l).length_eq
/-- Whatever is in order and has just these is it. -/
theorem sortF_of {l m : List (List UInt8)} (hu : Up m) (hp : m.Perm l) : m = sortF l := up_unique hu (sortF_up l) (hp.trans (sortF_perm l).symm)

/-- Each once. -/
def onceF : List (List UInt8) → List (List UInt8) → List (List UInt8)
  | out, [] => out
  | out, x :: r => onceF (if x ∈ out then out else out ++ [x]) r
theorem onceF_mem (l : List (List UInt8)) : ∀ out x, x ∈ onceF out l ↔ x ∈ out ∨ x ∈ l := by
  induction l with
  | nil => intro out x; simp [onceF]
  | cons y r ih =>
    intro out x
    rw [onceF, ih]
    by_cases h : y ∈ out
    · rw [if_pos h]
      simp only [List.mem_cons]
      constructor
      · rintro (h1 | h1)
        · exact .inl h1
        · exact .inr (.inr h1)
      · rintro (h1 | rfl | h1)
        · exact .inl h1
        · exact .inl h
        · exact .inr h1
    · rw [if_neg h]
      simp only [List.mem_append, List.mem_cons, List.not_mem_nil, or_false]
      rw [or_assoc]
theorem onceF_nodup (l : List (List UInt8)) : ∀ out, out.Nodup → (onceF out l).Nodup := by
  induction l with
  | nil => intro out h; exact h
  | cons y r ih =>
    intro out h
    rw [onceF]
    apply ih
    by_cases h1 : y ∈ out
    · rw [if_pos h1]; exact h
    · rw [if_neg h1, List.nodup_append]
      exact ⟨h, by simp, fun a ha b hb => by simp at hb; subst hb; exact fun e => h1 (e ▸ ha)⟩

/-- As a set. -/
def setF (l : List (List UInt8)) : List (List UInt8) := sortF (onceF [] l)
theorem setF_set (l : List (List UInt8)) : SetF (setF l) := set_of_up (sortF_up _) ((sortF_perm _).symm.nodup (onceF_nodup l [] List.nodup_nil))
theorem setF_mem (l : List (List UInt8)) (x : List UInt8) : x ∈ setF l ↔ x ∈ l := by
  unfold setF
  rw [(sortF_perm _).mem_iff, onceF_mem]
  simp
/-- Whatever is a set and has just these is it. -/
theorem setF_of {l m : List (List UInt8)} (hs : SetF m) (h : ∀ x, x ∈ m ↔ x ∈ l) : m = setF l := set_unique hs (setF_set l) (fun x => (h x).trans (setF_mem l x).symm)

/-- A list is a set, if each stands ahead of the next. -/
theorem setF_chain {l : List (List UInt8)} : SetF l ↔ ∀ i, i + 1 < l.length → cmpF (l.getD i []) (l.getD (i + 1) []) < 0 := by
  constructor
  · intro h i hi
    have := List.pairwise_iff_getElem.1 h i (i + 1) (by omega) hi (by omega)
    simpa [show i < l.length by omega, hi] using this
  · intro h
    refine List.pairwise_iff_getElem.2 (fun i j hi hj hij => ?_)
    have key : ∀ d i, i + d + 1 < l.length → cmpF (l.getD i []) (l.getD (i + d + 1) []) < 0 := by
      intro d
      induction d with
      | zero => intro i hi; exact h i hi
      | succ d ih =>
        intro i hi
        exact cmpF_lt_trans (ih i (by omega)) (h (i + d + 1) hi)
    have := key (j - i - 1) i (by omega)
    rw [show i + (j - i - 1) + 1 = j from by omega] at this
    simpa [hi, hj] using this

/-- How many of a list stand ahead of an id. -/
def aheadF (l : List (List UInt8)) (x : List UInt8) : Nat := (l.takeWhile fun a => decide (cmpF a x < 0)).length
theorem aheadF_le (l : List (List UInt8)) (x : List UInt8) : aheadF l x ≤ l.length := by unfold aheadF; exact (List.takeWhile_sublist _).length_le
theorem aheadF_lt {l : List (List UInt8)} {x : List UInt8} {i : Nat} (h : i < aheadF l x) : cmpF (l.getD i []) x < 0 := by
  induction l generalizing i with
  | nil => simp [aheadF] at h
  | cons a r ih =>
    unfold aheadF at h
    by_cases ha : cmpF a x < 0
    · rw [List.takeWhile_cons_of_pos (by simpa using ha)] at h
      cases i with
      | zero => exact ha
      | succ i => exact ih (by unfold aheadF; simpa using h)
    · rw [List.takeWhile_cons_of_neg (by simpa using ha)] at h
      simp at h
theorem aheadF_at {l : List (List UInt8)} {x : List UInt8} (h : aheadF l x < l.length) : 0 ≤ cmpF (l.getD (aheadF l x) []) x := by
  induction l with
  | nil => simp [aheadF] at h
  | cons a r ih =>
    by_cases ha : cmpF a x < 0
    · have e : aheadF (a :: r) x = aheadF r x + 1 := by unfold aheadF; rw [List.takeWhile_cons_of_pos (by simpa using ha)]; rfl
      rw [e] at h ⊢
      exact ih (by simpa using h)
    · have e : aheadF (a :: r) x = 0 := by unfold aheadF; rw [List.takeWhile_cons_of_neg (by simpa using ha)]; rfl
      rw [e]
      show 0 ≤ cmpF a x
      omega
/-- The place is the one: all ahead of it stand ahead, and what stands there doesn't. -/
theorem aheadF_of {l : List (List UInt8)} {x : List UInt8} {n : Nat} (hn : n ≤ l.length) (h1 : ∀ i, i < n → cmpF (l.getD i []) x < 0) (h2 : n < l.length → 0 ≤ cmpF (l.getD n []) x) : n = aheadF l x := by
  rcases Nat.lt_trichotomy n (aheadF l x) with h | h | h
  · have := aheadF_lt h
    have := h2 (by have := aheadF_le l x; omega)
    omega
  · exact h
  · have := h1 _ h
    have := aheadF_at (l := l) (x := x) (by omega)
    omega
/-- In a set an id is there just if it stands at its place. -/
theorem mem_at {l : List (List UInt8)} (hs : SetF l) (x : List UInt8) : x ∈ l ↔ aheadF l x < l.length ∧ l.getD (aheadF l x) [] = x := by
  constructor
  · intro h
    obtain ⟨i, hi, he⟩ := List.getElem_of_mem h
    have e : i = aheadF l x := aheadF_of (by omega) (fun j hj => by
        have := List.pairwise_iff_getElem.1 hs j i (by omega) hi hj
        rw [he] at this
        simpa [show j < l.length by omega] using this) (fun _ => by simp [hi, he, cmpF_self])
    rw [← e]
    exact ⟨hi, by simp [hi, he]⟩
  · rintro ⟨h1, h2⟩
    have : l.getD (aheadF l x) [] = l[aheadF l x] := by simp [h1]
    rw [← h2, this]
    exact List.getElem_mem _

/-- One more, put where it belongs: what stands ahead or is alike, it, what stands behind. -/
theorem insert_up {l : List (List UInt8)} (h : Up l) (x : List UInt8) (k : Nat) (hk : k ≤ l.length) (h1 : ∀ i, i < k → cmpF (l.getD i []) x ≤ 0) (h2 : ∀ i, k ≤ i → i < l.length → 0 < cmpF (l.getD i []) x) :
    Up (l.take k ++ x :: l.drop k) := by
  unfold Up at h ⊢
  rw [List.pairwise_append]
  refine ⟨h.sublist (List.take_sublist _ _), List.pairwise_cons.2 ⟨fun b hb => ?_, h.sublist (List.drop_sublist _ _)⟩, fun a ha b hb => ?_⟩
  · obtain ⟨i, hi, rfl⟩ := List.getElem_of_mem hb
    have hi' : k + i < l.length := by simp at hi; omega
    have := h2 (k + i) (by omega) hi'
    have ha := cmpF_anti (l.getD (k + i) []) x
    have e : (l.drop k)[i] = l.getD (k + i) [] := by simp [hi']
    rw [e]
    omega
  · obtain ⟨i, hi, rfl⟩ := List.getElem_of_mem ha
    have hik : i < k := by simp at hi; omega
    have hil : i < l.length := by omega
    have e : (l.take k)[i] = l.getD i [] := by simp [hil]
    rw [e]
    rcases List.mem_cons.1 hb with rfl | hb
    · exact h1 i hik
    · obtain ⟨j, hj, rfl⟩ := List.getElem_of_mem hb
      have hj' : k + j < l.length := by simp at hj; omega
      have := List.pairwise_iff_getElem.1 h i (k + j) hil hj' (by omega)
      simpa [hil] using this
theorem insert_perm (l : List (List UInt8)) (x : List UInt8) (k : Nat) : (l.take k ++ x :: l.drop k).Perm (l ++ [x]) := by
  have h : (l.take k ++ x :: l.drop k).Perm (x :: (l.take k ++ l.drop k)) := List.perm_middle
  rw [List.take_append_drop] at h
  exact h.trans (List.perm_append_singleton x l).symm
/-- A key: time, change, index. -/
structure KeyV where
  t : Int
  c : List UInt8
  i : Int

/-- Which of two keys stands ahead. -/
def keyF (a b : KeyV) : Int :=
  if a.t < b.t then -1 else if b.t < a.t then 1 else if cmpF a.c b.c = 0 then (if a.i < b.i then -1 else if b.i < a.i then 1 else 0) else cmpF a.c b.c

theorem keyF_range (a b : KeyV) : keyF a b = -1 ∨ keyF a b = 0 ∨ keyF a b = 1 := by
  have := cmpF_range a.c b.c
  unfold keyF
  repeat' split
  all_goals omega
theorem keyF_self (a : KeyV) : keyF a a = 0 := by simp [keyF, cmpF_self]
theorem keyF_eq {a b : KeyV} (h : keyF a b = 0) : a = b := by
  unfold keyF at h
  by_cases h1 : a.t < b.t
  · rw [if_pos h1] at h; omega
  · rw [if_neg h1] at h
    by_cases h2 : b.t < a.t
    · rw [if_pos h2] at h; omega
    · rw [if_neg h2] at h
      by_cases h3 : cmpF a.c b.c = 0
      · rw [if_pos h3] at h
        have e1 : a.t = b.t := by omega
        have e2 := cmpF_eq h3
        have e3 : a.i = b.i := by
          by_cases h4 : a.i < b.i
          · rw [if_pos h4] at h; omega
          · by_cases h5 : b.i < a.i
            · rw [if_neg h4, if_pos h5] at h; omega
            · omega
        cases a; cases b
        simp only at e1 e2 e3
        subst e1 e2 e3
        rfl
      · rw [if_neg h3] at h; exact absurd h h3
theorem keyF_anti (a b : KeyV) : keyF b a = - keyF a b := by
  have h := cmpF_anti a.c b.c
  unfold keyF
  rw [h]
  repeat' split
  all_goals omega
theorem keyF_trans {a b c : KeyV} (h1 : keyF a b ≤ 0) (h2 : keyF b c ≤ 0) : keyF a c ≤ 0 ∧ (keyF a c = 0 → keyF a b = 0 ∧ keyF b c = 0) := by
  have t1 := cmpF_range a.c b.c
  have t2 := cmpF_range b.c c.c
  have t3 := cmpF_range a.c c.c
  have t4 : cmpF a.c b.c ≤ 0 → cmpF b.c c.c ≤ 0 → cmpF a.c c.c ≤ 0 ∧ (cmpF a.c c.c = 0 → cmpF a.c b.c = 0 ∧ cmpF b.c c.c = 0) := cmpF_trans
  have t5 : cmpF a.c b.c = 0 → cmpF a.c c.c = cmpF b.c c.c := fun h => by rw [cmpF_eq h]
  have t6 : cmpF b.c c.c = 0 → cmpF a.c c.c = cmpF a.c b.c := fun h => by rw [cmpF_eq h]
  unfold keyF at h1 h2 ⊢
  generalize cmpF a.c b.c = x at *
  generalize cmpF b.c c.c = y at *
  generalize cmpF a.c c.c = z at *
  by_cases e1 : a.t < b.t
  · have e2 : ¬ c.t < b.t := fun h => by rw [if_neg (by omega), if_pos h] at h2; omega
    rw [if_pos (show a.t < c.t by omega)]
    exact ⟨by omega, fun h => by omega⟩
  · rw [if_neg e1] at h1
    by_cases e2 : b.t < a.t
    · rw [if_pos e2] at h1; omega
    · rw [if_neg e2] at h1
      by_cases e3 : b.t < c.t
      · rw [if_pos (show a.t < c.t by omega)]
        exact ⟨by omega, fun h => by omega⟩
      · rw [if_neg e3] at h2
        by_cases e4 : c.t < b.t
        · rw [if_pos e4] at h2; omega
        · rw [if_neg e4] at h2
          rw [if_neg (show ¬ a.t < c.t by omega), if_neg (show ¬ c.t < a.t by omega), if_neg e1, if_neg e2, if_neg e3, if_neg e4]
          by_cases hx : x = 0
          · by_cases hy : y = 0
            · have hz : z = 0 := by have := t5 hx; omega
              rw [if_pos hx] at h1
              rw [if_pos hy] at h2
              rw [if_pos hz, if_pos hx, if_pos hy]
              by_cases i1 : a.i < b.i
              · by_cases i2 : b.i < c.i
                · rw [if_pos (show a.i < c.i by omega)]; exact ⟨by omega, fun h => by omega⟩
                · by_cases i3 : c.i < b.i
                  · rw [if_neg i2, if_pos i3] at h2; omega
                  · rw [if_pos (show a.i < c.i by omega)]; exact ⟨by omega, fun h => by omega⟩
              · rw [if_neg i1] at h1
                by_cases i2 : b.i < a.i
                · rw [if_pos i2] at h1; omega
                · by_cases i3 : b.i < c.i
                  · rw [if_pos (show a.i < c.i by omega)]; exact ⟨by omega, fun h => by omega⟩
                  · rw [if_neg i3] at h2
                    by_cases i4 : c.i < b.i
                    · rw [if_pos i4] at h2; omega
                    · rw [if_neg (show ¬ a.i < c.i by omega), if_neg (show ¬ c.i < a.i by omega), if_neg i1, if_neg i2, if_neg i3, if_neg i4]
                      exact ⟨by omega, fun _ => ⟨rfl, rfl⟩⟩
            · have hz : z = y := t5 hx
              rw [if_neg hy] at h2
              rw [if_neg (show ¬ z = 0 by omega), if_neg hy]
              exact ⟨by omega, fun h => by omega⟩
          · rw [if_neg hx] at h1
            by_cases hy : y = 0
            · have hz : z = x := t6 hy
              rw [if_neg (show ¬ z = 0 by omega), if_neg hx]
              exact ⟨by omega, fun h => by omega⟩
            · rw [if_neg hy] at h2
              have := t4 h1 h2
              have hz : z ≠ 0 := fun h => hx (this.2 h).1
              rw [if_neg hz, if_neg hx, if_neg hy]
              exact this
/-- Places of keys, in their order: of the same keys the lesser place first. -/
def placeLe (ks : List KeyV) (i j : Nat) : Prop := keyF (ks.getD i ⟨0, [], 0⟩) (ks.getD j ⟨0, [], 0⟩) < 0 ∨ (keyF (ks.getD i ⟨0, [], 0⟩) (ks.getD j ⟨0, [], 0⟩) = 0 ∧ i ≤ j)
theorem places_unique {ks : List KeyV} {l m : List Nat} (hl : l.Pairwise (placeLe ks)) (hm : m.Pairwise (placeLe ks)) (hp : l.Perm m) : l = m :=
  List.Perm.eq_of_pairwise (fun a b _ _ h1 h2 => by
    have h := keyF_anti (ks.getD a ⟨0, [], 0⟩) (ks.getD b ⟨0, [], 0⟩)
    unfold placeLe at h1 h2
    omega) hl hm hp
#print axioms mem_at
#print axioms insert_up
#print axioms keyF_trans
end Go.Proofs.YtjjnbigfdonjlaaDoor
