/-
  Directories as plain lists of names and numbers, in order of names: what a name leads to, an act done, many done. No program is named here.
-/
import Derived.Below
namespace Go.Proofs.Ytmlnmjpohkjgbaa

abbrev Nm := List UInt8
abbrev Dir := List (Nm × Nat)
/-- An act: from a name (none: empty), to a name (none: empty), a file. -/
structure DAct where
  src : Nm
  dst : Nm
  file : Nat

/-- A name that may be. -/
def mayN (s : Nm) : Bool := decide (1 ≤ s.length) && decide (s.length ≤ 80)
theorem may_ne {a : Nm} (h : mayN a = true) : a ≠ [] := by intro e; subst e; exact absurd h (by decide)
theorem may_le {a : Nm} (h : mayN a = true) : a.length ≤ 80 := by unfold mayN at h; simp only [Bool.and_eq_true, decide_eq_true_eq] at h; exact h.2
def look : Dir → Nm → Option Nat
  | [], _ => none
  | (n, f) :: r, s => if n = s then some f else look r s
def without (l : Dir) (s : Nm) : Dir := l.filter fun e => decide (e.1 ≠ s)
def ins : Dir → Nm → Nat → Dir
  | [], s, f => [(s, f)]
  | (n, g) :: r, s, f => if n < s then (n, g) :: ins r s f else (s, f) :: (n, g) :: r
def turnD (l : Dir) (a : DAct) : Dir := if a.dst = [] then without l a.src else ins (without (without l a.src) a.dst) a.dst a.file
def SortedD (l : Dir) : Prop := l.Pairwise fun x y => x.1 < y.1
def names (l : Dir) : List Nm := l.map (·.1)
def ids (l : Dir) : List Nat := l.map (·.2)

theorem look_cons (n : Nm) (f : Nat) (r : Dir) (s : Nm) : look ((n, f) :: r) s = if n = s then some f else look r s := rfl
theorem nm_irrefl (a : Nm) : ¬ a < a := List.lt_irrefl a
theorem nm_trans {a b c : Nm} (h : a < b) (k : b < c) : a < c := List.lt_trans h k
theorem nm_tri {a b : Nm} (h : ¬ a < b) (hne : a ≠ b) : b < a := by
  have h1 : b ≤ a := List.not_lt.1 h
  rcases List.le_iff_lt_or_eq.1 h1 with h2 | h2
  · exact h2
  · exact absurd h2.symm hne

theorem look_none {l : Dir} {s : Nm} : look l s = none ↔ ∀ e ∈ l, e.1 ≠ s := by
  induction l with
  | nil => simp [look]
  | cons e r ih =>
    obtain ⟨n, f⟩ := e
    by_cases h : n = s
    · simp [look, h]
    · simp [look, h, ih]
theorem look_mem {l : Dir} {s : Nm} {f : Nat} (h : look l s = some f) : (s, f) ∈ l := by
  induction l with
  | nil => simp [look] at h
  | cons e r ih =>
    obtain ⟨n, g⟩ := e
    unfold look at h
    split at h
    · rename_i hn; cases h; subst hn; exact List.mem_cons_self
    · exact List.mem_cons_of_mem _ (ih h)
theorem look_of_mem {l : Dir} (hs : SortedD l) {s : Nm} {f : Nat} (h : (s, f) ∈ l) : look l s = some f := by
  induction l with
  | nil => cases h
  | cons e r ih =>
    obtain ⟨n, g⟩ := e
    rcases List.mem_cons.1 h with h1 | h1
    · cases h1; simp [look]
    · have h2 : n < s := (List.pairwise_cons.1 hs).1 _ h1
      have hne : n ≠ s := fun e => by subst e; exact nm_irrefl _ h2
      simp [look, hne, ih (List.pairwise_cons.1 hs).2 h1]
theorem look_without (l : Dir) (s t : Nm) : look (without l s) t = if t = s then none else look l t := by
  induction l with
  | nil => simp [without, look]
  | cons e r ih =>
    obtain ⟨n, f⟩ := e
    unfold without at ih ⊢
    by_cases h : n = s
    · subst h
      rw [List.filter_cons_of_neg (by simp), ih]
      by_cases h2 : t = n
      · simp [h2]
      · rw [if_neg h2, if_neg h2, look_cons, if_neg (fun e => h2 e.symm)]
    · rw [List.filter_cons_of_pos (by simpa using h)]
      unfold look
      by_cases h2 : n = t
      · subst h2; rw [if_pos rfl, if_neg h, if_pos rfl]
      · rw [if_neg h2, if_neg h2, ih]
theorem sorted_without {l : Dir} (h : SortedD l) (s : Nm) : SortedD (without l s) := List.Pairwise.sublist List.filter_sublist h
theorem without_mem {l : Dir} {s : Nm} {e : Nm × Nat} (h : e ∈ without l s) : e ∈ l ∧ e.1 ≠ s := by
  have := List.mem_filter.1 h
  exact ⟨this.1, by simpa using this.2⟩
theorem ins_mem {l : Dir} {s : Nm} {f : Nat} {e : Nm × Nat} : e ∈ ins l s f ↔ e = (s, f) ∨ e ∈ l := by
  induction l with
  | nil => simp [ins]
  | cons x r ih =>
    obtain ⟨n, g⟩ := x
    unfold ins
    split
    · rw [List.mem_cons, ih, List.mem_cons]
      constructor
      · rintro (h | h | h)
        · exact .inr (.inl h)
        · exact .inl h
        · exact .inr (.inr h)
      · rintro (h | h | h)
        · exact .inr (.inl h)
        · exact .inl h
        · exact .inr (.inr h)
    · rw [List.mem_cons]
theorem sorted_ins {l : Dir} (h : SortedD l) {s : Nm} {f : Nat} (hne : ∀ e ∈ l, e.1 ≠ s) : SortedD (ins l s f) := by
  induction l with
  | nil => exact List.pairwise_singleton _ _
  | cons x r ih =>
    obtain ⟨n, g⟩ := x
    have h1 := List.pairwise_cons.1 h
    unfold ins
    split
    · rename_i hlt
      refine List.pairwise_cons.2 ⟨fun e he => ?_, ih h1.2 fun e he => hne e (List.mem_cons_of_mem _ he)⟩
      rcases ins_mem.1 he with rfl | he
      · exact hlt
      · exact h1.1 e he
    · rename_i hlt
      have hsn : s < n := nm_tri hlt (hne _ List.mem_cons_self)
      refine List.pairwise_cons.2 ⟨fun e he => ?_, h⟩
      rcases List.mem_cons.1 he with rfl | he
      · exact hsn
      · exact nm_trans hsn (h1.1 e he)
theorem look_ins {l : Dir} {s : Nm} {f : Nat} (hne : ∀ e ∈ l, e.1 ≠ s) (t : Nm) : look (ins l s f) t = if t = s then some f else look l t := by
  induction l with
  | nil =>
    show look [(s, f)] t = _
    rw [look_cons]
    by_cases h : s = t
    · subst h; simp
    · rw [if_neg h, if_neg (fun e => h e.symm)]
  | cons x r ih =>
    obtain ⟨n, g⟩ := x
    have hn : n ≠ s := hne _ List.mem_cons_self
    have ih := ih fun e he => hne e (List.mem_cons_of_mem _ he)
    unfold ins
    split
    · unfold look
      by_cases h : n = t
      · subst h; rw [if_pos rfl, if_neg hn, if_pos rfl]
      · rw [if_neg h, if_neg h, ih]
    · by_cases h : s = t
      · subst h; simp [look]
      · rw [if_neg (fun e => h e.symm)]
        show (if s = t then _ else _) = _
        rw [if_neg h]
theorem without_ne (l : Dir) (s : Nm) : ∀ e ∈ without l s, e.1 ≠ s := fun _ he => (without_mem he).2
theorem look_turn (l : Dir) (a : DAct) (t : Nm) : look (turnD l a) t = if a.dst ≠ [] ∧ t = a.dst then some a.file else if t = a.src then none else look l t := by
  unfold turnD
  by_cases h : a.dst = []
  · rw [if_pos h, look_without, if_neg (c := a.dst ≠ [] ∧ t = a.dst) (fun e => e.1 h)]
  · rw [if_neg h, look_ins (without_ne _ _), look_without, look_without]
    by_cases h2 : t = a.dst
    · rw [if_pos h2, if_pos ⟨h, h2⟩]
    · rw [if_neg h2, if_neg h2, if_neg (c := a.dst ≠ [] ∧ t = a.dst) (fun e => h2 e.2)]
theorem sorted_turn {l : Dir} (h : SortedD l) (a : DAct) : SortedD (turnD l a) := by
  unfold turnD
  split
  · exact sorted_without h _
  · exact sorted_ins (sorted_without (sorted_without h _) _) (without_ne _ _)
theorem ins_length (l : Dir) (s : Nm) (f : Nat) : (ins l s f).length = l.length + 1 := by
  induction l with
  | nil => rfl
  | cons x r ih => obtain ⟨n, g⟩ := x; unfold ins; split <;> simp [ih]
theorem without_length (l : Dir) (s : Nm) : (without l s).length ≤ l.length := List.length_filter_le _ _
theorem turn_length (l : Dir) (a : DAct) : (turnD l a).length ≤ l.length + 1 := by
  unfold turnD
  split
  · have := without_length l a.src; omega
  · rw [ins_length]; have := without_length (without l a.src) a.dst; have := without_length l a.src; omega
theorem turn_mem {l : Dir} {a : DAct} {e : Nm × Nat} (h : e ∈ turnD l a) : (e = (a.dst, a.file) ∧ a.dst ≠ []) ∨ (e ∈ l ∧ e.1 ≠ a.src) := by
  unfold turnD at h
  split at h
  · have := without_mem h; exact .inr this
  · rename_i hd
    rcases ins_mem.1 h with h | h
    · exact .inl ⟨h, hd⟩
    · exact .inr (without_mem (without_mem h).1)

/-- An act that may be done to a directory: no file stands twice behind it. -/
def MayD (l : Dir) (a : DAct) : Prop := (a.dst = [] ∨ mayN a.dst = true) ∧ ((a.src = [] ∧ a.dst ≠ [] ∧ a.file ∉ ids l) ∨ (a.src ≠ [] ∧ look l a.src = some a.file))
structure GoodD (l : Dir) : Prop where
  sorted : SortedD l
  once : (ids l).Nodup
  named : ∀ e ∈ l, mayN e.1 = true
theorem GoodD.nil : GoodD [] := ⟨List.Pairwise.nil, List.nodup_nil, fun _ h => by cases h⟩
theorem ids_ins (l : Dir) (s : Nm) (f : Nat) : (ids (ins l s f)).Perm (f :: ids l) := by
  induction l with
  | nil => exact List.Perm.refl _
  | cons x r ih =>
    obtain ⟨n, g⟩ := x
    unfold ins
    split
    · exact (List.Perm.cons g ih).trans (List.Perm.swap _ _ _)
    · exact List.Perm.refl _
theorem once_look {l : Dir} (h : (ids l).Nodup) {s t : Nm} {f : Nat} (hs : (s, f) ∈ l) (ht : (t, f) ∈ l) : s = t := by
  induction l with
  | nil => cases hs
  | cons x r ih =>
    obtain ⟨n, g⟩ := x
    have h1 : g ∉ ids r ∧ (ids r).Nodup := List.nodup_cons.1 h
    have hin : ∀ {u : Nm}, (u, g) ∈ r → g ∈ ids r := fun hu => List.mem_map.2 ⟨_, hu, rfl⟩
    rcases List.mem_cons.1 hs with e | hs1 <;> rcases List.mem_cons.1 ht with e' | ht1
    · cases e; cases e'; rfl
    · cases e; exact absurd (hin ht1) h1.1
    · cases e'; exact absurd (hin hs1) h1.1
    · exact ih h1.2 hs1 ht1
theorem once_filter {l : Dir} (h : (ids l).Nodup) (p : Nm × Nat → Bool) : (ids (l.filter p)).Nodup := List.Nodup.sublist (List.Sublist.map _ List.filter_sublist) h
theorem GoodD.turn {l : Dir} (h : GoodD l) {a : DAct} (ha : MayD l a) : GoodD (turnD l a) := by
  refine ⟨sorted_turn h.sorted a, ?_, fun e he => ?_⟩
  · unfold turnD
    split
    · exact once_filter h.once _
    · refine (ids_ins _ _ _).nodup_iff.2 (List.nodup_cons.2 ⟨fun hin => ?_, once_filter (once_filter h.once _) _⟩)
      obtain ⟨e, he, hf⟩ := List.mem_map.1 hin
      obtain ⟨he1, hne1⟩ := without_mem he
      obtain ⟨he2, hne2⟩ := without_mem he1
      rcases ha.2 with ⟨_, _, h3⟩ | ⟨h2, h3⟩
      · exact h3 (List.mem_map.2 ⟨e, he2, hf⟩)
      · have h4 := look_mem h3
        obtain ⟨n, g⟩ := e
        simp only at hf
        subst hf
        exact hne2 (once_look h.once he2 h4)
  · rcases turn_mem he with ⟨rfl, hd⟩ | ⟨h1, _⟩
    · exact ha.1.resolve_left hd
    · exact h.named e h1

/-- Acts done one behind the other, each one that may be. -/
inductive Runs : Dir → List DAct → Dir → Prop
  | nil (d : Dir) : Runs d [] d
  | cons {d e : Dir} {a : DAct} {as : List DAct} : MayD d a → Runs (turnD d a) as e → Runs d (a :: as) e
theorem Runs.good {d e : Dir} {as : List DAct} (h : Runs d as e) (hd : GoodD d) : GoodD e := by
  induction h with
  | nil => exact hd
  | cons ha _ ih => exact ih (hd.turn ha)
theorem Runs.snoc {d e : Dir} {as : List DAct} (h : Runs d as e) {a : DAct} (ha : MayD e a) : Runs d (as ++ [a]) (turnD e a) := by
  induction h with
  | nil => exact .cons ha (.nil _)
  | cons hb _ ih => exact .cons hb (ih ha)
theorem Runs.fold {d e : Dir} {as : List DAct} (h : Runs d as e) : as.foldl turnD d = e := by
  induction h with
  | nil => rfl
  | cons _ _ ih => exact ih
theorem Runs.ahead {d e : Dir} {as : List DAct} (h : Runs d as e) (n : Nat) : Runs d (as.take n) ((as.take n).foldl turnD d) := by
  induction h generalizing n with
  | nil => rw [List.take_nil]; exact .nil _
  | cons ha _ ih =>
    cases n with
    | zero => exact .nil _
    | succ n => exact .cons ha (ih n)
theorem Runs.step {d e : Dir} {as : List DAct} (h : Runs d as e) {i : Nat} (hi : i < as.length) : MayD ((as.take i).foldl turnD d) (as[i]) := by
  induction h generalizing i with
  | nil => simp at hi
  | cons ha _ ih =>
    cases i with
    | zero => exact ha
    | succ i => exact ih (by simpa using hi)
theorem take_fold_succ {as : List DAct} {i : Nat} (hi : i < as.length) (d : Dir) : (as.take (i + 1)).foldl turnD d = turnD ((as.take i).foldl turnD d) as[i] := by
  rw [List.take_succ_eq_append_getElem hi, List.foldl_append]; rfl
theorem fold_length (as : List DAct) (d : Dir) : (as.foldl turnD d).length ≤ d.length + as.length := by
  induction as generalizing d with
  | nil => simp
  | cons a as ih => have := ih (turnD d a); have := turn_length d a; simp only [List.foldl_cons, List.length_cons]; omega
/-- Which files a directory can have behind acts. -/
theorem fold_ids {as : List DAct} {d : Dir} {e : Nm × Nat} (h : e ∈ as.foldl turnD d) : e ∈ d ∨ ∃ a ∈ as, e = (a.dst, a.file) := by
  induction as generalizing d with
  | nil => exact .inl h
  | cons a as ih =>
    rcases ih h with h | ⟨b, hb, h⟩
    · rcases turn_mem h with ⟨h, _⟩ | ⟨h, _⟩
      · exact .inr ⟨a, List.mem_cons_self, h⟩
      · exact .inl h
    · exact .inr ⟨b, List.mem_cons_of_mem _ hb, h⟩
/-- Names in order are those names. -/
theorem names_sorted {l : Dir} (h : SortedD l) : (names l).Pairwise (· < ·) := List.pairwise_map.2 h
theorem names_nodup {l : Dir} (h : SortedD l) : (names l).Nodup := (names_sorted h).imp fun {a b} hab e => by subst e; exact nm_irrefl _ hab
theorem names_mem {l : Dir} {s : Nm} : s ∈ names l ↔ look l s ≠ none := by
  rw [Ne, look_none]
  constructor
  · intro h
    obtain ⟨e, he, rfl⟩ := List.mem_map.1 h
    exact fun h => h e he rfl
  · intro h
    refine Classical.byContradiction fun hn => h fun e he hee => hn (List.mem_map.2 ⟨e, he, hee⟩)
#print axioms GoodD.turn
end Go.Proofs.Ytmlnmjpohkjgbaa
