/-
  Merged: DirMath, DiskMath, DiskMath2.
-/
import Derived.Below
namespace Go.Proofs.Ytemphljkfpkgmaa

abbrev Nm := List UInt8
abbrev Dir := List (Nm × Nat)
/-- An act: from a name (none: empty), to a name (none: empty), a file. -/
structure DAct where
  src : Nm
  dst : Nm
  file : Nat

/-- A name that may be. -/
def mayN (s : Nm) : Bool := decide (1 ≤ s.length) && decide (s.length ≤ 80)
theorem may_ne {a : Nm} (h : mayN a = true) : a ≠ [] := by intro e; subst e; exact absurd h (by decide)
theorem may_le {a : Nm} (h : mayN a = true) : a.length ≤ 80 := by unfold mayN at h; simp only [Bool.and_eq_true, decide_eq_true_eq] at h; exact h.2
def look : Dir → Nm → Option Nat
  | [], _ => none
  | (n, f) :: r, s => if n = s then some f else look r s
def without (l : Dir) (s : Nm) : Dir := l.filter fun e => decide (e.1 ≠ s)
def ins : Dir → Nm → Nat → Dir
  | [], s, f => [(s, f)]
  | (n, g) :: r, s, f => if n < s then (n, g) :: ins r s f else (s, f) :: (n, g) :: r
def turnD (l : Dir) (a : DAct) : Dir := if a.dst = [] then without l a.src else ins (without (without l a.src) a.dst) a.dst a.file
def SortedD (l : Dir) : Prop := l.Pairwise fun x y => x.1 < y.1
def names (l : Dir) : List Nm := l.map (·.1)
def ids (l : Dir) : List Nat := l.map (·.2)

theorem look_cons (n : Nm) (f : Nat) (r : Dir) (s : Nm) : look ((n, f) :: r) s = if n = s then some f else look r s := rfl
theorem nm_irrefl (a : Nm) : ¬ a < a := List.lt_irrefl a
theorem nm_trans {a b c : Nm} (h : a < b) (k : b < c) : a < c := List.lt_trans h k
theorem nm_tri {a b : Nm} (h : ¬ a < b) (hne : a ≠ b) : b < a := by
  have h1 : b ≤ a := List.not_lt.1 h
  rcases List.le_iff_lt_or_eq.1 h1 with h2 | h2
  · exact h2
  · exact absurd h2.symm hne

theorem look_none {l : Dir} {s : Nm} : look l s = none ↔ ∀ e ∈ l, e.1 ≠ s := by
  induction l with
  | nil => simp [look]
  | cons e r ih =>
    obtain ⟨n, f⟩ := e
    by_cases h : n = s
    · simp [look, h]
    · simp [look, h, ih]
theorem look_mem {l : Dir} {s : Nm} {f : Nat} (h : look l s = some f) : (s, f) ∈ l := by
  induction l with
  | nil => simp [look] at h
  | cons e r ih =>
    obtain ⟨n, g⟩ := e
    unfold look at h
    split at h
    · rename_i hn; cases h; subst hn; exact List.mem_cons_self
    · exact List.mem_cons_of_mem _ (ih h)
theorem look_of_mem {l : Dir} (hs : SortedD l) {s : Nm} {f : Nat} (h : (s, f) ∈ l) : look l s = some f := by
  induction l with
  | nil => cases h
  | cons e r ih =>
    obtain ⟨n, g⟩ := e
    rcases List.mem_cons.1 h with h1 | h1
    · cases h1; simp [look]
    · have h2 : n < s := (List.pairwise_cons.1 hs).1 _ h1
      have hne : n ≠ s := fun e => by subst e; exact nm_irrefl _ h2
      simp [look, hne, ih (List.pairwise_cons.1 hs).2 h1]
theorem look_without (l : Dir) (s t : Nm) : look (without l s) t = if t = s then none else look l t := by
  induction l with
  | nil => simp [without, look]
  | cons e r ih =>
    obtain ⟨n, f⟩ := e
    unfold without at ih ⊢
    by_cases h : n = s
    · subst h
      rw [List.filter_cons_of_neg (by simp), ih]
      by_cases h2 : t = n
      · simp [h2]
      · rw [if_neg h2, if_neg h2, look_cons, if_neg (fun e => h2 e.symm)]
    · rw [List.filter_cons_of_pos (by simpa using h)]
      unfold look
      by_cases h2 : n = t
      · subst h2; rw [if_pos rfl, if_neg h, if_pos rfl]
      · rw [if_neg h2, if_neg h2, ih]
theorem sorted_without {l : Dir} (h : SortedD l) (s : Nm) : SortedD (without l s) := List.Pairwise.sublist List.filter_sublist h
theorem without_mem {l : Dir} {s : Nm} {e : Nm × Nat} (h : e ∈ without l s) : e ∈ l ∧ e.1 ≠ s := by
  have := List.mem_filter.1 h
  exact ⟨this.1, by simpa using this.2⟩
theorem ins_mem {l : Dir} {s : Nm} {f : Nat} {e : Nm × Nat} : e ∈ ins l s f ↔ e = (s, f) ∨ e ∈ l := by
  induction l with
  | nil => simp [ins]
  | cons x r ih =>
    obtain ⟨n, g⟩ := x
    unfold ins
    split
    · rw [List.mem_cons, ih, List.mem_cons]
      constructor
      · rintro (h | h | h)
        · exact .inr (.inl h)
        · exact .inl h
        · exact .inr (.inr h)
      · rintro (h | h | h)
        · exact .inr (.inl h)
        · exact .inl h
        · exact .inr (.inr h)
    · rw [List.mem_cons]
theorem sorted_ins {l : Dir} (h : SortedD l) {s : Nm} {f : Nat} (hne : ∀ e ∈ l, e.1 ≠ s) : SortedD (ins l s f) := by
  induction l with
  | nil => exact List.pairwise_singleton _ _
  | cons x r ih =>
    obtain ⟨n, g⟩ := x
    have h1 := List.pairwise_cons.1 h
    unfold ins
    split
    · rename_i hlt
      refine List.pairwise_cons.2 ⟨fun e he => ?_, ih h1.2 fun e he => hne e (List.mem_cons_of_mem _ he)⟩
      rcases ins_mem.1 he with rfl | he
      · exact hlt
      · exact h1.1 e he
    · rename_i hlt
      have hsn : s < n := nm_tri hlt (hne _ List.mem_cons_self)
      refine List.pairwise_cons.2 ⟨fun e he => ?_, h⟩
      rcases List.mem_cons.1 he with rfl | he
      · exact hsn
      · exact nm_trans hsn (h1.1 e he)
theorem look_ins {l : Dir} {s : Nm} {f : Nat} (hne : ∀ e ∈ l, e.1 ≠ s) (t : Nm) : look (ins l s f) t = if t = s then some f else look l t := by
  induction l with
  | nil =>
    show look [(s, f)] t = _
    rw [look_cons]
    by_cases h : s = t
    · subst h; simp
    · rw [if_neg h, if_neg (fun e => h e.symm)]
  | cons x r ih =>
    obtain ⟨n, g⟩ := x
    have hn : n ≠ s := hne _ List.mem_cons_self
    have ih := ih fun e he => hne e (List.mem_cons_of_mem _ he)
    unfold ins
    split
    · unfold look
      by_cases h : n = t
      · subst h; rw [if_pos rfl, if_neg hn, if_pos rfl]
      · rw [if_neg h, if_neg h, ih]
    · by_cases h : s = t
      · subst h; simp [look]
      · rw [if_neg (fun e => h e.symm)]
        show (if s = t then _ else _) = _
        rw [if_neg h]
theorem without_ne (l : Dir) (s : Nm) : ∀ e ∈ without l s, e.1 ≠ s := fun _ he => (without_mem he).2
theorem look_turn (l : Dir) (a : DAct) (t : Nm) : look (turnD l a) t = if a.dst ≠ [] ∧ t = a.dst then some a.file else if t = a.src then none else look l t := by
  unfold turnD
  by_cases h : a.dst = []
  · rw [if_pos h, look_without, if_neg (c := a.dst ≠ [] ∧ t = a.dst) (fun e => e.1 h)]
  · rw [if_neg h, look_ins (without_ne _ _), look_without, look_without]
    by_cases h2 : t = a.dst
    · rw [if_pos h2, if_pos ⟨h, h2⟩]
    · rw [if_neg h2, if_neg h2, if_neg (c := a.dst ≠ [] ∧ t = a.dst) (fun e => h2 e.2)]
theorem sorted_turn {l : Dir} (h : SortedD l) (a : DAct) : SortedD (turnD l a) := by
  unfold turnD
  split
  · exact sorted_without h _
  · exact sorted_ins (sorted_without (sorted_without h _) _) (without_ne _ _)
theorem ins_length (l : Dir) (s : Nm) (f : Nat) : (ins l s f).length = l.length + 1 := by
  induction l with
  | nil => rfl
  | cons x r ih => obtain ⟨n, g⟩ := x; unfold ins; split <;> simp [ih]
theorem without_length (l : Dir) (s : Nm) : (without l s).length ≤ l.length := List.length_filter_le _ _
theorem turn_length (l : Dir) (a : DAct) : (turnD l a).length ≤ l.length + 1 := by
  unfold turnD
  split
  · have := without_length l a.src; omega
  · rw [ins_length]; have := without_length (without l a.src) a.dst; have := without_length l a.src; omega
theorem turn_mem {l : Dir} {a : DAct} {e : Nm × Nat} (h : e ∈ turnD l a) : (e = (a.dst, a.file) ∧ a.dst ≠ []) ∨ (e ∈ l ∧ e.1 ≠ a.src) := by
  unfold turnD at h
  split at h
  · have := without_mem h; exact .inr this
  · rename_i hd
    rcases ins_mem.1 h with h | h
    · exact .inl ⟨h, hd⟩
    · exact .inr (without_mem (without_mem h).1)

/-- An act that may be done to a directory: no file stands twice behind it. -/
def MayD (l : Dir) (a : DAct) : Prop := (a.dst = [] ∨ mayN a.dst = true) ∧ ((a.src = [] ∧ a.dst ≠ [] ∧ a.file ∉ ids l) ∨ (a.src ≠ [] ∧ look l a.src = some a.file))
structure GoodD (l : Dir) : Prop where
  sorted : SortedD l
  once : (ids l).Nodup
  named : ∀ e ∈ l, mayN e.1 = true
theorem GoodD.nil : GoodD [] := ⟨List.Pairwise.nil, List.nodup_nil, fun _ h => by cases h⟩
theorem ids_ins (l : Dir) (s : Nm) (f : Nat) : (ids (ins l s f)).Perm (f :: ids l) := by
  induction l with
  | nil => exact List.Perm.refl _
  | cons x r ih =>
    obtain ⟨n, g⟩ := x
    unfold ins
    split
    · exact (List.Perm.cons g ih).trans (List.Perm.swap _ _ _)
    · exact List.Perm.refl _
theorem once_look {l : Dir} (h : (ids l).Nodup) {s t : Nm} {f : Nat} (hs : (s, f) ∈ l) (ht : (t, f) ∈ l) : s = t := by
  induction l with
  | nil => cases hs
  | cons x r ih =>
    obtain ⟨n, g⟩ := x
    have h1 : g ∉ ids r ∧ (ids r).Nodup := List.nodup_cons.1 h
    have hin : ∀ {u : Nm}, (u, g) ∈ r → g ∈ ids r := fun hu => List.mem_map.2 ⟨_, hu, rfl⟩
    rcases List.mem_cons.1 hs with e | hs1 <;> rcases List.mem_cons.1 ht with e' | ht1
    · cases e; cases e'; rfl
    · cases e; exact absurd (hin ht1) h1.1
    · cases e'; exact absurd (hin hs1) h1.1
    · exact ih h1.2 hs1 ht1
theorem once_filter {l : Dir} (h : (ids l).Nodup) (p : Nm × Nat → Bool) : (ids (l.filter p)).Nodup := List.Nodup.sublist (List.Sublist.map _ List.filter_sublist) h
theorem GoodD.turn {l : Dir} (h : GoodD l) {a : DAct} (ha : MayD l a) : GoodD (turnD l a) := by
  refine ⟨sorted_turn h.sorted a, ?_, fun e he => ?_⟩
  · unfold turnD
    split
    · exact once_filter h.once _
    · refine (ids_ins _ _ _).nodup_iff.2 (List.nodup_cons.2 ⟨fun hin => ?_, once_filter (once_filter h.once _) _⟩)
      obtain ⟨e, he, hf⟩ := List.mem_map.1 hin
      obtain ⟨he1, hne1⟩ := without_mem he
      obtain ⟨he2, hne2⟩ := without_mem he1
      rcases ha.2 with ⟨_, _, h3⟩ | ⟨h2, h3⟩
      · exact h3 (List.mem_map.2 ⟨e, he2, hf⟩)
      · have h4 := look_mem h3
        obtain ⟨n, g⟩ := e
        simp only at hf
        subst hf
        exact hne2 (once_look h.once he2 h4)
  · rcases turn_mem he with ⟨rfl, hd⟩ | ⟨h1, _⟩
    · exact ha.1.resolve_left hd
    · exact h.named e h1

/-- Acts done one behind the other, each one that may be. -/
inductive Runs : Dir → List DAct → Dir → Prop
  | nil (d : Dir) : Runs d [] d
  | cons {d e : Dir} {a : DAct} {as : List DAct} : MayD d a → Runs (turnD d a) as e → Runs d (a :: as) e
theorem Runs.good {d e : Dir} {as : List DAct} (h : Runs d as e) (hd : GoodD d) : GoodD e := by
  induction h with
  | nil => exact hd
  | cons ha _ ih => exact ih (hd.turn ha)
theorem Runs.snoc {d e : Dir} {as : List DAct} (h : Runs d as e) {a : DAct} (ha : MayD e a) : Runs d (as ++ [a]) (turnD e a) := by
  induction h with
  | nil => exact .cons ha (.nil _)
  | cons hb _ ih => exact .cons hb (ih ha)
theorem Runs.fold {d e : Dir} {as : List DAct} (h : Runs d as e) : as.foldl turnD d = e := by
  induction h with
  | nil => rfl
  | cons _ _ ih => exact ih
theorem Runs.ahead {d e : Dir} {as : List DAct} (h : Runs d as e) (n : Nat) : Runs d (as.take n) ((as.take n).foldl turnD d) := by
  induction h generalizing n with
  | nil => rw [List.take_nil]; exact .nil _
  | cons ha _ ih =>
    cases n with
    | zero => exact .nil _
    | succ n => exact .cons ha (ih n)
theorem Runs.step {d e : Dir} {as : List DAct} (h : Runs d as e) {i : Nat} (hi : i < as.length) : MayD ((as.take i).foldl turnD d) (as[i]) := by
  induction h generalizing i with
  | nil => simp at hi
  | cons ha _ ih =>
    cases i with
    | zero => exact ha
    | succ i => exact ih (by simpa using hi)
theorem take_fold_succ {as : List DAct} {i : Nat} (hi : i < as.length) (d : Dir) : (as.take (i + 1)).foldl turnD d = turnD ((as.take i).foldl turnD d) as[i] := by
  rw [List.take_succ_eq_append_getElem hi, List.foldl_append]; rfl
theorem fold_length (as : List DAct) (d : Dir) : (as.foldl turnD d).length ≤ d.length + as.length := by
  induction as generalizing d with
  | nil => simp
  | cons a as ih => have := ih (turnD d a); have := turn_length d a; simp only [List.foldl_cons, List.length_cons]; omega
/-- Which files a directory can have behind acts. -/
theorem fold_ids {as : List DAct} {d : Dir} {e : Nm × Nat} (h : e ∈ as.foldl turnD d) : e ∈ d ∨ ∃ a ∈ as, e = (a.dst, a.file) := by
  induction as generalizing d with
  | nil => exact .inl h
  | cons a as ih =>
    rcases ih h with h | ⟨b, hb, h⟩
    · rcases turn_mem h with ⟨h, _⟩ | ⟨h, _⟩
      · exact .inr ⟨a, List.mem_cons_self, h⟩
      · exact .inl h
    · exact .inr ⟨b, List.mem_cons_of_mem _ hb, h⟩
/-- Names in order are those names. -/
theorem names_sorted {l : Dir} (h : SortedD l) : (names l).Pairwise (· < ·) := List.pairwise_map.2 h
theorem names_nodup {l : Dir} (h : SortedD l) : (names l).Nodup := (names_sorted h).imp fun {a b} hab e => by subst e; exact nm_irrefl _ hab
theorem names_mem {l : Dir} {s : Nm} : s ∈ names l ↔ look l s ≠ none := by
  rw [Ne, look_none]
  constructor
  · intro h
    obtain ⟨e, he, rfl⟩ := List.mem_map.1 h
    exact fun h => h e he rfl
  · intro h
    refine Classical.byContradiction fun hn => h fun e he hee => hn (List.mem_map.2 ⟨e, he, hee⟩)
#print axioms GoodD.turn
end Go.Proofs.Ytemphljkfpkgmaa

namespace Go.Proofs.Ytemphljkfpkgmaa

abbrev FileD := List UInt8 × Nat
structure DS where
  quota : Nat
  files : List FileD
  now : Dir
  kept : Dir
  acts : List DAct
  refused : Nat
  arm : Nat
  down : Bool

def newS (q : Nat) : DS := ⟨q, [], [], [], [], 0, 0, false⟩
def fileAt (S : DS) (k : Nat) : FileD := S.files.getD k ([], 0)
def usedOf (fs : List FileD) (l : Dir) : Nat := (l.map fun e => (fs.getD e.2 ([], 0)).1.length).sum
def usedS (S : DS) : Nat := usedOf S.files S.now
def readyS (S : DS) (a b : Nm) : Nat := if S.down then 9 else if mayN a && mayN b then 0 else 10
def armF (S : DS) : Bool := decide (S.arm = 1)
def armS (S : DS) : DS := { S with arm := S.arm - 1, down := decide (S.arm = 1) }
def newAct (S : DS) (s : Nm) : DAct := ⟨[], s, S.files.length⟩
def putS (S : DS) (s : Nm) (b : List UInt8) : DS :=
  match look S.now s with
  | some k => { S with files := S.files.modify k fun x => (x.1 ++ b, x.2) }
  | none => { S with files := S.files ++ [(b, 0)], now := turnD S.now (newAct S s), acts := S.acts ++ [newAct S s] }
def appendS (S : DS) (s : Nm) (b : List UInt8) : DS × Nat :=
  if readyS S s s ≠ 0 then (S, readyS S s s)
  else if S.quota < usedS S + b.length then ({ S with refused := S.refused + 1 }, 8)
  else if armF S then (armS S, 9) else (putS (armS S) s b, 0)
def keepS (S : DS) (k : Nat) : DS := { S with files := S.files.modify k fun x => (x.1, x.1.length), kept := S.now, acts := [] }
def syncS (S : DS) (s : Nm) : DS × Nat :=
  if readyS S s s ≠ 0 then (S, readyS S s s)
  else match look S.now s with
    | none => (S, 4)
    | some k => if armF S then (armS S, 9) else (keepS (armS S) k, 0)
def doneS (S : DS) (a : DAct) : DS := { S with now := turnD S.now a, acts := S.acts ++ [a] }
/-- A name goes to another one; 'o': the other name that is asked for, 't': where it goes. -/
def turnS (S : DS) (s o t : Nm) : DS × Nat :=
  if readyS S s o ≠ 0 then (S, readyS S s o)
  else match look S.now s with
    | none => (S, 4)
    | some k => if armF S then (armS S, 9) else (doneS (armS S) ⟨s, t, k⟩, 0)
def readS (S : DS) (s : Nm) : List UInt8 × Nat :=
  if readyS S s s ≠ 0 then ([], readyS S s s)
  else match look S.now s with
    | none => ([], 4)
    | some k => ((fileAt S k).1, 0)
def listS (S : DS) : List Nm := if S.down then [] else names S.now
def usedT (S : DS) : Nat := if S.down then 0 else usedS S
def setArm (S : DS) (n : Int) : DS := { S with arm := n.toNat }
def fateF (fs : List Int) (i c : Nat) : Nat := match fs[i]? with | none => 0 | some x => (x % (c : Int)).toNat
def leftS (S : DS) (fs : List Int) : Dir := (S.acts.take (fateF fs 0 (S.acts.length + 1))).foldl turnD S.kept
def cutN (x : FileD) (fs : List Int) (i : Nat) : Nat := x.2 + fateF fs (i + 1) (x.1.length - x.2 + 1)
def cutF (x : FileD) (fs : List Int) (i : Nat) : FileD := (x.1.take (cutN x fs i), cutN x fs i)
def leftFiles (files : List FileD) (l : Dir) (fs : List Int) : List FileD := l.mapIdx fun i e => cutF (files.getD e.2 ([], 0)) fs i
def leftNow (l : Dir) : Dir := l.mapIdx fun i e => (e.1, i)
def crashS (S : DS) (fs : List Int) : DS :=
  ⟨S.quota, leftFiles S.files (leftS S fs) fs, leftNow (leftS S fs), leftNow (leftS S fs), [], S.refused, 0, false⟩

/-- What is so of every disk. -/
structure Inv (S : DS) : Prop where
  good : GoodD S.kept
  runs : Runs S.kept S.acts S.now
  kids : ∀ e ∈ S.kept, e.2 < S.files.length
  aids : ∀ a ∈ S.acts, a.file < S.files.length
  syn : ∀ x ∈ S.files, x.2 ≤ x.1.length ∧ x.1.length ≤ S.quota
  most : S.quota ≤ 1073741824
/-- It is small. -/
structure Few (S : DS) (k : Nat) : Prop where
  dirs : S.kept.length + S.acts.length ≤ k
  files : S.files.length ≤ k
  refused : S.refused ≤ k
theorem Few.mono {S : DS} {k m : Nat} (h : Few S k) (hk : k ≤ m) : Few S m := ⟨Nat.le_trans h.dirs hk, Nat.le_trans h.files hk, Nat.le_trans h.refused hk⟩
theorem Inv.now {S : DS} (h : Inv S) : GoodD S.now := h.runs.good h.good
theorem Inv.nowLe {S : DS} (h : Inv S) {k : Nat} (hf : S.kept.length + S.acts.length ≤ k) : S.now.length ≤ k := by
  have := fold_length S.acts S.kept
  rw [h.runs.fold] at this
  omega
theorem Inv.nowLen {S : DS} (h : Inv S) {k : Nat} (hf : Few S k) : S.now.length ≤ k := by
  have := fold_length S.acts S.kept
  rw [h.runs.fold] at this
  have := hf.dirs
  omega
theorem Inv.nids {S : DS} (h : Inv S) : ∀ e ∈ S.now, e.2 < S.files.length := by
  intro e he
  rw [← h.runs.fold] at he
  rcases fold_ids he with h1 | ⟨a, ha, rfl⟩
  · exact h.kids e h1
  · exact h.aids a ha
theorem Inv.lids {S : DS} (h : Inv S) (fs : List Int) : ∀ e ∈ leftS S fs, e.2 < S.files.length := by
  intro e he
  rcases fold_ids he with h1 | ⟨a, ha, rfl⟩
  · exact h.kids e h1
  · exact h.aids a (List.mem_of_mem_take ha)
theorem Inv.lgood {S : DS} (h : Inv S) (fs : List Int) : GoodD (leftS S fs) := (h.runs.ahead _).good h.good
theorem leftLen {S : DS} (fs : List Int) {k : Nat} (hf : Few S k) : (leftS S fs).length ≤ k := by
  have := fold_length (S.acts.take (fateF fs 0 (S.acts.length + 1))) S.kept
  have h2 : (S.acts.take (fateF fs 0 (S.acts.length + 1))).length ≤ S.acts.length := by rw [List.length_take]; omega
  have := hf.dirs
  unfold leftS
  omega
theorem inv_new {q : Nat} (h : q ≤ 1073741824) : Inv (newS q) := ⟨GoodD.nil, .nil _, fun _ h => (by cases h), fun _ h => (by cases h), fun _ h => (by cases h), h⟩
theorem few_new (q : Nat) : Few (newS q) 0 := ⟨Nat.le_refl _, Nat.le_refl _, Nat.le_refl _⟩
theorem inv_arm {S : DS} (h : Inv S) : Inv (armS S) := ⟨h.good, h.runs, h.kids, h.aids, h.syn, h.most⟩
theorem inv_setArm {S : DS} (h : Inv S) (n : Int) : Inv (setArm S n) := ⟨h.good, h.runs, h.kids, h.aids, h.syn, h.most⟩
theorem few_arm {S : DS} {k : Nat} (h : Few S k) : Few (armS S) k := ⟨h.dirs, h.files, h.refused⟩
theorem few_setArm {S : DS} {k : Nat} (h : Few S k) (n : Int) : Few (setArm S n) k := ⟨h.dirs, h.files, h.refused⟩
theorem inv_refused {S : DS} (h : Inv S) : Inv { S with refused := S.refused + 1 } := ⟨h.good, h.runs, h.kids, h.aids, h.syn, h.most⟩
theorem few_refused {S : DS} {k : Nat} (h : Few S k) : Few { S with refused := S.refused + 1 } (k + 1) := ⟨Nat.le_succ_of_le h.dirs, Nat.le_succ_of_le h.files, Nat.succ_le_succ h.refused⟩

theorem len_le_used {fs : List FileD} {l : Dir} {e : Nm × Nat} (h : e ∈ l) : (fs.getD e.2 ([], 0)).1.length ≤ usedOf fs l := by
  unfold usedOf
  induction l with
  | nil => cases h
  | cons x r ih =>
    rw [List.map_cons, List.sum_cons]
    rcases List.mem_cons.1 h with rfl | h
    · omega
    · have := ih h; omega
theorem inv_put {S : DS} (h : Inv S) {s : Nm} {b : List UInt8} (hs : mayN s = true) (hq : usedS S + b.length ≤ S.quota) : Inv (putS S s b) := by
  unfold putS
  split
  · rename_i k hk
    refine ⟨h.good, h.runs, fun e he => ?_, fun a ha => ?_, fun x hx => ?_, h.most⟩
    · simpa using h.kids e he
    · simpa using h.aids a ha
    · obtain ⟨i, hi, rfl⟩ := List.mem_iff_getElem.1 hx
      rw [List.getElem_modify]
      simp only [List.length_modify] at hi
      have h1 := h.syn _ (List.getElem_mem hi)
      split
      · rename_i hik
        subst hik
        have h2 := len_le_used (fs := S.files) (look_mem hk)
        simp only [List.getD_eq_getElem?_getD, List.getElem?_eq_getElem hi, Option.getD_some] at h2
        unfold usedS at hq
        simp only [List.length_append]
        omega
      · exact h1
  · rename_i hk
    have hn : S.files.length ∉ ids S.now := fun hin => by
      obtain ⟨e, he, hf⟩ := List.mem_map.1 hin
      have := h.nids e he
      omega
    refine ⟨h.good, h.runs.snoc ⟨.inr hs, .inl ⟨rfl, may_ne hs, hn⟩⟩, fun e he => ?_, fun a ha => ?_, fun x hx => ?_, h.most⟩
    · have := h.kids e he; simp; omega
    · rcases List.mem_append.1 ha with ha | ha
      · have := h.aids a ha; simp; omega
      · obtain rfl := List.mem_singleton.1 ha
        simp [newAct]
    · rcases List.mem_append.1 hx with hx | hx
      · exact h.syn x hx
      · obtain rfl := List.mem_singleton.1 hx
        exact ⟨Nat.zero_le _, by show b.length ≤ S.quota; omega⟩
theorem few_put {S : DS} {k : Nat} (h : Few S k) (s : Nm) (b : List UInt8) : Few (putS S s b) (k + 1) := by
  have := h.dirs; have := h.files; have := h.refused
  unfold putS
  split
  · exact ⟨by show S.kept.length + S.acts.length ≤ _; omega, by simp; omega, by show S.refused ≤ _; omega⟩
  · exact ⟨by simp; omega, by simp; omega, by show S.refused ≤ _; omega⟩
theorem ready_may {S : DS} {a b : Nm} (h : readyS S a b = 0) : S.down = false ∧ mayN a = true ∧ mayN b = true := by
  unfold readyS at h
  split at h
  · cases h
  · rename_i hd
    split at h
    · rename_i hm
      rw [Bool.and_eq_true] at hm
      exact ⟨by simpa using hd, hm.1, hm.2⟩
    · cases h
theorem inv_append {S : DS} (h : Inv S) (s : Nm) (b : List UInt8) : Inv (appendS S s b).1 := by
  unfold appendS
  split
  · exact h
  · rename_i hr
    split
    · exact inv_refused h
    · rename_i hq
      split
      · exact inv_arm h
      · have hr : readyS S s s = 0 := by simpa using hr
        exact inv_put (inv_arm h) (ready_may hr).2.1 (by show usedS S + _ ≤ S.quota; omega)
theorem few_append {S : DS} {k : Nat} (h : Few S k) (s : Nm) (b : List UInt8) : Few (appendS S s b).1 (k + 1) := by
  unfold appendS
  split
  · exact h.mono (Nat.le_succ _)
  · split
    · exact few_refused h
    · split
      · exact (few_arm h).mono (Nat.le_succ _)
      · exact few_put (few_arm h) s b
theorem inv_keep {S : DS} (h : Inv S) (k : Nat) : Inv (keepS S k) := by
  refine ⟨h.now, .nil _, fun e he => ?_, fun a ha => (by cases ha), fun x hx => ?_, h.most⟩
  · simpa [keepS] using h.nids e he
  · obtain ⟨i, hi, rfl⟩ := List.mem_iff_getElem.1 hx
    simp only [keepS, List.length_modify] at hi
    have h1 := h.syn _ (List.getElem_mem hi)
    simp only [keepS, List.getElem_modify]
    split
    · exact ⟨Nat.le_refl _, h1.2⟩
    · exact h1
theorem few_keep {S : DS} {k : Nat} (hi : Inv S) (h : Few S k) (m : Nat) : Few (keepS S m) k := by
  refine ⟨?_, ?_, h.refused⟩
  · have := hi.nowLen h
    simpa [keepS] using this
  · simpa [keepS] using h.files
theorem inv_sync {S : DS} (h : Inv S) (s : Nm) : Inv (syncS S s).1 := by
  unfold syncS
  split
  · exact h
  · split
    · exact h
    · split
      · exact inv_arm h
      · exact inv_keep (inv_arm h) _
theorem few_sync {S : DS} {k : Nat} (hi : Inv S) (h : Few S k) (s : Nm) : Few (syncS S s).1 k := by
  unfold syncS
  split
  · exact h
  · split
    · exact h
    · split
      · exact few_arm h
      · exact few_keep (inv_arm hi) (few_arm h) _
theorem inv_done {S : DS} (h : Inv S) {a : DAct} (hd : a.dst = [] ∨ mayN a.dst = true) (hs : a.src ≠ []) (hk : look S.now a.src = some a.file) : Inv (doneS S a) := by
  refine ⟨h.good, h.runs.snoc ⟨hd, .inr ⟨hs, hk⟩⟩, h.kids, fun b hb => ?_, h.syn, h.most⟩
  rcases List.mem_append.1 hb with hb | hb
  · exact h.aids b hb
  · obtain rfl := List.mem_singleton.1 hb
    exact h.nids _ (look_mem hk)
theorem inv_turn {S : DS} (h : Inv S) (s o t : Nm) (ht : t = [] ∨ t = o) : Inv (turnS S s o t).1 := by
  unfold turnS
  split
  · exact h
  · rename_i hr
    split
    · exact h
    · rename_i k hk
      split
      · exact inv_arm h
      · have hm := ready_may (a := s) (b := o) (S := S) (by simpa using hr)
        exact inv_done (inv_arm h) (ht.imp id (fun e => by rw [e]; exact hm.2.2)) (may_ne hm.2.1) hk
theorem few_turn {S : DS} {k : Nat} (h : Few S k) (s o t : Nm) : Few (turnS S s o t).1 (k + 1) := by
  unfold turnS
  split
  · exact h.mono (Nat.le_succ _)
  · split
    · exact h.mono (Nat.le_succ _)
    · split
      · exact (few_arm h).mono (Nat.le_succ _)
      · refine ⟨?_, Nat.le_succ_of_le h.files, Nat.le_succ_of_le h.refused⟩
        have := h.dirs
        simp [doneS, armS]
        omega
theorem fate_lt (fs : List Int) (i : Nat) {c : Nat} (hc : 0 < c) : fateF fs i c < c := by
  unfold fateF
  split
  · exact hc
  · rename_i x _
    have h1 := Int.emod_nonneg x (b := (c : Int)) (by omega)
    have h2 := Int.emod_lt_of_pos x (b := (c : Int)) (by omega)
    omega
theorem cut_le (x : FileD) (fs : List Int) (i : Nat) (h : x.2 ≤ x.1.length) : x.2 ≤ cutN x fs i ∧ cutN x fs i ≤ x.1.length := by
  have := fate_lt fs (i + 1) (c := x.1.length - x.2 + 1) (by omega)
  unfold cutN
  omega
theorem leftNow_names (l : Dir) : names (leftNow l) = names l := by
  unfold names leftNow
  apply List.ext_getElem (by simp)
  intro i h1 h2
  simp
theorem leftNow_ids (l : Dir) : ids (leftNow l) = List.range l.length := by
  unfold ids leftNow
  apply List.ext_getElem (by simp)
  intro i h1 h2
  simp
theorem good_leftNow {l : Dir} (h : GoodD l) : GoodD (leftNow l) := by
  refine ⟨List.pairwise_map.1 ?_, ?_, fun e he => ?_⟩
  · show (names (leftNow l)).Pairwise (· < ·)
    rw [leftNow_names]
    exact names_sorted h.sorted
  · rw [leftNow_ids]; exact List.nodup_range
  · have : e.1 ∈ names (leftNow l) := List.mem_map.2 ⟨e, he, rfl⟩
    rw [leftNow_names] at this
    obtain ⟨f, hf, hfe⟩ := List.mem_map.1 this
    rw [← hfe]
    exact h.named f hf
theorem file_syn {S : DS} (h : Inv S) (k : Nat) : (S.files.getD k ([], 0)).2 ≤ (S.files.getD k ([], 0)).1.length ∧ (S.files.getD k ([], 0)).1.length ≤ S.quota := by
  by_cases hk : k < S.files.length
  · simp only [List.getD_eq_getElem?_getD, List.getElem?_eq_getElem hk, Option.getD_some]
    exact h.syn _ (List.getElem_mem hk)
  · simp [List.getD_eq_getElem?_getD, List.getElem?_eq_none (by omega : S.files.length ≤ k)]
theorem inv_crash {S : DS} (h : Inv S) (fs : List Int) : Inv (crashS S fs) := by
  have hg := good_leftNow (h.lgood fs)
  refine ⟨hg, .nil _, fun e he => ?_, fun a ha => (by cases ha), fun x hx => ?_, h.most⟩
  · have : e.2 ∈ ids (leftNow (leftS S fs)) := List.mem_map.2 ⟨e, he, rfl⟩
    rw [leftNow_ids, List.mem_range] at this
    simpa [crashS, leftFiles] using this
  · obtain ⟨i, hi, rfl⟩ := List.mem_iff_getElem.1 hx
    simp only [crashS, leftFiles, List.getElem_mapIdx, cutF]
    have h1 := file_syn h ((leftS S fs)[i]'(by simpa [crashS, leftFiles] using hi)).2
    have h2 := cut_le _ fs i h1.1
    rw [List.length_take]
    omega
theorem few_crash {S : DS} {k : Nat} (h : Few S k) (fs : List Int) : Few (crashS S fs) k := by
  have := leftLen fs h
  refine ⟨?_, ?_, h.refused⟩
  · simpa [crashS, leftNow] using this
  · simpa [crashS, leftFiles] using this
theorem usedOf_le {fs : List FileD} {q : Nat} (hq : ∀ k, (fs.getD k ([], 0)).1.length ≤ q) (l : Dir) : usedOf fs l ≤ l.length * q := by
  unfold usedOf
  induction l with
  | nil => simp
  | cons x r ih =>
    have := hq x.2
    rw [List.map_cons, List.sum_cons, List.length_cons, Nat.succ_mul]
    omega
theorem used_le {S : DS} (h : Inv S) {k : Nat} (hf : Few S k) : usedS S ≤ k * 1073741824 := by
  refine Nat.le_trans (usedOf_le (q := 1073741824) (fun i => Nat.le_trans (file_syn h i).2 h.most) S.now) (Nat.mul_le_mul_right _ (h.nowLen hf))
#print axioms inv_crash
end Go.Proofs.Ytemphljkfpkgmaa

namespace Go.Proofs.Ytemphljkfpkgmaa

theorem leftNow_twice (l : Dir) : leftNow (leftNow l) = leftNow l := by
  unfold leftNow
  apply List.ext_getElem (by simp)
  intro i h1 h2
  simp
theorem fate_one (fs : List Int) (i : Nat) : fateF fs i 1 = 0 := by
  have := fate_lt fs i (c := 1) (by omega)
  omega
/-- A second crash changes nothing. -/
theorem crash_twice {S : DS} (h : Inv S) (one two : List Int) : crashS (crashS S one) two = crashS S one := by
  have hl : leftS (crashS S one) two = leftNow (leftS S one) := by
    show List.foldl turnD (leftNow (leftS S one)) (List.take _ []) = _
    rw [List.take_nil]; rfl
  have hf : leftFiles (crashS S one).files (leftNow (leftS S one)) two = (crashS S one).files := by
    show leftFiles (leftFiles S.files (leftS S one) one) (leftNow (leftS S one)) two = leftFiles S.files (leftS S one) one
    generalize leftS S one = L
    apply List.ext_getElem (by simp [leftFiles, leftNow])
    intro i h1 h2
    have hi : i < L.length := by simpa [leftFiles] using h2
    have h3 := file_syn h (L[i].2)
    have h4 := cut_le _ one i h3.1
    simp only [leftFiles, leftNow, List.getElem_mapIdx, List.getD_eq_getElem?_getD, List.getElem?_mapIdx, List.getElem?_eq_getElem hi, Option.map_some, Option.getD_some]
    generalize hc : cutN ((S.files[L[i].2]?).getD ([], 0)) one i = c at *
    generalize hx : (S.files[L[i].2]?).getD ([], 0) = x at *
    have h5 : c ≤ x.1.length := by
      rw [← hc]
      simpa [List.getD_eq_getElem?_getD, hx] using h4.2
    have h6 : cutN (cutF x one i) two i = c := by
      have e : (cutF x one i).1.length - (cutF x one i).2 + 1 = 1 := by simp [cutF, hc]; omega
      unfold cutN
      rw [e, fate_one]
      simp [cutF, hc]
    show ((cutF x one i).1.take (cutN (cutF x one i) two i), cutN (cutF x one i) two i) = cutF x one i
    rw [h6]
    simp [cutF, hc, List.take_take]
  show DS.mk _ (leftFiles (crashS S one).files (leftS (crashS S one) two) two) (leftNow (leftS (crashS S one) two)) (leftNow (leftS (crashS S one) two)) [] _ 0 false = _
  rw [hl, hf, leftNow_twice]
  rfl
/-- What is listed can be read. -/
theorem read_listed {S : DS} (h : Inv S) (hd : S.down = false) {s : Nm} (hs : s ∈ listS S) : (readS S s).2 = 0 := by
  unfold listS at hs
  rw [hd] at hs
  simp only [Bool.false_eq_true, if_false] at hs
  obtain ⟨e, he, rfl⟩ := List.mem_map.1 hs
  have hr : readyS S e.1 e.1 = 0 := by unfold readyS; rw [hd, h.now.named e he]; rfl
  unfold readS
  rw [hr, if_neg (by omega), look_of_mem h.now.sorted (f := e.2) he]

/-- All bytes of all files. -/
def total (fs : List FileD) : Nat := (fs.map fun x => x.1.length).sum
theorem total_nil : total [] = 0 := rfl
theorem total_snoc (fs : List FileD) (x : FileD) : total (fs ++ [x]) = total fs + x.1.length := by simp [total]
theorem total_modify (fs : List FileD) (k : Nat) (f : FileD → FileD) {b : Nat} (hf : ∀ x, (f x).1.length ≤ x.1.length + b) : total (fs.modify k f) ≤ total fs + b := by
  induction fs generalizing k with
  | nil => simp [total]
  | cons x r ih =>
    cases k with
    | zero => have := hf x; simp [total]; omega
    | succ k => have := ih k; simp [total] at this ⊢; omega
theorem total_zero (fs : List FileD) (k : Nat) : total (fs.set k ([], 0)) + (fs.getD k ([], 0)).1.length = total fs := by
  induction fs generalizing k with
  | nil => simp [total]
  | cons x r ih =>
    cases k with
    | zero => simp [total]; omega
    | succ k => have := ih k; simp [total] at this ⊢; omega
theorem used_total {l : Dir} (h : (ids l).Nodup) (fs : List FileD) : usedOf fs l ≤ total fs := by
  induction l generalizing fs with
  | nil => simp [usedOf]
  | cons x r ih =>
    have h1 : x.2 ∉ ids r ∧ (ids r).Nodup := List.nodup_cons.1 h
    have h2 := ih h1.2 (fs.set x.2 ([], 0))
    have h3 := total_zero fs x.2
    have h4 : usedOf (fs.set x.2 ([], 0)) r = usedOf fs r := by
      unfold usedOf
      congr 1
      refine List.map_congr_left fun e he => ?_
      have hne : x.2 ≠ e.2 := fun e' => h1.1 (by rw [e']; exact List.mem_map.2 ⟨e, he, rfl⟩)
      simp [List.getD_eq_getElem?_getD, List.getElem?_set_ne hne]
    have h5 : usedOf fs (x :: r) = (fs.getD x.2 ([], 0)).1.length + usedOf fs r := by simp [usedOf]
    omega
theorem used_le_total {S : DS} (h : Inv S) : usedS S ≤ total S.files := used_total h.now.once _
theorem total_crash {S : DS} (h : Inv S) (fs : List Int) : total (crashS S fs).files ≤ total S.files := by
  refine Nat.le_trans ?_ (used_total (h.lgood fs).once S.files)
  show total (leftFiles S.files (leftS S fs) fs) ≤ _
  generalize leftS S fs = L
  have : ∀ (L : Dir) (j : Nat), ((L.mapIdx fun i e => cutF (S.files.getD e.2 ([], 0)) fs (i + j)).map fun x => x.1.length).sum ≤ usedOf S.files L := by
    intro L
    induction L with
    | nil => intro j; simp [usedOf]
    | cons e r ih =>
      intro j
      have h1 := ih (j + 1)
      have h2 := List.length_take_le (cutN (S.files.getD e.2 ([], 0)) fs j) (S.files.getD e.2 ([], 0)).1
      have h2' : (cutF (S.files.getD e.2 ([], 0)) fs j).1.length ≤ (S.files.getD e.2 ([], 0)).1.length := by simp [cutF]; omega
      have h3 : usedOf S.files (e :: r) = (S.files.getD e.2 ([], 0)).1.length + usedOf S.files r := by simp [usedOf]
      have e1 : (fun (i : Nat) (e : Nm × Nat) => cutF (S.files.getD e.2 ([], 0)) fs (i + (j + 1))) = fun i e => cutF (S.files.getD e.2 ([], 0)) fs (i + 1 + j) := by
        funext i e; rw [show i + (j + 1) = i + 1 + j from by omega]
      rw [e1] at h1
      rw [List.mapIdx_cons, List.map_cons, List.sum_cons, h3, Nat.zero_add]
      omega
  exact this L 0
theorem total_append (S : DS) (s : Nm) (b : List UInt8) : total (appendS S s b).1.files ≤ total S.files + b.length := by
  unfold appendS
  split
  · exact Nat.le_add_right _ _
  · split
    · exact Nat.le_add_right _ _
    · split
      · exact Nat.le_add_right _ _
      · unfold putS
        split
        · exact total_modify _ _ _ fun x => by simp
        · show total (S.files ++ [(b, 0)]) ≤ _
          rw [total_snoc]
          exact Nat.le_refl _
theorem total_sync (S : DS) (s : Nm) : total (syncS S s).1.files ≤ total S.files := by
  unfold syncS
  split
  · exact Nat.le_refl _
  · split
    · exact Nat.le_refl _
    · split
      · exact Nat.le_refl _
      · exact total_modify (b := 0) _ _ _ fun x => by simp
theorem total_turn (S : DS) (s o t : Nm) : total (turnS S s o t).1.files ≤ total S.files := by
  unfold turnS
  split
  · exact Nat.le_refl _
  · split
    · exact Nat.le_refl _
    · split
      · exact Nat.le_refl _
      · exact Nat.le_refl _
theorem quota_append (S : DS) (s : Nm) (b : List UInt8) : (appendS S s b).1.quota = S.quota := by
  unfold appendS
  repeat' split
  all_goals first | rfl | (unfold putS; split <;> rfl)
theorem quota_sync (S : DS) (s : Nm) : (syncS S s).1.quota = S.quota := by
  unfold syncS
  repeat' split
  all_goals rfl
theorem quota_turn (S : DS) (s o t : Nm) : (turnS S s o t).1.quota = S.quota := by
  unfold turnS
  repeat' split
  all_goals rfl

/-- A disk that is up and not armed, with room. -/
structure Calm (S : DS) (q t : Nat) : Prop where
  inv : Inv S
  up : S.down = false
  arm : S.arm = 0
  quota : S.quota = q
  tot : total S.files ≤ t
theorem armS_calm {S : DS} (hd : S.down = false) (ha : S.arm = 0) : armS S = S := by
  obtain ⟨a, b, c, d, e, f, g, h⟩ := S
  simp only at hd ha
  subst hd ha
  rfl
theorem append_calm {S : DS} {q t : Nat} (h : Calm S q t) {s : Nm} (hs : mayN s = true) (b : List UInt8) (hq : t + b.length ≤ q) : appendS S s b = (putS S s b, 0) := by
  have hr : readyS S s s = 0 := by unfold readyS; rw [h.up, hs]; rfl
  have hu := used_le_total h.inv
  have := h.tot
  have := h.quota
  have ha : armF S = false := by unfold armF; rw [h.arm]; rfl
  unfold appendS
  rw [hr, if_neg (by omega), if_neg (by omega), ha, armS_calm h.up h.arm]
  rfl
theorem put_up {S : DS} (s : Nm) (b : List UInt8) : (putS S s b).down = S.down ∧ (putS S s b).arm = S.arm ∧ (putS S s b).kept = S.kept := by
  unfold putS; split <;> exact ⟨rfl, rfl, rfl⟩
theorem calm_put {S : DS} {q t : Nat} (h : Calm S q t) {s : Nm} (hs : mayN s = true) (b : List UInt8) (hq : t + b.length ≤ q) : Calm (putS S s b) q (t + b.length) := by
  have e := append_calm h hs b hq
  have h1 := inv_append h.inv s b
  have h2 := total_append S s b
  have h3 := quota_append S s b
  rw [e] at h1 h2 h3
  obtain ⟨u1, u2, _⟩ := put_up (S := S) s b
  exact ⟨h1, u1.trans h.up, u2.trans h.arm, h3.trans h.quota, by have := h.tot; simp only at h2; omega⟩
/-- A name of whose file so much was synced; what of it there is. -/
structure HeldS (S : DS) (s : Nm) (was all : List UInt8) : Prop where
  k : ∃ k n, look S.now s = some k ∧ look S.kept s = some k ∧ S.files[k]? = some (all, n) ∧ was.length ≤ n
  puts : ∀ a ∈ S.acts, a.src = [] ∧ a.dst ≠ s ∧ a.dst ≠ []
theorem look_put {S : DS} (s : Nm) (b : List UInt8) (hs : s ≠ []) : ∃ k, look (putS S s b).now s = some k := by
  unfold putS
  split
  · rename_i k hk; exact ⟨k, hk⟩
  · exact ⟨_, by rw [look_turn, if_pos ⟨hs, rfl⟩]⟩
theorem held_sync {S : DS} {q t : Nat} (h : Calm S q t) {s : Nm} (hs : mayN s = true) {k : Nat} (hk : look S.now s = some k) :
    ∃ was, syncS S s = (keepS S k, 0) ∧ HeldS (keepS S k) s was was ∧ Calm (keepS S k) q t ∧ readS (keepS S k) s = (was, 0) := by
  have hr : readyS S s s = 0 := by unfold readyS; rw [h.up, hs]; rfl
  have ha : armF S = false := by unfold armF; rw [h.arm]; rfl
  have hlt := h.inv.nids _ (look_mem hk)
  have e : syncS S s = (keepS S k, 0) := by
    unfold syncS
    rw [hr, if_neg (by omega), hk, ha, armS_calm h.up h.arm]
    rfl
  have hg : (keepS S k).files[k]? = some ((S.files[k]).1, (S.files[k]).1.length) := by
    simp [keepS, List.getElem?_eq_getElem hlt]
  refine ⟨(S.files[k]).1, e, ⟨⟨k, _, hk, hk, hg, Nat.le_refl _⟩, fun a ha => (by cases ha)⟩, ⟨inv_keep h.inv k, h.up, h.arm, h.quota, ?_⟩, ?_⟩
  · have := total_sync S s
    rw [e] at this
    exact Nat.le_trans this h.tot
  · have hr2 : readyS (keepS S k) s s = 0 := hr
    have hk2 : look (keepS S k).now s = some k := hk
    unfold readS
    rw [hr2, if_neg (by omega), hk2]
    simp [fileAt, List.getD_eq_getElem?_getD, hg]
theorem held_put {S : DS} {s t : Nm} {was all : List UInt8} (hi : Inv S) (h : HeldS S s was all) (ht : mayN t = true) (b : List UInt8) : HeldS (putS S t b) s was (if t = s then all ++ b else all) := by
  obtain ⟨⟨k, n, h1, h2, h3, h4⟩, h5⟩ := h
  unfold putS
  split
  · rename_i j hj
    refine ⟨⟨k, n, h1, h2, ?_, h4⟩, h5⟩
    by_cases e : t = s
    · subst e
      rw [h1] at hj
      cases hj
      rw [if_pos rfl]
      show (S.files.modify k _)[k]? = _
      rw [List.getElem?_modify, h3]
      simp
    · rw [if_neg e]
      have hne : j ≠ k := fun e' => by subst e'; exact e (once_look hi.now.once (look_mem hj) (look_mem h1))
      show (S.files.modify j _)[k]? = _
      rw [List.getElem?_modify, h3]
      simp [hne]
  · rename_i hj
    have hts : t ≠ s := fun e => by subst e; rw [h1] at hj; cases hj
    rw [if_neg hts]
    refine ⟨⟨k, n, ?_, h2, ?_, h4⟩, fun a ha => ?_⟩
    · show look (turnD S.now (newAct S t)) s = _
      have hs0 : s ≠ [] := may_ne (hi.now.named _ (look_mem h1))
      rw [look_turn, if_neg (fun e => hts e.2.symm), if_neg (c := s = (newAct S t).src) hs0]
      exact h1
    · show (S.files ++ [(b, 0)])[k]? = _
      rw [List.getElem?_append_left (List.getElem?_eq_some_iff.1 h3).1, h3]
    · rcases List.mem_append.1 ha with ha | ha
      · exact h5 a ha
      · obtain rfl := List.mem_singleton.1 ha
        exact ⟨rfl, hts, may_ne ht⟩
theorem look_fold_puts {as : List DAct} {s : Nm} (hs : s ≠ []) (h : ∀ a ∈ as, a.src = [] ∧ a.dst ≠ s ∧ a.dst ≠ []) (d : Dir) : look (as.foldl turnD d) s = look d s := by
  induction as generalizing d with
  | nil => rfl
  | cons a as ih =>
    obtain ⟨h1, h2, h3⟩ := h a List.mem_cons_self
    rw [List.foldl_cons, ih (fun b hb => h b (List.mem_cons_of_mem _ hb)), look_turn, if_neg (fun e => h2 e.2.symm), if_neg (by rw [h1]; exact hs)]
/-- Behind a crash it is there. -/
theorem held_crash {S : DS} {s : Nm} {was all : List UInt8} (hi : Inv S) (h : HeldS S s was all) (fs : List Int) :
    ∃ n, was.length ≤ n ∧ n ≤ all.length ∧ readS (crashS S fs) s = (all.take n, 0) := by
  obtain ⟨⟨k, m, h1, h2, h3, h4⟩, h5⟩ := h
  have hm := hi.now.named _ (look_mem h1)
  have hl : look (leftS S fs) s = some k := by
    unfold leftS
    rw [look_fold_puts (may_ne hm) (fun a ha => h5 a (List.mem_of_mem_take ha))]
    exact h2
  obtain ⟨i, hi2, he⟩ := List.mem_iff_getElem.1 (look_mem hl)
  have hin : look (crashS S fs).now s = some i := by
    refine look_of_mem (inv_crash hi fs).now.sorted ?_
    refine List.mem_iff_getElem.2 ⟨i, by simpa [crashS, leftNow] using hi2, ?_⟩
    simp [crashS, leftNow, he]
  have hr : readyS (crashS S fs) s s = 0 := by unfold readyS; rw [hm]; rfl
  have hf := file_syn hi k
  simp only [List.getD_eq_getElem?_getD, h3, Option.getD_some] at hf
  have hc := cut_le (all, m) fs i hf.1
  refine ⟨cutN (all, m) fs i, Nat.le_trans h4 hc.1, hc.2, ?_⟩
  unfold readS
  rw [hr, if_neg (by omega), hin]
  have : fileAt (crashS S fs) i = cutF (all, m) fs i := by
    simp [fileAt, crashS, leftFiles, List.getD_eq_getElem?_getD, List.getElem?_mapIdx, List.getElem?_eq_getElem hi2, he, h3]
  show ((fileAt (crashS S fs) i).1, 0) = _
  rw [this]
  rfl
#print axioms held_crash
#print axioms crash_twice
end Go.Proofs.Ytemphljkfpkgmaa
