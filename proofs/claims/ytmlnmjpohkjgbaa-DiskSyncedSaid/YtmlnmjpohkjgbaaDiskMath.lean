/-
  A disk as plain data: its files by number (bytes, how many are synced), its directories, its acts; what each call makes of it. No program is named here.
-/
import Derived.Test.YtmlnmjpohkjgbaaDirMath
namespace Go.Proofs.Ytmlnmjpohkjgbaa

abbrev FileD := List UInt8 × Nat
structure DS where
  quota : Nat
  files : List FileD
  now : Dir
  kept : Dir
  acts : List DAct
  refused : Nat
  arm : Nat
  down : Bool

def newS (q : Nat) : DS := ⟨q, [], [], [], [], 0, 0, false⟩
def fileAt (S : DS) (k : Nat) : FileD := S.files.getD k ([], 0)
def usedOf (fs : List FileD) (l : Dir) : Nat := (l.map fun e => (fs.getD e.2 ([], 0)).1.length).sum
def usedS (S : DS) : Nat := usedOf S.files S.now
def readyS (S : DS) (a b : Nm) : Nat := if S.down then 9 else if mayN a && mayN b then 0 else 10
def armF (S : DS) : Bool := decide (S.arm = 1)
def armS (S : DS) : DS := { S with arm := S.arm - 1, down := decide (S.arm = 1) }
def newAct (S : DS) (s : Nm) : DAct := ⟨[], s, S.files.length⟩
def putS (S : DS) (s : Nm) (b : List UInt8) : DS :=
  match look S.now s with
  | some k => { S with files := S.files.modify k fun x => (x.1 ++ b, x.2) }
  | none => { S with files := S.files ++ [(b, 0)], now := turnD S.now (newAct S s), acts := S.acts ++ [newAct S s] }
def appendS (S : DS) (s : Nm) (b : List UInt8) : DS × Nat :=
  if readyS S s s ≠ 0 then (S, readyS S s s)
  else if S.quota < usedS S + b.length then ({ S with refused := S.refused + 1 }, 8)
  else if armF S then (armS S, 9) else (putS (armS S) s b, 0)
def keepS (S : DS) (k : Nat) : DS := { S with files := S.files.modify k fun x => (x.1, x.1.length), kept := S.now, acts := [] }
def syncS (S : DS) (s : Nm) : DS × Nat :=
  if readyS S s s ≠ 0 then (S, readyS S s s)
  else match look S.now s with
    | none => (S, 4)
    | some k => if armF S then (armS S, 9) else (keepS (armS S) k, 0)
def doneS (S : DS) (a : DAct) : DS := { S with now := turnD S.now a, acts := S.acts ++ [a] }
/-- A name goes to another one; 'o': the other name that is asked for, 't': where it goes. -/
def turnS (S : DS) (s o t : Nm) : DS × Nat :=
  if readyS S s o ≠ 0 then (S, readyS S s o)
  else match look S.now s with
    | none => (S, 4)
    | some k => if armF S then (armS S, 9) else (doneS (armS S) ⟨s, t, k⟩, 0)
def readS (S : DS) (s : Nm) : List UInt8 × Nat :=
  if readyS S s s ≠ 0 then ([], readyS S s s)
  else match look S.now s with
    | none => ([], 4)
    | some k => ((fileAt S k).1, 0)
def listS (S : DS) : List Nm := if S.down then [] else names S.now
def usedT (S : DS) : Nat := if S.down then 0 else usedS S
def setArm (S : DS) (n : Int) : DS := { S with arm := n.toNat }
def fateF (fs : List Int) (i c : Nat) : Nat := match fs[i]? with | none => 0 | some x => (x % (c : Int)).toNat
def leftS (S : DS) (fs : List Int) : Dir := (S.acts.take (fateF fs 0 (S.acts.length + 1))).foldl turnD S.kept
def cutN (x : FileD) (fs : List Int) (i : Nat) : Nat := x.2 + fateF fs (i + 1) (x.1.length - x.2 + 1)
def cutF (x : FileD) (fs : List Int) (i : Nat) : FileD := (x.1.take (cutN x fs i), cutN x fs i)
def leftFiles (files : List FileD) (l : Dir) (fs : List Int) : List FileD := l.mapIdx fun i e => cutF (files.getD e.2 ([], 0)) fs i
def leftNow (l : Dir) : Dir := l.mapIdx fun i e => (e.1, i)
def crashS (S : DS) (fs : List Int) : DS :=
  ⟨S.quota, leftFiles S.files (leftS S fs) fs, leftNow (leftS S fs), leftNow (leftS S fs), [], S.refused, 0, false⟩

/-- What is so of every disk. -/
structure Inv (S : DS) : Prop where
  good : GoodD S.kept
  runs : Runs S.kept S.acts S.now
  kids : ∀ e ∈ S.kept, e.2 < S.files.length
  aids : ∀ a ∈ S.acts, a.file < S.files.length
  syn : ∀ x ∈ S.files, x.2 ≤ x.1.length ∧ x.1.length ≤ S.quota
  most : S.quota ≤ 1073741824
/-- It is small. -/
structure Few (S : DS) (k : Nat) : Prop where
  dirs : S.kept.length + S.acts.length ≤ k
  files : S.files.length ≤ k
  refused : S.refused ≤ k
theorem Few.mono {S : DS} {k m : Nat} (h : Few S k) (hk : k ≤ m) : Few S m := ⟨Nat.le_trans h.dirs hk, Nat.le_trans h.files hk, Nat.le_trans h.refused hk⟩
theorem Inv.now {S : DS} (h : Inv S) : GoodD S.now := h.runs.good h.good
theorem Inv.nowLe {S : DS} (h : Inv S) {k : Nat} (hf : S.kept.length + S.acts.length ≤ k) : S.now.length ≤ k := by
  have := fold_length S.acts S.kept
  rw [h.runs.fold] at this
  omega
theorem Inv.nowLen {S : DS} (h : Inv S) {k : Nat} (hf : Few S k) : S.now.length ≤ k := by
  have := fold_length S.acts S.kept
  rw [h.runs.fold] at this
  have := hf.dirs
  omega
theorem Inv.nids {S : DS} (h : Inv S) : ∀ e ∈ S.now, e.2 < S.files.length := by
  intro e he
  rw [← h.runs.fold] at he
  rcases fold_ids he with h1 | ⟨a, ha, rfl⟩
  · exact h.kids e h1
  · exact h.aids a ha
theorem Inv.lids {S : DS} (h : Inv S) (fs : List Int) : ∀ e ∈ leftS S fs, e.2 < S.files.length := by
  intro e he
  rcases fold_ids he with h1 | ⟨a, ha, rfl⟩
  · exact h.kids e h1
  · exact h.aids a (List.mem_of_mem_take ha)
theorem Inv.lgood {S : DS} (h : Inv S) (fs : List Int) : GoodD (leftS S fs) := (h.runs.ahead _).good h.good
theorem leftLen {S : DS} (fs : List Int) {k : Nat} (hf : Few S k) : (leftS S fs).length ≤ k := by
  have := fold_length (S.acts.take (fateF fs 0 (S.acts.length + 1))) S.kept
  have h2 : (S.acts.take (fateF fs 0 (S.acts.length + 1))).length ≤ S.acts.length := by rw [List.length_take]; omega
  have := hf.dirs
  unfold leftS
  omega
theorem inv_new {q : Nat} (h : q ≤ 1073741824) : Inv (newS q) := ⟨GoodD.nil, .nil _, fun _ h => (by cases h), fun _ h => (by cases h), fun _ h => (by cases h), h⟩
theorem few_new (q : Nat) : Few (newS q) 0 := ⟨Nat.le_refl _, Nat.le_refl _, Nat.le_refl _⟩
theorem inv_arm {S : DS} (h : Inv S) : Inv (armS S) := ⟨h.good, h.runs, h.kids, h.aids, h.syn, h.most⟩
theorem inv_setArm {S : DS} (h : Inv S) (n : Int) : Inv (setArm S n) := ⟨h.good, h.runs, h.kids, h.aids, h.syn, h.most⟩
theorem few_arm {S : DS} {k : Nat} (h : Few S k) : Few (armS S) k := ⟨h.dirs, h.files, h.refused⟩
theorem few_setArm {S : DS} {k : Nat} (h : Few S k) (n : Int) : Few (setArm S n) k := ⟨h.dirs, h.files, h.refused⟩
theorem inv_refused {S : DS} (h : Inv S) : Inv { S with refused := S.refused + 1 } := ⟨h.good, h.runs, h.kids, h.aids, h.syn, h.most⟩
theorem few_refused {S : DS} {k : Nat} (h : Few S k) : Few { S with refused := S.refused + 1 } (k + 1) := ⟨Nat.le_succ_of_le h.dirs, Nat.le_succ_of_le h.files, Nat.succ_le_succ h.refused⟩

theorem len_le_used {fs : List FileD} {l : Dir} {e : Nm × Nat} (h : e ∈ l) : (fs.getD e.2 ([], 0)).1.length ≤ usedOf fs l := by
  unfold usedOf
  induction l with
  | nil => cases h
  | cons x r ih =>
    rw [List.map_cons, List.sum_cons]
    rcases List.mem_cons.1 h with rfl | h
    · omega
    · have := ih h; omega
theorem inv_put {S : DS} (h : Inv S) {s : Nm} {b : List UInt8} (hs : mayN s = true) (hq : usedS S + b.length ≤ S.quota) : Inv (putS S s b) := by
  unfold putS
  split
  · rename_i k hk
    refine ⟨h.good, h.runs, fun e he => ?_, fun a ha => ?_, fun x hx => ?_, h.most⟩
    · simpa using h.kids e he
    · simpa using h.aids a ha
    · obtain ⟨i, hi, rfl⟩ := List.mem_iff_getElem.1 hx
      rw [List.getElem_modify]
      simp only [List.length_modify] at hi
      have h1 := h.syn _ (List.getElem_mem hi)
      split
      · rename_i hik
        subst hik
        have h2 := len_le_used (fs := S.files) (look_mem hk)
        simp only [List.getD_eq_getElem?_getD, List.getElem?_eq_getElem hi, Option.getD_some] at h2
        unfold usedS at hq
        simp only [List.length_append]
        omega
      · exact h1
  · rename_i hk
    have hn : S.files.length ∉ ids S.now := fun hin => by
      obtain ⟨e, he, hf⟩ := List.mem_map.1 hin
      have := h.nids e he
      omega
    refine ⟨h.good, h.runs.snoc ⟨.inr hs, .inl ⟨rfl, may_ne hs, hn⟩⟩, fun e he => ?_, fun a ha => ?_, fun x hx => ?_, h.most⟩
    · have := h.kids e he; simp; omega
    · rcases List.mem_append.1 ha with ha | ha
      · have := h.aids a ha; simp; omega
      · obtain rfl := List.mem_singleton.1 ha
        simp [newAct]
    · rcases List.mem_append.1 hx with hx | hx
      · exact h.syn x hx
      · obtain rfl := List.mem_singleton.1 hx
        exact ⟨Nat.zero_le _, by show b.length ≤ S.quota; omega⟩
theorem few_put {S : DS} {k : Nat} (h : Few S k) (s : Nm) (b : List UInt8) : Few (putS S s b) (k + 1) := by
  have := h.dirs; have := h.files; have := h.refused
  unfold putS
  split
  · exact ⟨by show S.kept.length + S.acts.length ≤ _; omega, by simp; omega, by show S.refused ≤ _; omega⟩
  · exact ⟨by simp; omega, by simp; omega, by show S.refused ≤ _; omega⟩
theorem ready_may {S : DS} {a b : Nm} (h : readyS S a b = 0) : S.down = false ∧ mayN a = true ∧ mayN b = true := by
  unfold readyS at h
  split at h
  · cases h
  · rename_i hd
    split at h
    · rename_i hm
      rw [Bool.and_eq_true] at hm
      exact ⟨by simpa using hd, hm.1, hm.2⟩
    · cases h
theorem inv_append {S : DS} (h : Inv S) (s : Nm) (b : List UInt8) : Inv (appendS S s b).1 := by
  unfold appendS
  split
  · exact h
  · rename_i hr
    split
    · exact inv_refused h
    · rename_i hq
      split
      · exact inv_arm h
      · have hr : readyS S s s = 0 := by simpa using hr
        exact inv_put (inv_arm h) (ready_may hr).2.1 (by show usedS S + _ ≤ S.quota; omega)
theorem few_append {S : DS} {k : Nat} (h : Few S k) (s : Nm) (b : List UInt8) : Few (appendS S s b).1 (k + 1) := by
  unfold appendS
  split
  · exact h.mono (Nat.le_succ _)
  · split
    · exact few_refused h
    · split
      · exact (few_arm h).mono (Nat.le_succ _)
      · exact few_put (few_arm h) s b
theorem inv_keep {S : DS} (h : Inv S) (k : Nat) : Inv (keepS S k) := by
  refine ⟨h.now, .nil _, fun e he => ?_, fun a ha => (by cases ha), fun x hx => ?_, h.most⟩
  · simpa [keepS] using h.nids e he
  · obtain ⟨i, hi, rfl⟩ := List.mem_iff_getElem.1 hx
    simp only [keepS, List.length_modify] at hi
    have h1 := h.syn _ (List.getElem_mem hi)
    simp only [keepS, List.getElem_modify]
    split
    · exact ⟨Nat.le_refl _, h1.2⟩
    · exact h1
theorem few_keep {S : DS} {k : Nat} (hi : Inv S) (h : Few S k) (m : Nat) : Few (keepS S m) k := by
  refine ⟨?_, ?_, h.refused⟩
  · have := hi.nowLen h
    simpa [keepS] using this
  · simpa [keepS] using h.files
theorem inv_sync {S : DS} (h : Inv S) (s : Nm) : Inv (syncS S s).1 := by
  unfold syncS
  split
  · exact h
  · split
    · exact h
    · split
      · exact inv_arm h
      · exact inv_keep (inv_arm h) _
theorem few_sync {S : DS} {k : Nat} (hi : Inv S) (h : Few S k) (s : Nm) : Few (syncS S s).1 k := by
  unfold syncS
  split
  · exact h
  · split
    · exact h
    · split
      · exact few_arm h
      · exact few_keep (inv_arm hi) (few_arm h) _
theorem inv_done {S : DS} (h : Inv S) {a : DAct} (hd : a.dst = [] ∨ mayN a.dst = true) (hs : a.src ≠ []) (hk : look S.now a.src = some a.file) : Inv (doneS S a) := by
  refine ⟨h.good, h.runs.snoc ⟨hd, .inr ⟨hs, hk⟩⟩, h.kids, fun b hb => ?_, h.syn, h.most⟩
  rcases List.mem_append.1 hb with hb | hb
  · exact h.aids b hb
  · obtain rfl := List.mem_singleton.1 hb
    exact h.nids _ (look_mem hk)
theorem inv_turn {S : DS} (h : Inv S) (s o t : Nm) (ht : t = [] ∨ t = o) : Inv (turnS S s o t).1 := by
  unfold turnS
  split
  · exact h
  · rename_i hr
    split
    · exact h
    · rename_i k hk
      split
      · exact inv_arm h
      · have hm := ready_may (a := s) (b := o) (S := S) (by simpa using hr)
        exact inv_done (inv_arm h) (ht.imp id (fun e => by rw [e]; exact hm.2.2)) (may_ne hm.2.1) hk
theorem few_turn {S : DS} {k : Nat} (h : Few S k) (s o t : Nm) : Few (turnS S s o t).1 (k + 1) := by
  unfold turnS
  split
  · exact h.mono (Nat.le_succ _)
  · split
    · exact h.mono (Nat.le_succ _)
    · split
      · exact (few_arm h).mono (Nat.le_succ _)
      · refine ⟨?_, Nat.le_succ_of_le h.files, Nat.le_succ_of_le h.refused⟩
        have := h.dirs
        simp [doneS, armS]
        omega
theorem fate_lt (fs : List Int) (i : Nat) {c : Nat} (hc : 0 < c) : fateF fs i c < c := by
  unfold fateF
  split
  · exact hc
  · rename_i x _
    have h1 := Int.emod_nonneg x (b := (c : Int)) (by omega)
    have h2 := Int.emod_lt_of_pos x (b := (c : Int)) (by omega)
    omega
theorem cut_le (x : FileD) (fs : List Int) (i : Nat) (h : x.2 ≤ x.1.length) : x.2 ≤ cutN x fs i ∧ cutN x fs i ≤ x.1.length := by
  have := fate_lt fs (i + 1) (c := x.1.length - x.2 + 1) (by omega)
  unfold cutN
  omega
theorem leftNow_names (l : Dir) : names (leftNow l) = names l := by
  unfold names leftNow
  apply List.ext_getElem (by simp)
  intro i h1 h2
  simp
theorem leftNow_ids (l : Dir) : ids (leftNow l) = List.range l.length := by
  unfold ids leftNow
  apply List.ext_getElem (by simp)
  intro i h1 h2
  simp
theorem good_leftNow {l : Dir} (h : GoodD l) : GoodD (leftNow l) := by
  refine ⟨List.pairwise_map.1 ?_, ?_, fun e he => ?_⟩
  · show (names (leftNow l)).Pairwise (· < ·)
    rw [leftNow_names]
    exact names_sorted h.sorted
  · rw [leftNow_ids]; exact List.nodup_range
  · have : e.1 ∈ names (leftNow l) := List.mem_map.2 ⟨e, he, rfl⟩
    rw [leftNow_names] at this
    obtain ⟨f, hf, hfe⟩ := List.mem_map.1 this
    rw [← hfe]
    exact h.named f hf
theorem file_syn {S : DS} (h : Inv S) (k : Nat) : (S.files.getD k ([], 0)).2 ≤ (S.files.getD k ([], 0)).1.length ∧ (S.files.getD k ([], 0)).1.length ≤ S.quota := by
  by_cases hk : k < S.files.length
  · simp only [List.getD_eq_getElem?_getD, List.getElem?_eq_getElem hk, Option.getD_some]
    exact h.syn _ (List.getElem_mem hk)
  · simp [List.getD_eq_getElem?_getD, List.getElem?_eq_none (by omega : S.files.length ≤ k)]
theorem inv_crash {S : DS} (h : Inv S) (fs : List Int) : Inv (crashS S fs) := by
  have hg := good_leftNow (h.lgood fs)
  refine ⟨hg, .nil _, fun e he => ?_, fun a ha => (by cases ha), fun x hx => ?_, h.most⟩
  · have : e.2 ∈ ids (leftNow (leftS S fs)) := List.mem_map.2 ⟨e, he, rfl⟩
    rw [leftNow_ids, List.mem_range] at this
    simpa [crashS, leftFiles] using this
  · obtain ⟨i, hi, rfl⟩ := List.mem_iff_getElem.1 hx
    simp only [crashS, leftFiles, List.getElem_mapIdx, cutF]
    have h1 := file_syn h ((leftS S fs)[i]'(by simpa [crashS, leftFiles] using hi)).2
    have h2 := cut_le _ fs i h1.1
    rw [List.length_take]
    omega
theorem few_crash {S : DS} {k : Nat} (h : Few S k) (fs : List Int) : Few (crashS S fs) k := by
  have := leftLen fs h
  refine ⟨?_, ?_, h.refused⟩
  · simpa [crashS, leftNow] using this
  · simpa [crashS, leftFiles] using this
theorem usedOf_le {fs : List FileD} {q : Nat} (hq : ∀ k, (fs.getD k ([], 0)).1.length ≤ q) (l : Dir) : usedOf fs l ≤ l.length * q := by
  unfold usedOf
  induction l with
  | nil => simp
  | cons x r ih =>
    have := hq x.2
    rw [List.map_cons, List.sum_cons, List.length_cons, Nat.succ_mul]
    omega
theorem used_le {S : DS} (h : Inv S) {k : Nat} (hf : Few S k) : usedS S ≤ k * 1073741824 := by
  refine Nat.le_trans (usedOf_le (q := 1073741824) (fun i => Nat.le_trans (file_syn h i).2 h.most) S.now) (Nat.mul_le_mul_right _ (h.nowLen hf))
#print axioms inv_crash
end Go.Proofs.Ytmlnmjpohkjgbaa
