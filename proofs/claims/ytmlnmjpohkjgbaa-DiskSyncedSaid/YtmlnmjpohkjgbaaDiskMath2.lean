/-
  What follows of a disk's calls, plainly: a second crash changes nothing; what was synced is there behind a crash. No program is named here.
-/
import Derived.Test.YtmlnmjpohkjgbaaDiskMath
namespace Go.Proofs.Ytmlnmjpohkjgbaa

theorem leftNow_twice (l : Dir) : leftNow (leftNow l) = leftNow l := by
  unfold leftNow
  apply List.ext_getElem (by simp)
  intro i h1 h2
  simp
theorem fate_one (fs : List Int) (i : Nat) : fateF fs i 1 = 0 := by
  have := fate_lt fs i (c := 1) (by omega)
  omega
/-- A second crash changes nothing. -/
theorem crash_twice {S : DS} (h : Inv S) (one two : List Int) : crashS (crashS S one) two = crashS S one := by
  have hl : leftS (crashS S one) two = leftNow (leftS S one) := by
    show List.foldl turnD (leftNow (leftS S one)) (List.take _ []) = _
    rw [List.take_nil]; rfl
  have hf : leftFiles (crashS S one).files (leftNow (leftS S one)) two = (crashS S one).files := by
    show leftFiles (leftFiles S.files (leftS S one) one) (leftNow (leftS S one)) two = leftFiles S.files (leftS S one) one
    generalize leftS S one = L
    apply List.ext_getElem (by simp [leftFiles, leftNow])
    intro i h1 h2
    have hi : i < L.length := by simpa [leftFiles] using h2
    have h3 := file_syn h (L[i].2)
    have h4 := cut_le _ one i h3.1
    simp only [leftFiles, leftNow, List.getElem_mapIdx, List.getD_eq_getElem?_getD, List.getElem?_mapIdx, List.getElem?_eq_getElem hi, Option.map_some, Option.getD_some]
    generalize hc : cutN ((S.files[L[i].2]?).getD ([], 0)) one i = c at *
    generalize hx : (S.files[L[i].2]?).getD ([], 0) = x at *
    have h5 : c ≤ x.1.length := by
      rw [← hc]
      simpa [List.getD_eq_getElem?_getD, hx] using h4.2
    have h6 : cutN (cutF x one i) two i = c := by
      have e : (cutF x one i).1.length - (cutF x one i).2 + 1 = 1 := by simp [cutF, hc]; omega
      unfold cutN
      rw [e, fate_one]
      simp [cutF, hc]
    show ((cutF x one i).1.take (cutN (cutF x one i) two i), cutN (cutF x one i) two i) = cutF x one i
    rw [h6]
    simp [cutF, hc, List.take_take]
  show DS.mk _ (leftFiles (crashS S one).files (leftS (crashS S one) two) two) (leftNow (leftS (crashS S one) two)) (leftNow (leftS (crashS S one) two)) [] _ 0 false = _
  rw [hl, hf, leftNow_twice]
  rfl
/-- What is listed can be read. -/
theorem read_listed {S : DS} (h : Inv S) (hd : S.down = false) {s : Nm} (hs : s ∈ listS S) : (readS S s).2 = 0 := by
  unfold listS at hs
  rw [hd] at hs
  simp only [Bool.false_eq_true, if_false] at hs
  obtain ⟨e, he, rfl⟩ := List.mem_map.1 hs
  have hr : readyS S e.1 e.1 = 0 := by unfold readyS; rw [hd, h.now.named e he]; rfl
  unfold readS
  rw [hr, if_neg (by omega), look_of_mem h.now.sorted (f := e.2) he]

/-- All bytes of all files. -/
def total (fs : List FileD) : Nat := (fs.map fun x => x.1.length).sum
theorem total_nil : total [] = 0 := rfl
theorem total_snoc (fs : List FileD) (x : FileD) : total (fs ++ [x]) = total fs + x.1.length := by simp [total]
theorem total_modify (fs : List FileD) (k : Nat) (f : FileD → FileD) {b : Nat} (hf : ∀ x, (f x).1.length ≤ x.1.length + b) : total (fs.modify k f) ≤ total fs + b := by
  induction fs generalizing k with
  | nil => simp [total]
  | cons x r ih =>
    cases k with
    | zero => have := hf x; simp [total]; omega
    | succ k => have := ih k; simp [total] at this ⊢; omega
theorem total_zero (fs : List FileD) (k : Nat) : total (fs.set k ([], 0)) + (fs.getD k ([], 0)).1.length = total fs := by
  induction fs generalizing k with
  | nil => simp [total]
  | cons x r ih =>
    cases k with
    | zero => simp [total]; omega
    | succ k => have := ih k; simp [total] at this ⊢; omega
theorem used_total {l : Dir} (h : (ids l).Nodup) (fs : List FileD) : usedOf fs l ≤ total fs := by
  induction l generalizing fs with
  | nil => simp [usedOf]
  | cons x r ih =>
    have h1 : x.2 ∉ ids r ∧ (ids r).Nodup := List.nodup_cons.1 h
    have h2 := ih h1.2 (fs.set x.2 ([], 0))
    have h3 := total_zero fs x.2
    have h4 : usedOf (fs.set x.2 ([], 0)) r = usedOf fs r := by
      unfold usedOf
      congr 1
      refine List.map_congr_left fun e he => ?_
      have hne : x.2 ≠ e.2 := fun e' => h1.1 (by rw [e']; exact List.mem_map.2 ⟨e, he, rfl⟩)
      simp [List.getD_eq_getElem?_getD, List.getElem?_set_ne hne]
    have h5 : usedOf fs (x :: r) = (fs.getD x.2 ([], 0)).1.length + usedOf fs r := by simp [usedOf]
    omega
theorem used_le_total {S : DS} (h : Inv S) : usedS S ≤ total S.files := used_total h.now.once _
theorem total_crash {S : DS} (h : Inv S) (fs : List Int) : total (crashS S fs).files ≤ total S.files := by
  refine Nat.le_trans ?_ (used_total (h.lgood fs).once S.files)
  show total (leftFiles S.files (leftS S fs) fs) ≤ _
  generalize leftS S fs = L
  have : ∀ (L : Dir) (j : Nat), ((L.mapIdx fun i e => cutF (S.files.getD e.2 ([], 0)) fs (i + j)).map fun x => x.1.length).sum ≤ usedOf S.files L := by
    intro L
    induction L with
    | nil => intro j; simp [usedOf]
    | cons e r ih =>
      intro j
      have h1 := ih (j + 1)
      have h2 := List.length_take_le (cutN (S.files.getD e.2 ([], 0)) fs j) (S.files.getD e.2 ([], 0)).1
      have h2' : (cutF (S.files.getD e.2 ([], 0)) fs j).1.length ≤ (S.files.getD e.2 ([], 0)).1.length := by simp [cutF]; omega
      have h3 : usedOf S.files (e :: r) = (S.files.getD e.2 ([], 0)).1.length + usedOf S.files r := by simp [usedOf]
      have e1 : (fun (i : Nat) (e : Nm × Nat) => cutF (S.files.getD e.2 ([], 0)) fs (i + (j + 1))) = fun i e => cutF (S.files.getD e.2 ([], 0)) fs (i + 1 + j) := by
        funext i e; rw [show i + (j + 1) = i + 1 + j from by omega]
      rw [e1] at h1
      rw [List.mapIdx_cons, List.map_cons, List.sum_cons, h3, Nat.zero_add]
      omega
  exact this L 0
theorem total_append (S : DS) (s : Nm) (b : List UInt8) : total (appendS S s b).1.files ≤ total S.files + b.length := by
  unfold appendS
  split
  · exact Nat.le_add_right _ _
  · split
    · exact Nat.le_add_right _ _
    · split
      · exact Nat.le_add_right _ _
      · unfold putS
        split
        · exact total_modify _ _ _ fun x => by simp
        · show total (S.files ++ [(b, 0)]) ≤ _
          rw [total_snoc]
          exact Nat.le_refl _
theorem total_sync (S : DS) (s : Nm) : total (syncS S s).1.files ≤ total S.files := by
  unfold syncS
  split
  · exact Nat.le_refl _
  · split
    · exact Nat.le_refl _
    · split
      · exact Nat.le_refl _
      · exact total_modify (b := 0) _ _ _ fun x => by simp
theorem total_turn (S : DS) (s o t : Nm) : total (turnS S s o t).1.files ≤ total S.files := by
  unfold turnS
  split
  · exact Nat.le_refl _
  · split
    · exact Nat.le_refl _
    · split
      · exact Nat.le_refl _
      · exact Nat.le_refl _
theorem quota_append (S : DS) (s : Nm) (b : List UInt8) : (appendS S s b).1.quota = S.quota := by
  unfold appendS
  repeat' split
  all_goals first | rfl | (unfold putS; split <;> rfl)
theorem quota_sync (S : DS) (s : Nm) : (syncS S s).1.quota = S.quota := by
  unfold syncS
  repeat' split
  all_goals rfl
theorem quota_turn (S : DS) (s o t : Nm) : (turnS S s o t).1.quota = S.quota := by
  unfold turnS
  repeat' split
  all_goals rfl

/-- A disk that is up and not armed, with room. -/
structure Calm (S : DS) (q t : Nat) : Prop where
  inv : Inv S
  up : S.down = false
  arm : S.arm = 0
  quota : S.quota = q
  tot : total S.files ≤ t
theorem armS_calm {S : DS} (hd : S.down = false) (ha : S.arm = 0) : armS S = S := by
  obtain ⟨a, b, c, d, e, f, g, h⟩ := S
  simp only at hd ha
  subst hd ha
  rfl
theorem append_calm {S : DS} {q t : Nat} (h : Calm S q t) {s : Nm} (hs : mayN s = true) (b : List UInt8) (hq : t + b.length ≤ q) : appendS S s b = (putS S s b, 0) := by
  have hr : readyS S s s = 0 := by unfold readyS; rw [h.up, hs]; rfl
  have hu := used_le_total h.inv
  have := h.tot
  have := h.quota
  have ha : armF S = false := by unfold armF; rw [h.arm]; rfl
  unfold appendS
  rw [hr, if_neg (by omega), if_neg (by omega), ha, armS_calm h.up h.arm]
  rfl
theorem put_up {S : DS} (s : Nm) (b : List UInt8) : (putS S s b).down = S.down ∧ (putS S s b).arm = S.arm ∧ (putS S s b).kept = S.kept := by
  unfold putS; split <;> exact ⟨rfl, rfl, rfl⟩
theorem calm_put {S : DS} {q t : Nat} (h : Calm S q t) {s : Nm} (hs : mayN s = true) (b : List UInt8) (hq : t + b.length ≤ q) : Calm (putS S s b) q (t + b.length) := by
  have e := append_calm h hs b hq
  have h1 := inv_append h.inv s b
  have h2 := total_append S s b
  have h3 := quota_append S s b
  rw [e] at h1 h2 h3
  obtain ⟨u1, u2, _⟩ := put_up (S := S) s b
  exact ⟨h1, u1.trans h.up, u2.trans h.arm, h3.trans h.quota, by have := h.tot; simp only at h2; omega⟩
/-- A name of whose file so much was synced; what of it there is. -/
structure HeldS (S : DS) (s : Nm) (was all : List UInt8) : Prop where
  k : ∃ k n, look S.now s = some k ∧ look S.kept s = some k ∧ S.files[k]? = some (all, n) ∧ was.length ≤ n
  puts : ∀ a ∈ S.acts, a.src = [] ∧ a.dst ≠ s ∧ a.dst ≠ []
theorem look_put {S : DS} (s : Nm) (b : List UInt8) (hs : s ≠ []) : ∃ k, look (putS S s b).now s = some k := by
  unfold putS
  split
  · rename_i k hk; exact ⟨k, hk⟩
  · exact ⟨_, by rw [look_turn, if_pos ⟨hs, rfl⟩]⟩
theorem held_sync {S : DS} {q t : Nat} (h : Calm S q t) {s : Nm} (hs : mayN s = true) {k : Nat} (hk : look S.now s = some k) :
    ∃ was, syncS S s = (keepS S k, 0) ∧ HeldS (keepS S k) s was was ∧ Calm (keepS S k) q t ∧ readS (keepS S k) s = (was, 0) := by
  have hr : readyS S s s = 0 := by unfold readyS; rw [h.up, hs]; rfl
  have ha : armF S = false := by unfold armF; rw [h.arm]; rfl
  have hlt := h.inv.nids _ (look_mem hk)
  have e : syncS S s = (keepS S k, 0) := by
    unfold syncS
    rw [hr, if_neg (by omega), hk, ha, armS_calm h.up h.arm]
    rfl
  have hg : (keepS S k).files[k]? = some ((S.files[k]).1, (S.files[k]).1.length) := by
    simp [keepS, List.getElem?_eq_getElem hlt]
  refine ⟨(S.files[k]).1, e, ⟨⟨k, _, hk, hk, hg, Nat.le_refl _⟩, fun a ha => (by cases ha)⟩, ⟨inv_keep h.inv k, h.up, h.arm, h.quota, ?_⟩, ?_⟩
  · have := total_sync S s
    rw [e] at this
    exact Nat.le_trans this h.tot
  · have hr2 : readyS (keepS S k) s s = 0 := hr
    have hk2 : look (keepS S k).now s = some k := hk
    unfold readS
    rw [hr2, if_neg (by omega), hk2]
    simp [fileAt, List.getD_eq_getElem?_getD, hg]
theorem held_put {S : DS} {s t : Nm} {was all : List UInt8} (hi : Inv S) (h : HeldS S s was all) (ht : mayN t = true) (b : List UInt8) : HeldS (putS S t b) s was (if t = s then all ++ b else all) := by
  obtain ⟨⟨k, n, h1, h2, h3, h4⟩, h5⟩ := h
  unfold putS
  split
  · rename_i j hj
    refine ⟨⟨k, n, h1, h2, ?_, h4⟩, h5⟩
    by_cases e : t = s
    · subst e
      rw [h1] at hj
      cases hj
      rw [if_pos rfl]
      show (S.files.modify k _)[k]? = _
      rw [List.getElem?_modify, h3]
      simp
    · rw [if_neg e]
      have hne : j ≠ k := fun e' => by subst e'; exact e (once_look hi.now.once (look_mem hj) (look_mem h1))
      show (S.files.modify j _)[k]? = _
      rw [List.getElem?_modify, h3]
      simp [hne]
  · rename_i hj
    have hts : t ≠ s := fun e => by subst e; rw [h1] at hj; cases hj
    rw [if_neg hts]
    refine ⟨⟨k, n, ?_, h2, ?_, h4⟩, fun a ha => ?_⟩
    · show look (turnD S.now (newAct S t)) s = _
      have hs0 : s ≠ [] := may_ne (hi.now.named _ (look_mem h1))
      rw [look_turn, if_neg (fun e => hts e.2.symm), if_neg (c := s = (newAct S t).src) hs0]
      exact h1
    · show (S.files ++ [(b, 0)])[k]? = _
      rw [List.getElem?_append_left (List.getElem?_eq_some_iff.1 h3).1, h3]
    · rcases List.mem_append.1 ha with ha | ha
      · exact h5 a ha
      · obtain rfl := List.mem_singleton.1 ha
        exact ⟨rfl, hts, may_ne ht⟩
theorem look_fold_puts {as : List DAct} {s : Nm} (hs : s ≠ []) (h : ∀ a ∈ as, a.src = [] ∧ a.dst ≠ s ∧ a.dst ≠ []) (d : Dir) : look (as.foldl turnD d) s = look d s := by
  induction as generalizing d with
  | nil => rfl
  | cons a as ih =>
    obtain ⟨h1, h2, h3⟩ := h a List.mem_cons_self
    rw [List.foldl_cons, ih (fun b hb => h b (List.mem_cons_of_mem _ hb)), look_turn, if_neg (fun e => h2 e.2.symm), if_neg (by rw [h1]; exact hs)]
/-- Behind a crash it is there. -/
theorem held_crash {S : DS} {s : Nm} {was all : List UInt8} (hi : Inv S) (h : HeldS S s was all) (fs : List Int) :
    ∃ n, was.length ≤ n ∧ n ≤ all.length ∧ readS (crashS S fs) s = (all.take n, 0) := by
  obtain ⟨⟨k, m, h1, h2, h3, h4⟩, h5⟩ := h
  have hm := hi.now.named _ (look_mem h1)
  have hl : look (leftS S fs) s = some k := by
    unfold leftS
    rw [look_fold_puts (may_ne hm) (fun a ha => h5 a (List.mem_of_mem_take ha))]
    exact h2
  obtain ⟨i, hi2, he⟩ := List.mem_iff_getElem.1 (look_mem hl)
  have hin : look (crashS S fs).now s = some i := by
    refine look_of_mem (inv_crash hi fs).now.sorted ?_
    refine List.mem_iff_getElem.2 ⟨i, by simpa [crashS, leftNow] using hi2, ?_⟩
    simp [crashS, leftNow, he]
  have hr : readyS (crashS S fs) s s = 0 := by unfold readyS; rw [hm]; rfl
  have hf := file_syn hi k
  simp only [List.getD_eq_getElem?_getD, h3, Option.getD_some] at hf
  have hc := cut_le (all, m) fs i hf.1
  refine ⟨cutN (all, m) fs i, Nat.le_trans h4 hc.1, hc.2, ?_⟩
  unfold readS
  rw [hr, if_neg (by omega), hin]
  have : fileAt (crashS S fs) i = cutF (all, m) fs i := by
    simp [fileAt, crashS, leftFiles, List.getD_eq_getElem?_getD, List.getElem?_mapIdx, List.getElem?_eq_getElem hi2, he, h3]
  show ((fileAt (crashS S fs) i).1, 0) = _
  rw [this]
  rfl
#print axioms held_crash
#print axioms crash_twice
end Go.Proofs.Ytmlnmjpohkjgbaa
