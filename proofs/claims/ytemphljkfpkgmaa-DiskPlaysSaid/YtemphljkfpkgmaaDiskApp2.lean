/-
  The walk of Append's closure, on.
-/
import Derived.Test.YtemphljkfpkgmaaDiskApp
namespace Go.Proofs.Ytemphljkfpkgmaa
open Go.RowKit Go.Maps

theorem usedOf_perm {fs : List FileD} {l m : Dir} (h : l.Perm m) : usedOf fs l = usedOf fs m := (h.map _).sum_nat
theorem usedOf_cons (fs : List FileD) (e : Nm × Nat) (l : Dir) : usedOf fs (e :: l) = (fs.getD e.2 ([], 0)).1.length + usedOf fs l := by simp [usedOf]
theorem ins_perm (l : Dir) (s : Nm) (f : Nat) : (ins l s f).Perm ((s, f) :: l) := by
  induction l with
  | nil => exact List.Perm.refl _
  | cons x r ih =>
    obtain ⟨n, g⟩ := x
    unfold ins
    split
    · exact (List.Perm.cons _ ih).trans (List.Perm.swap _ _ _)
    · exact List.Perm.refl _
theorem usedOf_ins (fs : List FileD) (l : Dir) (s : Nm) (f : Nat) : usedOf fs (ins l s f) = (fs.getD f ([], 0)).1.length + usedOf fs l := by
  rw [usedOf_perm (ins_perm l s f), usedOf_cons]
theorem without_none {l : Dir} {s : Nm} (h : look l s = none) : without l s = l := List.filter_eq_self.2 fun e he => by simpa using look_none.1 h e he
theorem usedOf_without {l : Dir} (hs : SortedD l) (fs : List FileD) (s : Nm) : usedOf fs (without l s) + (match look l s with | none => 0 | some k => (fs.getD k ([], 0)).1.length) = usedOf fs l := by
  induction l with
  | nil => rfl
  | cons e r ih =>
    obtain ⟨n, f⟩ := e
    have h1 := List.pairwise_cons.1 hs
    rw [look_cons]
    by_cases h : n = s
    · subst h
      rw [if_pos rfl]
      have h2 : without ((n, f) :: r) n = r := by
        unfold without
        rw [List.filter_cons_of_neg (by simp)]
        exact List.filter_eq_self.2 fun e he => by
          have := h1.1 e he
          simp only [ne_eq, decide_eq_true_eq]
          intro e2; rw [e2] at this; exact nm_irrefl _ this
      rw [h2, usedOf_cons]
      simp only
      omega
    · rw [if_neg h]
      have h2 : without ((n, f) :: r) s = (n, f) :: without r s := by unfold without; rw [List.filter_cons_of_pos (by simpa using h)]
      rw [h2, usedOf_cons, usedOf_cons]
      have := ih h1.2
      omega
theorem usedOf_grow {l : Dir} (h : (ids l).Nodup) (fs : List FileD) {k : Nat} (hk : k ∈ ids l) (hlt : k < fs.length) (b : List UInt8) : usedOf (fs.modify k fun x => (x.1 ++ b, x.2)) l = usedOf fs l + b.length := by
  have get : ∀ i, (fs.modify k fun x => (x.1 ++ b, x.2)).getD i ([], 0) = if i = k then ((fs.getD k ([], 0)).1 ++ b, (fs.getD k ([], 0)).2) else fs.getD i ([], 0) := by
    intro i
    simp only [List.getD_eq_getElem?_getD, List.getElem?_modify]
    by_cases e : i = k
    · subst e; simp [List.getElem?_eq_getElem hlt]
    · have e2 : ¬ k = i := fun h => e h.symm
      rw [if_neg e]; simp [e2]
  have none_ : ∀ r : Dir, k ∉ ids r → usedOf (fs.modify k fun x => (x.1 ++ b, x.2)) r = usedOf fs r := by
    intro r hr
    unfold usedOf
    congr 1
    refine List.map_congr_left fun e he => ?_
    rw [get, if_neg (fun e2 => hr (List.mem_map.2 ⟨e, he, e2⟩))]
  induction l with
  | nil => cases hk
  | cons e r ih =>
    have h1 : e.2 ∉ ids r ∧ (ids r).Nodup := List.nodup_cons.1 h
    rw [usedOf_cons, usedOf_cons, get]
    by_cases he : e.2 = k
    · rw [if_pos he, none_ r (he ▸ h1.1), he]
      simp only [List.length_append]
      omega
    · rw [if_neg he]
      have hk2 : k ∈ ids r := by
        rcases List.mem_cons.1 hk with h | h
        · exact absurd h.symm he
        · exact h
      rw [ih h1.2 hk2]
      omega
theorem used_add {S : DS} (h : Inv S) {s : Nm} {k : Nat} (hk : look S.now s = some k) (b : List UInt8) : usedS (addF S k b) = usedS S + b.length :=
  usedOf_grow h.now.once S.files (List.mem_map.2 ⟨_, look_mem hk, rfl⟩) (h.nids _ (look_mem hk)) b
/-- With a file more, without bytes, under a new name. -/
def moreS (S : DS) : DS := { S with files := S.files ++ [([], 0)] }
theorem modify_last {α : Type} (l : List α) (x : α) (f : α → α) : (l ++ [x]).modify l.length f = l ++ [f x] := by
  induction l with
  | nil => rfl
  | cons y r ih => simp [ih]
theorem put_more {S : DS} {s : Nm} (hk : look S.now s = none) (b : List UInt8) : putS S s b = addF (doneS (moreS S) (newAct S s)) S.files.length b := by
  unfold putS
  rw [hk]
  simp [addF, doneS, moreS, newAct, modify_last]
theorem used_more {S : DS} (h : Inv S) {s : Nm} (hs : s ≠ []) (hk : look S.now s = none) (b : List UInt8) : usedS (putS S s b) = usedS S + b.length := by
  unfold putS
  rw [hk]
  show usedOf (S.files ++ [(b, 0)]) (turnD S.now (newAct S s)) = usedOf S.files S.now + b.length
  have e1 : look S.now (newAct S s).src = none := look_none.2 fun e he => may_ne (h.now.named e he)
  unfold turnD
  rw [if_neg (show (newAct S s).dst ≠ [] from hs), without_none e1, without_none (s := (newAct S s).dst) hk, usedOf_ins]
  have e2 : usedOf (S.files ++ [(b, 0)]) S.now = usedOf S.files S.now := by
    unfold usedOf
    congr 1
    refine List.map_congr_left fun e he => ?_
    simp [List.getD_eq_getElem?_getD, List.getElem?_append_left (h.nids e he)]
  rw [e2]
  simp [newAct, List.getD_eq_getElem?_getD]
  omega
#print axioms used_more
end Go.Proofs.Ytemphljkfpkgmaa
