/-
  What a call on the reference's disk hands back; steps on what it holds.
-/
import Derived.Test.YtemphljkfpkgmaaRefCopy
import Derived.Test.YtemphljkfpkgmaaRefTexts
namespace Go.Proofs.Ytemphljkfpkgmaa
open Go.RowKit

/-- A disk by value in blocks made since w alone: whoever leaves these as they are leaves it as it is. -/
def RefFar (w w' : World) (V' : RVal) (S' : DS) : Prop := ∀ W'' : World, (∀ k, w.heap.size ≤ k → k < w'.heap.size → W''.heap[k]? = w'.heap[k]?) → RefIn W'' V' S'
def RefNew (w w' : World) (V V' : RVal) (S S' : DS) : Prop := RefFar w w' V' S' ∨ (V' = V ∧ ∀ W, RefIn W V S → RefIn W V S')
theorem holds_far {w w' : World} {base : Nat} {L : List Hold} {V' : RVal} {S' : DS} (H : Holds w' base L) (hb : w.heap.size ≤ base) (h : ∀ W'', Holds W'' base L → RefIn W'' V' S') : RefFar w w' V' S' :=
  fun W'' hW => h W'' (H.alike fun k h1 h2 => hW k (Nat.le_trans hb h1) h2)
theorem own_far {w w' : World} {base : Nat} {V' : RVal} {S' : DS} (H : RefOwn w' base V' S') (hb : w.heap.size ≤ base) : RefFar w w' V' S' := by
  obtain ⟨R, h1, h2⟩ := H
  exact holds_far h1 hb fun W'' h => RefOwn.inn ⟨R, h, h2⟩
theorem RefNew.inn {w w' : World} {V V' : RVal} {S S' : DS} (h : RefNew w w' V V' S S') (hi : RefIn w' V S) : RefIn w' V' S' := by
  rcases h with h | ⟨rfl, h⟩
  · exact h w' (fun _ _ _ => rfl)
  · exact h _ hi
/-- What a call hands back: a disk, a number. -/
def RefEnd (w : World) (V : RVal) (S : DS) (r : DS × Nat) (e : Ending) (w' : World) : Prop := ∃ V', e = .returned (.tuple #[.agg (refC V' r.1), .int .i64 (r.2 : Int)]) ∧ V'.made = V.made ∧ V'.q = V.q ∧ RefNew w w' V V' S r.1 ∧ Below w.heap.size w w'
section
variable {w w' : World} {base : Nat} {L : List Hold} {h : Hold}
/-- A store into the memory of one leaves the others. -/
theorem Holds.setOther (H : Holds w base (h :: L)) {g : Nat} (hg : h.v.ownBlock = some g) (o : Nat) (u : Value) : Holds (w.setCell ⟨g, o, none⟩ u) base L := by
  obtain ⟨h1, h2⟩ := List.pairwise_cons.1 H.two
  refine ⟨fun x hx => ?_, h2⟩
  obtain ⟨h3, h4⟩ := H.own x (List.mem_cons_of_mem _ hx)
  refine ⟨h3, ?_⟩
  rcases h4 with h4 | ⟨b, cap, cur, hv, hb, hh, r⟩
  · exact .inl h4
  · refine .inr ⟨b, cap, cur, hv, hb, ?_, r⟩
    have hne : b ≠ g := fun e => h1 x hx g hg (by rw [hv, e]; rfl)
    rw [Below.heap_setCell _ _ _ _ hne]; exact hh
end
theorem Holds.setOwn {w : World} {base : Nat} {L : List Hold} {h h' : Hold} (H : Holds w base (h :: L)) {g : Nat} (hg : h.v.ownBlock = some g) (o : Nat) (u : Value) (hv : h'.v = h.v) (ho : h'.At (w.setCell ⟨g, o, none⟩ u) base) : Holds (w.setCell ⟨g, o, none⟩ u) base (h' :: L) := by
  obtain ⟨h1, h2⟩ := List.pairwise_cons.1 H.two
  refine ⟨fun x hx => ?_, List.pairwise_cons.2 ⟨fun x hx => hv ▸ h1 x hx, h2⟩⟩
  rcases List.mem_cons.1 hx with rfl | hx
  · exact ho
  · exact (H.setOther hg o u).own x hx
theorem keep_fst (fs : List FileD) (k : Nat) : (fs.modify k fun x => (x.1, x.1.length)).map (·.1) = fs.map (·.1) := by
  refine List.ext_getElem (by simp) fun i h1 h2 => ?_
  simp only [List.getElem_map, List.getElem_modify]
  split <;> rfl
theorem keep_snd (fs : List FileD) (k : Nat) (hk : k < fs.length) : (fs.modify k fun x => (x.1, x.1.length)).map (·.2) = (fs.map (·.2)).set k (fs.getD k ([], 0)).1.length := by
  refine List.ext_getElem (by simp) fun i h1 h2 => ?_
  simp only [List.getElem_map, List.getElem_modify, List.getElem_set]
  split
  · rename_i e
    subst e
    simp [hk]
  · rfl
theorem put_fst (fs : List FileD) (k : Nat) (b : List UInt8) (hk : k < fs.length) : (fs.modify k fun x => (x.1 ++ b, x.2)).map (·.1) = (fs.map (·.1)).set k ((fs.getD k ([], 0)).1 ++ b) := by
  refine List.ext_getElem (by simp) fun i h1 h2 => ?_
  simp only [List.getElem_map, List.getElem_modify, List.getElem_set]
  split
  · rename_i e
    subst e
    simp [hk]
  · rfl
theorem put_snd (fs : List FileD) (k : Nat) (b : List UInt8) : (fs.modify k fun x => (x.1 ++ b, x.2)).map (·.2) = fs.map (·.2) := by
  refine List.ext_getElem (by simp) fun i h1 h2 => ?_
  simp only [List.getElem_map, List.getElem_modify]
  split <;> rfl
theorem syncS_bad {S : DS} {s : Nm} {z : Nat} (h : readyS S s s = z) (hz : z ≠ 0) : syncS S s = (S, z) := by unfold syncS; rw [h, if_pos hz]
theorem syncS_none {S : DS} {s : Nm} (h : readyS S s s = 0) (hk : look S.now s = none) : syncS S s = (S, 4) := by unfold syncS; rw [h, if_neg (by simp), hk]
theorem syncS_arm {S : DS} {s : Nm} {k : Nat} (h : readyS S s s = 0) (hk : look S.now s = some k) (ha : armF S = true) : syncS S s = (armS S, 9) := by unfold syncS; rw [h, if_neg (by simp), hk]; simp [ha]
theorem syncS_ok {S : DS} {s : Nm} {k : Nat} (h : readyS S s s = 0) (hk : look S.now s = some k) (ha : armF S = false) : syncS S s = (keepS (armS S) k, 0) := by unfold syncS; rw [h, if_neg (by simp), hk]; simp [ha]
theorem turnS_bad {S : DS} {s o t : Nm} {z : Nat} (h : readyS S s o = z) (hz : z ≠ 0) : turnS S s o t = (S, z) := by unfold turnS; rw [h, if_pos hz]
theorem turnS_none {S : DS} {s o t : Nm} (h : readyS S s o = 0) (hk : look S.now s = none) : turnS S s o t = (S, 4) := by unfold turnS; rw [h, if_neg (by simp), hk]
theorem turnS_arm {S : DS} {s o t : Nm} {k : Nat} (h : readyS S s o = 0) (hk : look S.now s = some k) (ha : armF S = true) : turnS S s o t = (armS S, 9) := by unfold turnS; rw [h, if_neg (by simp), hk]; simp [ha]
theorem turnS_ok {S : DS} {s o t : Nm} {k : Nat} (h : readyS S s o = 0) (hk : look S.now s = some k) (ha : armF S = false) : turnS S s o t = (doneS (armS S) ⟨s, t, k⟩, 0) := by unfold turnS; rw [h, if_neg (by simp), hk]; simp [ha]
theorem RefIn.arm {w : World} {V : RVal} {S : DS} (h : RefIn w V S) : RefIn w V (armS S) := ⟨h.files, h.synced, h.now, h.kept, h.acts⟩
#print axioms Holds.setOther
end Go.Proofs.Ytemphljkfpkgmaa
