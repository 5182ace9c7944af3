/-
  One file of a disk's row grows.
-/
import Derived.Test.YtemphljkfpkgmaaRefTurnW
import Derived.Test.YtemphljkfpkgmaaDiskApp
namespace Go.Proofs.Ytemphljkfpkgmaa
open Go.RowKit

theorem rows_up {w : World} {base : Nat} {E : TypeId} {k n : Nat} {v : Value} {cs : List Value} (h : w.ownsRow 0 E k v n cs) (hb : ∀ g, v.ownBlock = some g → base ≤ g) : w.ownsRow base E k v n cs := by
  obtain ⟨h1, h2⟩ := h
  refine ⟨h1, ?_⟩
  rcases h2 with h2 | ⟨g, cap, cur, hv, _, r⟩
  · exact .inl h2
  · exact .inr ⟨g, cap, cur, hv, hb g (by rw [hv]; rfl), r⟩
theorem perm_mid {α : Type} (A M1 M2 : List α) (r x : α) : (A ++ r :: (M1 ++ x :: M2)).Perm (r :: x :: (A ++ (M1 ++ M2))) := by
  refine List.perm_middle.trans (List.Perm.cons _ ?_)
  rw [← List.append_assoc, ← List.append_assoc]
  exact List.perm_middle
theorem put_rows {w w1 : World} {base : Nat} {A : List Hold} {gF nf cf : Nat} {R1 R2 : List BRow} {x x' : BRow} (H : Holds w base (A ++ hG rowK 35 (.slice (some ⟨gF, 0, none⟩) nf cf) (R1 ++ x :: R2) :: (R1 ++ x :: R2).map hB))
    (hg : w.grownBy w1 x.v.ownBlock) (ho : Own w1 0 x'.v x'.l) (ht : Told w x.v x'.v) (hbase : base ≤ w.heap.size) :
    Holds (w1.setCell ⟨gF, R1.length, none⟩ x'.v) base (A ++ hG rowK 35 (.slice (some ⟨gF, 0, none⟩) nf cf) (R1 ++ x' :: R2) :: (R1 ++ x' :: R2).map hB) := by
  rw [List.map_append, List.map_cons] at H ⊢
  have h1 := (H.perm (perm_mid _ _ _ _ _)).perm (List.Perm.swap _ _ _)
  have hx : ∀ g, x'.v.ownBlock = some g → base ≤ g := fun g hg' => by
    rcases ht with e | ⟨m, hm, hle⟩
    · rw [e] at hg'
      exact (h1.lt List.mem_cons_self g hg').1
    · rw [hm] at hg'
      have := Option.some.inj hg'
      omega
  have h2 := (h1.put (h' := hB x') hg (rows_up ho hx) ht).perm (List.Perm.swap _ _ _)
  have hr : OwnG rowK 35 w1 base (.slice (some ⟨gF, 0, none⟩) nf cf) (R1 ++ x :: R2) := h2.gG (fun _ => trivial) List.mem_cons_self
  have hn := hr.len
  rw [List.length_append, List.length_cons] at hn
  have h3 := OwnG.store hr (j := R1.length) (i := 0) (by omega) (by decide) x'.v x' rfl trivial
  have hk1 : rowK.k = 1 := rfl
  rw [hk1, Nat.mul_one, Nat.add_zero] at h3
  have e : (R1 ++ x :: R2).set R1.length x' = R1 ++ x' :: R2 := by simp
  rw [e] at h3
  exact (h2.setOwn (h' := hG rowK 35 (.slice (some ⟨gF, 0, none⟩) nf cf) (R1 ++ x' :: R2)) (g := gF) rfl _ _ rfl h3.1).perm (perm_mid _ _ _ _ _).symm
theorem split_at {R : List BRow} {k : Nat} (hk : k < R.length) : ∃ R1 x R2, R = R1 ++ x :: R2 ∧ R1.length = k := ⟨R.take k, R[k], R.drop (k + 1), by simp, by simp; omega⟩
#print axioms put_rows
end Go.Proofs.Ytemphljkfpkgmaa
