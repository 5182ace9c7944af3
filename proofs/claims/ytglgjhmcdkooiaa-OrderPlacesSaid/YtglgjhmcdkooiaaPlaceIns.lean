/-
  Sorting places by putting one more where it belongs, plainly.
-/
import Derived.Test.YtglgjhmcdkooiaaSortMathG
namespace Go.Proofs.Ytglgjhmcdkooiaa

/-- How far one more place has come: what stands ahead of k is as it was, what stood behind it has moved on by one. -/
structure InsN (K : List KeyV) (S : List Nat) (x : Nat) (k : Nat) (R : List Nat) : Prop where
  le : k ≤ S.length
  len : R.length = S.length + 1
  head : R.take k = S.take k
  rest : R.drop (k + 1) = S.drop k
  gt : ∀ b ∈ S.drop k, 0 < keyF (kOf K b) (kOf K x)

theorem InsN.start (K : List KeyV) (S : List Nat) (x y : Nat) : InsN K S x S.length (S ++ [y]) :=
  ⟨Nat.le_refl _, by simp, by simp, by simp, fun b hb => by simp at hb⟩
theorem getD_takeN {L : List Nat} {i k : Nat} (h : i < k) : (L.take k).getD i 0 = L.getD i 0 := by
  simp [List.getD_eq_getElem?_getD, h]
theorem InsN.read {K : List KeyV} {S R : List Nat} {x k : Nat} (h : InsN K S x k R) (hk : 0 < k) : R.getD (k - 1) 0 = S.getD (k - 1) 0 := by
  have h1 : (R.take k).getD (k - 1) 0 = (S.take k).getD (k - 1) 0 := by rw [h.head]
  rwa [getD_takeN (by omega), getD_takeN (by omega)] at h1
theorem drop_getDN {L : List Nat} {k : Nat} (h : k < L.length) : L.drop k = L.getD k 0 :: L.drop (k + 1) := by
  rw [List.drop_eq_getElem_cons h]
  simp [h]
theorem InsN.step {K : List KeyV} {S R : List Nat} {x k : Nat} (h : InsN K S x k R) (hk : 0 < k) (hc : 0 < keyF (kOf K (S.getD (k - 1) 0)) (kOf K x)) : InsN K S x (k - 1) (R.set k (S.getD (k - 1) 0)) := by
  have hle := h.le
  have hlen := h.len
  have ed : S.drop (k - 1) = S.getD (k - 1) 0 :: S.drop k := by
    rw [drop_getDN (L := S) (k := k - 1) (by omega), show k - 1 + 1 = k from by omega]
  refine ⟨by omega, by rw [List.length_set]; exact hlen, ?_, ?_, fun b hb => ?_⟩
  · rw [List.take_set_of_le (by omega)]
    have h1 : (R.take k).take (k - 1) = (S.take k).take (k - 1) := by rw [h.head]
    rwa [List.take_take, List.take_take, show min (k - 1) k = k - 1 from by omega] at h1
  · rw [show k - 1 + 1 = k from by omega]
    have e : (R.set k (S.getD (k - 1) 0)).drop k = S.getD (k - 1) 0 :: R.drop (k + 1) := by
      rw [List.set_eq_take_append_cons_drop, if_pos (by omega), List.drop_append]
      have : (R.take k).length = k := by simp; omega
      rw [List.drop_eq_nil_of_le (by omega), this, Nat.sub_self]
      rfl
    rw [e, h.rest, ed]
  · rw [ed] at hb
    rcases List.mem_cons.1 hb with rfl | hb
    · exact hc
    · exact h.gt b hb
/-- Put where it belongs: in order, and the places up to it. -/
theorem InsN.next {K : List KeyV} {S R : List Nat} {k i : Nat} (h : InsN K S i k R) (hu : UpG (plB K) S) (hp : S.Perm (List.range i)) (hc : k = 0 ∨ keyF (kOf K (S.getD (k - 1) 0)) (kOf K i) ≤ 0) :
    UpG (plB K) (R.set k i) ∧ (R.set k i).Perm (List.range (i + 1)) := by
  have hle := h.le
  have hlen := h.len
  have e : R.set k i = S.take k ++ i :: S.drop k := by
    rw [List.set_eq_take_append_cons_drop, if_pos (by omega), h.head, h.rest]
  have hlt : ∀ b ∈ S, b < i := fun b hb => by simpa using hp.mem_iff.1 hb
  have hs : UpG (plB K) (S.take k ++ S.drop k) := by rw [List.take_append_drop]; exact hu
  obtain ⟨h1, h2, h3⟩ := List.pairwise_append.1 hs
  rw [e]
  refine ⟨List.pairwise_append.2 ⟨h1, List.pairwise_cons.2 ⟨fun b hb => ?_, h2⟩, fun a ha b hb => ?_⟩, ?_⟩
  · have g := h.gt b hb
    have an := keyF_anti (kOf K i) (kOf K b)
    unfold plB
    simp only [Bool.or_eq_true, Bool.and_eq_true, decide_eq_true_eq]
    omega
  · rcases List.mem_cons.1 hb with rfl | hb
    · rcases hc with hc | hc
      · subst hc; simp at ha
      · have hk : 0 < k := by
          rcases Nat.eq_zero_or_pos k with h0 | h0
          · subst h0; simp at ha
          · exact h0
        have hkl : k - 1 < S.length := by omega
        have eg : S.getD (k - 1) 0 = S[k - 1] := by simp [hkl]
        have hm : S.getD (k - 1) 0 ∈ S := by rw [eg]; exact List.getElem_mem _
        have hy : plB K (S.getD (k - 1) 0) b = true := by rw [plB_lt K (hlt _ hm)]; simpa using hc
        have et : S.take k = S.take (k - 1) ++ [S.getD (k - 1) 0] := by
          have := List.take_succ_eq_append_getElem hkl
          rw [show k - 1 + 1 = k from by omega] at this
          rw [this, eg]
        rw [et] at h1 ha
        rcases List.mem_append.1 ha with ha | ha
        · exact plB_trans K _ _ _ ((List.pairwise_append.1 h1).2.2 a ha _ (by simp)) hy
        · simp only [List.mem_singleton] at ha
          rw [ha]; exact hy
    · exact h3 a ha b hb
  · rw [List.range_succ]
    refine List.perm_middle.trans ?_
    rw [List.take_append_drop]
    exact (List.Perm.cons i hp).trans (List.perm_append_singleton i _).symm
#print axioms InsN.next
#print axioms InsN.step
end Go.Proofs.Ytglgjhmcdkooiaa
