/-
  A copy of a slice of keys: all of it appended to an empty one made anew.
-/
import Derived.Test.YtglgjhmcdkooiaaKeysAt
import Derived.Test.YtglgjhmcdkooiaaIdList
namespace Go.Proofs.Ytglgjhmcdkooiaa
open Go.RowKit

def kflat (K : List KeyV) : List Value := K.flatMap keyL
theorem kflat_length {K : List KeyV} (h : ∀ k ∈ K, k.c.length = 32) : (kflat K).length = K.length * 34 := by
  induction K with
  | nil => rfl
  | cons k T ih =>
    have h1 := keyL_length (h k (by simp))
    have h2 := ih (fun x hx => h x (List.mem_cons_of_mem _ hx))
    unfold kflat at *
    rw [List.flatMap_cons, List.length_append, h1, h2, List.length_cons]
    omega
theorem kflat_at {K : List KeyV} (h : ∀ k ∈ K, k.c.length = 32) : ∀ (j i : Nat), j < K.length → i < 34 → (kflat K)[j * 34 + i]? = (keyL (kOf K j))[i]? := by
  induction K with
  | nil => intro j i hj; simp at hj
  | cons k T ih =>
    intro j i hj hi
    have h1 := keyL_length (h k (by simp))
    have e : kflat (k :: T) = keyL k ++ kflat T := rfl
    rw [e]
    cases j with
    | zero =>
      rw [Nat.zero_mul, Nat.zero_add, List.getElem?_append_left (by omega)]
      rfl
    | succ j =>
      rw [List.getElem?_append_right (by omega), h1, show (j + 1) * 34 + i - 34 = j * 34 + i from by omega]
      rw [ih (fun x hx => h x (List.mem_cons_of_mem _ hx)) j i (by simpa using hj) hi]
      rfl
theorem kflat_one (K : List KeyV) : ∀ v ∈ kflat K, v.oneCell' = true := fun v hv => by
  obtain ⟨k, _, hk⟩ := List.mem_flatMap.1 hv
  unfold keyL at hk
  simp only [List.mem_cons, List.mem_append, List.mem_map, List.not_mem_nil, or_false] at hk
  rcases hk with rfl | ⟨b, _, rfl⟩ | rfl <;> rfl
theorem infoK : (Try.prog.info? 33).map (fun i => (i.zero, i.size, i.bytes)) = some (some (.agg (keyC ⟨0, idZero, 0⟩)), 34, 48) := by kernel_rfl

theorem keys_of {w : World} {base : Nat} {v : Value} {K : List KeyV} (hw : ∀ k ∈ K, k.c.length = 32) (h : w.ownsRow base 33 34 v K.length (kflat K)) : ∃ a c, v = .slice a K.length c ∧ KeysAt w a K.length c K := by
  have h0' := h
  obtain ⟨h1, h2⟩ := h
  rcases h2 with ⟨rfl, hn⟩ | ⟨g, cap, cur, rfl, hb, hg, hn, hm, hs, ht⟩
  · have : K = [] := List.length_eq_zero_iff.1 hn
    subst this
    exact ⟨none, 0, rfl, rfl, Nat.le_refl _, by omega, (fun _ h => by cases h), .inl ⟨rfl, rfl⟩⟩
  · refine ⟨_, _, rfl, rfl, hn, by unfold maxLen at hm; omega, hw, .inr ⟨g, 0, rfl, fun j hj i u hu => ?_⟩⟩
    have hi : i < 34 := by
      have h3 := (List.getElem?_eq_some_iff.1 hu).1
      have h4 : (kOf K j).c.length = 32 := by
        have : kOf K j = K[j] := by unfold kOf; simp [hj]
        rw [this]; exact hw _ (List.getElem_mem hj)
      rwa [keyL_length h4] at h3
    have := h0'.cells (g := g) rfl (j * 34 + i) u (by rw [kflat_at hw j i hj hi]; exact hu)
    rw [Addr.add_lit] at this
    rw [Nat.zero_add] at this ⊢
    exact this

theorem wl_copyK {w : World} {ops : Array Oper} {rest : List Oper} {o : Oper} {a : Act} {Q : Exit → Act → World → Prop} (hgd : o.guard = none) (s x : Operand)
    (ho : o.op = .call { callee := .builtin .append, args := #[s, x], argTypes := #[22, 22] })
    (sa : Option Addr) (n c : Nat) (K : List KeyV) (hs : a.eval s = .slice (some ⟨w.heap.size, 0, none⟩) 0 0) (hx : a.eval x = .slice sa n c) (hsrc : KeysAt w sa n c K) (hn : n ≤ 1000000000)
    (h : ∀ a' c' w', KeysAt w' a' n c' K → Below w.heap.size w w' → wpList Try.prog ops Q rest (a.put o.dst (.slice a' n c')) w') : wpList Try.prog ops Q (o :: rest) a (w.alloc (.cells #[] 33)) := by
  have hbel : Below w.heap.size w (w.alloc (.cells #[] 33)) := (Below.refl _ _).alloc (Nat.le_refl _) _
  have hown : (w.alloc (.cells #[] 33)).ownsRow w.heap.size 33 34 (.slice (some ⟨w.heap.size, 0, none⟩) 0 0) 0 [] :=
    World.ownsRow_lit w #[] 0 (Nat.le_refl _) (Nat.zero_le _) rfl
  have hsz : w.heap.size ≤ (w.alloc (.cells #[] 33)).heap.size := by simp
  obtain ⟨i0, hi, hz0, hz1, hz2⟩ := info_parts infoK
  obtain ⟨h1, h2, h3, h5, h4⟩ := hsrc.below hbel
  have fin : ∀ v' w', w'.ownsRow w.heap.size 33 34 v' K.length (kflat K) → (w.alloc (.cells #[] 33)).grownBy w' (some w.heap.size) → wpList Try.prog ops Q rest (a.put o.dst v') w' := by
    intro v' w' hO hg
    obtain ⟨a', c', rfl, hat⟩ := keys_of h5 hO
    rw [h1] at hat ⊢
    exact h a' c' w' hat (hbel.grown hg hsz (fun k hk => by cases hk; exact Nat.le_refl _))
  rcases h4 with ⟨rfl, rfl⟩ | ⟨b, off, rfl, hc⟩
  · have : K = [] := List.length_eq_zero_iff.1 h1
    subst this
    cases sa with
    | none =>
      refine wpList_append_own_none hgd s x 22 ho w.heap.size 33 i0 34 Try.underlying22 hi _ 0 [] hs hown hx ?_
      exact fin _ _ hown ⟨rfl, rfl, rfl, Nat.le_refl _, fun _ _ _ => rfl⟩
    | some ad =>
      refine wpList_append_own _ hgd s x 22 ho w.heap.size 33 i0 (.agg (keyC ⟨0, idZero, 0⟩)) 34 48 Try.underlying22 hi hz0 hz1 hz2 rfl (by decide) _ 0 [] hs hown
        ad 0 0 [] hx (by simp) (by simp) (by simp) (by unfold maxLen; omega) (by omega) hsz ?_
      intro v' w' h6 h7 _
      exact fin v' w' (by simpa [kflat] using h6) h7
  · refine wpList_append_own _ hgd s x 22 ho w.heap.size 33 i0 (.agg (keyC ⟨0, idZero, 0⟩)) 34 48 Try.underlying22 hi hz0 hz1 hz2 rfl (by decide) _ 0 [] hs hown
      ⟨b, off, none⟩ n c (kflat K) hx (by rw [kflat_length h5, h1]) ?_ (kflat_one K) (by unfold maxLen; omega) (by omega) hsz ?_
    · intro j u hu
      rw [Addr.add_lit]
      have hjl : j < n * 34 := by
        have := (List.getElem?_eq_some_iff.1 hu).1
        rwa [kflat_length h5, h1] at this
      have hd : j = j / 34 * 34 + j % 34 := by omega
      have hu2 := kflat_at h5 (j / 34) (j % 34) (by omega) (Nat.mod_lt _ (by omega))
      rw [← hd, hu] at hu2
      have := hc (j / 34) (by omega) (j % 34) u hu2.symm
      rwa [Nat.add_assoc, ← hd] at this
    · intro v' w' h6 h7 _
      refine fin v' w' ?_ h7
      have e : 0 + n = K.length := by omega
      rw [e] at h6
      exact h6
#print axioms wl_copyK
end Go.Proofs.Ytglgjhmcdkooiaa
