/-
  A set of keys, as a map in memory: how many of a list's first keys are alike, told by how many entries there are.
-/
import Derived.Test.YtmenhbdapikpeaaTreeBlk
import Derived.DeepKeys4
namespace Go.Proofs.Ytmenhbdapikpeaa
open Go.RowKit Go.Maps
open Go.ChangeMaps (notKey putKey mem_insert_iff)

theorem lawK : Keyed Try.prog 41 := Keyed.of_law (deep_law_laid (m := 4) (by kernel_rfl) (by omega) (of_decide_eq_true (by kernel_rfl)) (by kernel_rfl) (by kernel_rfl))
/-- What a key reads as. -/
def Kl (x : NodeV) (l : Lit) : Prop := keyOf Try.prog 41 (.agg (keyC x.k)) = some l
theorem Kl.same {x y : NodeV} {l m : Lit} (hk : x.k = y.k) (h1 : Kl x l) (h2 : Kl y m) : l = m := by
  unfold Kl at h1 h2
  rw [hk, h2] at h1
  exact (Option.some.inj h1).symm
theorem map_B_inj {l m : List UInt8} (h : l.map B = m.map B) : l = m := by
  induction l generalizing m with
  | nil => cases m with | nil => rfl | cons y s => simp at h
  | cons x r ih =>
    cases m with
    | nil => simp at h
    | cons y s =>
      simp only [List.map_cons, List.cons.injEq] at h
      have h1 := h.1
      unfold B at h1
      simp only [Value.int.injEq, true_and] at h1
      rw [UInt8.toNat_inj.1 (by omega : x.toNat = y.toNat), ih h.2]
theorem keyL_inj {a b : KeyV} (h : keyL a = keyL b) : a = b := by
  unfold keyL at h
  have h0 := List.cons.inj h
  have h1 := List.append_inj' h0.2 (by simp)
  obtain ⟨t, c, i⟩ := a
  obtain ⟨t', c', i'⟩ := b
  have e1 : t = t' := by have := h0.1; simp only [Value.int.injEq, true_and] at this; exact this
  have e2 : c = c' := map_B_inj h1.1
  have e3 : i = i' := by have := (List.cons.inj h1.2).1; simp only [Value.int.injEq, true_and] at this; exact this
  rw [e1, e2, e3]
theorem Kl.inj {x y : NodeV} {l : Lit} (hx : Kl x l) (hy : Kl y l) : x.k = y.k := by
  have h1 := lawK.inj hx hy
  have h2 : keyC x.k = keyC y.k := by simpa using h1
  unfold keyC at h2
  exact keyL_inj (by simpa using h2)

/-- Any element of a set reads as nothing. -/
def noneR (_ : Value) : Option (DataW Unit × List MemPlace) := some (.nil, [])
/-- The first so many keys, as a map: how many there are apart. -/
def KeysIn (w : World) (b : Nat) (L : List NodeV) (m : Nat) : Prop :=
  ∃ l, w.ownsMap Try.prog 41 noneR b m (.map l) ∧
    ((l.length = m ∧ (∀ i k, i < m → k < i → keyF (nd L k).k (nd L i).k ≠ 0) ∧ ∀ p ∈ l, ∃ i, i < m ∧ Kl (nd L i) p.1) ∨ (l.length < m ∧ ∃ i k, i < m ∧ k < i ∧ keyF (nd L k).k (nd L i).k = 0))
theorem keysIn_zero (w : World) (L : List NodeV) : KeysIn (w.alloc (.map #[] 0)) w.heap.size L 0 := ⟨[], World.ownsMap_made _ _ _ _, .inl ⟨rfl, fun i k h => by omega, fun p h => by cases h⟩⟩
theorem len_insert (x : Lit × DataW Unit) : ∀ l : List (Lit × DataW Unit), (DataW.insert x l).length = l.length + 1
  | [] => rfl
  | y :: r => by
    unfold DataW.insert
    split
    · rfl
    · simp [len_insert x r]
section
variable {w w' : World} {b : Nat} {L : List NodeV} {m : Nat}
theorem KeysIn.kept {row : Option Nat} (h : KeysIn w b L m) (hg : w.grownBy w' row) (hne : some b ≠ row) : KeysIn w' b L m := by
  obtain ⟨l, h1, h2⟩ := h
  exact ⟨l, h1.kept hg hne, h2⟩
theorem KeysIn.below (h : KeysIn w b L m) (hb : Below w.heap.size w w') : KeysIn w' b L m := h.kept (grown_below hb none) (by simp)
theorem KeysIn.lt (h : KeysIn w b L m) : b < w.heap.size := by obtain ⟨l, h1, _⟩ := h; exact h1.lt
/-- One more. -/
theorem KeysIn.next {kl : Lit} (hkl : Kl (nd L m) kl) {l : List (Lit × DataW Unit)}
    (h : (l.length = m ∧ (∀ i k, i < m → k < i → keyF (nd L k).k (nd L i).k ≠ 0) ∧ ∀ p ∈ l, ∃ i, i < m ∧ Kl (nd L i) p.1) ∨ (l.length < m ∧ ∃ i k, i < m ∧ k < i ∧ keyF (nd L k).k (nd L i).k = 0))
    (ho : w'.ownsMap Try.prog 41 noneR b (m + 1) ((DataW.map l).put kl .nil)) : KeysIn w' b L (m + 1) := by
  have hk : WideAt.IsKeyLit kl := lawK.key hkl
  have hle := List.length_filter_le (notKey kl) l
  refine ⟨putKey kl .nil l, ho, ?_⟩
  have hlen : (putKey kl DataW.nil l).length = (l.filter (notKey kl)).length + 1 := by unfold putKey; rw [len_insert]
  rcases h with ⟨h1, h2, h3⟩ | ⟨h1, i, k, h2, h3, h4⟩
  · by_cases hd : ∃ k, k < m ∧ keyF (nd L k).k (nd L m).k = 0
    · obtain ⟨k, hkm, hke⟩ := hd
      refine .inr ⟨?_, m, k, by omega, hkm, hke⟩
      -- the map has an entry with that key: it has as many entries as apart keys, all of which are there
      have hall : ∃ p ∈ l, p.1 = kl := by
        rcases Classical.em (∃ p ∈ l, p.1 = kl) with h | h
        · exact h
        · exfalso
          -- l's keys are among those of the first m but k's own: fewer than m
          have hap : l.Pairwise fun p q => p.1 ≠ q.1 := by
            obtain ⟨es, he, hp, _⟩ := ho.entries lawK
            have e2 : es = putKey kl .nil l := by
              have : (DataW.map l).put kl .nil = .map (putKey kl .nil l) := rfl
              rw [this] at he
              exact (DataW.map.inj he).symm
            have e3 : putKey kl (DataW.nil : DataW Unit) l = DataW.insert (kl, .nil) l := by
              unfold putKey
              rw [List.filter_eq_self.2 (fun p hp => (Maps.notKey_iff hk).2 (fun e => h ⟨p, hp, e⟩))]
            rw [e2, e3] at hp
            exact ((Go.WideShapes.insert_perm (kl, DataW.nil) l).pairwise_iff (fun {a b} (h : a.1 ≠ b.1) => h.symm)).1 hp |> fun h => (List.pairwise_cons.1 h).2
          have hch : ∀ p ∈ l, ∃ i, i < m ∧ Kl (nd L i) p.1 ∧ i ≠ k := fun p hp => by
            obtain ⟨i, hi, e⟩ := h3 p hp
            refine ⟨i, hi, e, fun e2 => h ⟨p, hp, ?_⟩⟩
            subst e2
            exact e.same (keyF_eq hke) hkl
          have key : ∀ (q : List (Lit × DataW Unit)), q.Pairwise (fun p q => p.1 ≠ q.1) → (∀ p ∈ q, ∃ i, i < m ∧ Kl (nd L i) p.1 ∧ i ≠ k) → ∃ I : List Nat, I.length = q.length ∧ I.Nodup ∧ (∀ i ∈ I, i < m ∧ i ≠ k) ∧ ∀ i ∈ I, ∃ p ∈ q, Kl (nd L i) p.1 := by
            intro q
            induction q with
            | nil => intro _ _; exact ⟨[], rfl, List.nodup_nil, (fun _ h => (List.not_mem_nil h).elim), fun _ h => (List.not_mem_nil h).elim⟩
            | cons x t ih =>
              intro hp hc
              obtain ⟨hp1, hp2⟩ := List.pairwise_cons.1 hp
              obtain ⟨I, i1, i2, i3, i4⟩ := ih hp2 (fun p hp => hc p (by simp [hp]))
              obtain ⟨i, hi, e, hik⟩ := hc x (by simp)
              refine ⟨i :: I, by simp [i1], List.nodup_cons.2 ⟨fun hm => ?_, i2⟩, fun j hj => ?_, fun j hj => ?_⟩
              · obtain ⟨p, hp, e2⟩ := i4 i hm
                exact hp1 p hp (e.same rfl e2)
              · rcases List.mem_cons.1 hj with rfl | hj
                · exact ⟨hi, hik⟩
                · exact i3 j hj
              · rcases List.mem_cons.1 hj with rfl | hj
                · exact ⟨x, by simp, e⟩
                · obtain ⟨p, hp, e2⟩ := i4 j hj
                  exact ⟨p, by simp [hp], e2⟩
          obtain ⟨I, i1, i2, i3, _⟩ := key l hap hch
          have hn2 : (k :: I).Nodup := List.nodup_cons.2 ⟨fun hm => (i3 k hm).2 rfl, i2⟩
          have := nodup_len hn2 (n := m) (fun j hj => by
            rcases List.mem_cons.1 hj with rfl | hj
            · exact hkm
            · exact (i3 j hj).1)
          simp at this
          omega
      obtain ⟨p, hp, e⟩ := hall
      have hlt : (l.filter (notKey kl)).length < l.length := by
        rcases Nat.lt_or_eq_of_le hle with h | h
        · exact h
        · exfalso
          have := List.length_filter_eq_length_iff.1 h p hp
          rw [Maps.notKey_iff hk] at this
          exact this e
      omega
    · have hne : ∀ k, k < m → keyF (nd L k).k (nd L m).k ≠ 0 := fun k hk2 e => hd ⟨k, hk2, e⟩
      have hf : l.filter (notKey kl) = l := List.filter_eq_self.2 (fun p hp => (Maps.notKey_iff hk).2 (fun e => by
        obtain ⟨i, hi, e2⟩ := h3 p hp
        refine hne i hi ?_
        rw [e] at e2
        rw [e2.inj hkl]
        exact keyF_self _))
      refine .inl ⟨by rw [hlen, hf, h1], fun i k hi hki => ?_, fun p hp => ?_⟩
      · rcases Nat.lt_or_ge i m with h | h
        · exact h2 i k h hki
        · obtain rfl : i = m := by omega
          exact hne k hki
      · unfold putKey at hp
        rw [hf] at hp
        rcases mem_insert_iff.1 hp with rfl | hp
        · exact ⟨m, by omega, hkl⟩
        · obtain ⟨i, hi, e⟩ := h3 p hp
          exact ⟨i, by omega, e⟩
  · exact .inr ⟨by omega, i, k, by omega, h3, h4⟩
end
#print axioms KeysIn.next
end Go.Proofs.Ytmenhbdapikpeaa
