/-
  The memory in which a closed part is told: where the kept ones stand, which are kept, the part.
-/
import Derived.Test.YtmenhbdapikpeaaTreePart
import Derived.Test.YtmenhbdapikpeaaTreeFamM
namespace Go.Proofs.Ytmenhbdapikpeaa
open Go.RowKit

theorem nflat_set {L : List NodeV} (h : ∀ x ∈ L, NdOk x) : ∀ {j : Nat} (_ : j < L.length) (z : Int), (nflat L).set (j * 37 + 34) (.int .i64 z) = nflat (L.set j ⟨(nd L j).k, z, (nd L j).r, (nd L j).d⟩) := by
  induction L with
  | nil => intro j hj; simp at hj
  | cons x T ih =>
    intro j hj z
    have h1 := nodeL_length (h x (by simp))
    have e : nflat (x :: T) = nodeL x ++ nflat T := rfl
    rw [e]
    cases j with
    | zero =>
      rw [List.set_append_left _ _ (by omega), List.set_cons_zero]
      show _ = nodeL _ ++ nflat T
      congr 1
      have hk := keyL_length (h x (by simp)).1
      show (keyL x.k ++ [Value.int .i64 x.p, Value.int .i32 x.r, Value.bool x.d]).set (0 * 37 + 34) (Value.int .i64 z) = keyL x.k ++ [Value.int .i64 z, Value.int .i32 x.r, Value.bool x.d]
      rw [List.set_append_right _ _ (by omega), hk]
      rfl
    | succ j =>
      rw [List.set_append_right _ _ (by omega), h1, show (j + 1) * 37 + 34 - 37 = j * 37 + 34 from by omega, List.set_cons_succ]
      rw [ih (fun y hy => h y (List.mem_cons_of_mem _ hy)) (by simpa using hj) z]
      rfl
theorem OwnT.setPar {E : TypeId} {w : World} {base g n c j : Nat} {L : List NodeV} (h : OwnT E w base (.slice (some ⟨g, 0, none⟩) n c) L) (hn : L.length = n) (hj : j < n) (z : Int) :
    OwnT E (w.setCell ⟨g, j * 37 + 34, none⟩ (.int .i64 z)) base (.slice (some ⟨g, 0, none⟩) n c) (L.set j ⟨(nd L j).k, z, (nd L j).r, (nd L j).d⟩) := by
  subst hn
  refine ⟨?_, fun x hx => ?_⟩
  · have := (World.ownsRow.stored h.1 (j * 37 + 34) (.int .i64 z)).1
    rw [List.length_set, ← nflat_set h.2 hj z]
    exact this
  · rcases List.mem_or_eq_of_mem_set hx with hx | rfl
    · exact h.2 x hx
    · exact nd_ok h.2 hj

/-- What lies in memory. -/
structure PartW (w0 W : World) (n gA gK : Nat) (A T : List Nat) (aP : Option Addr) (m cP : Nat) (P : List NodeV) : Prop where
  at_ : Own1 M 3 W gA (.slice (some ⟨gA, 0, none⟩) n n) A
  kept : Own1 Bl 4 W gK (.slice (some ⟨gK, 0, none⟩) n n) T
  part : OwnT 44 W (gK + 1) (.slice aP m cP) P
  ne : gA < gK
  base : w0.heap.size ≤ gA
  size : gK < W.heap.size
  below : Below w0.heap.size w0 W
section
variable {w0 W W' : World} {n gA gK m cP : Nat} {A T : List Nat} {aP : Option Addr} {P : List NodeV}
theorem PartW.later (h : PartW w0 W n gA gK A T aP m cP P) (hb : Below W.heap.size W W') : PartW w0 W' n gA gK A T aP m cP P :=
  ⟨h.at_.below hb, h.kept.below hb, h.part.below hb, h.ne, h.base, Nat.lt_of_lt_of_le h.size hb.size, h.below.trans (hb.mono h.below.size)⟩
theorem PartW.setKept (h : PartW w0 W n gA gK A T aP m cP P) (i : Nat) : PartW w0 (W.setCell ⟨gK, i, none⟩ (.bool true)) n gA gK A (T.set i 1) aP m cP P := by
  have hg := grown_set W gK i (.bool true)
  refine ⟨h.at_.kept hg (.inr (by have := h.ne; simp [Value.ownBlock]; omega)), h.kept.store h.kept.len i 1, h.part.kept hg ?_, h.ne, h.base, by simpa [World.setCell] using h.size, h.below.grown hg h.below.size (fun k hk => by cases hk; have := h.base; have := h.ne; omega)⟩
  cases hv : (Value.slice aP m cP).ownBlock with
  | none => exact .inl rfl
  | some g => refine .inr (fun e => ?_); have := (h.part.lt g hv).1; simp only [Option.some.injEq] at e; omega
theorem PartW.setAt (h : PartW w0 W n gA gK A T aP m cP P) (i x : Nat) (z : Int) (hz : z = (x : Int) - 1) : PartW w0 (W.setCell ⟨gA, i, none⟩ (.int .i64 z)) n gA gK (A.set i x) T aP m cP P := by
  subst hz
  have hg := grown_set W gA i (.int .i64 ((x : Int) - 1))
  refine ⟨h.at_.store h.at_.len i x, h.kept.kept hg (.inr (by have := h.ne; simp [Value.ownBlock]; omega)), h.part.kept hg ?_, h.ne, h.base, by simpa [World.setCell] using h.size, h.below.grown hg h.below.size (fun k hk => by cases hk; exact h.base)⟩
  cases hv : (Value.slice aP m cP).ownBlock with
  | none => exact .inl rfl
  | some g => refine .inr (fun e => ?_); have := (h.part.lt g hv).1; have := h.ne; simp only [Option.some.injEq] at e; omega
theorem PartW.setPart {gP : Nat} (h : PartW w0 W n gA gK A T (some ⟨gP, 0, none⟩) m cP P) (hm : P.length = m) {j : Nat} (hj : j < m) (z : Int) :
    PartW w0 (W.setCell ⟨gP, j * 37 + 34, none⟩ (.int .i64 z)) n gA gK A T (some ⟨gP, 0, none⟩) m cP (P.set j ⟨(nd P j).k, z, (nd P j).r, (nd P j).d⟩) := by
  have hg := grown_set W gP (j * 37 + 34) (.int .i64 z)
  obtain ⟨g, e, h1, h2, _⟩ := h.part.row (by omega)
  simp only [Option.some.injEq, Addr.mk.injEq, and_true] at e
  subst e
  have hne := h.ne
  have hba := h.base
  exact ⟨h.at_.kept hg (.inr (by simp [Value.ownBlock]; omega)), h.kept.kept hg (.inr (by simp [Value.ownBlock]; omega)), h.part.setPar hm hj z, h.ne, h.base, by simpa [World.setCell] using h.size, h.below.grown hg h.below.size (fun k hk => by cases hk; omega)⟩
theorem PartW.grown (h : PartW w0 W n gA gK A T aP m cP P) {a2 : Option Addr} {m2 c2 : Nat} {P2 : List NodeV} (hg : W.grownBy W' (Value.slice aP m cP).ownBlock) (ho : OwnT 44 W' (gK + 1) (.slice a2 m2 c2) P2) : PartW w0 W' n gA gK A T a2 m2 c2 P2 := by
  have hne := h.ne
  have hba := h.base
  refine ⟨h.at_.kept hg (.inr (fun e => ?_)), h.kept.kept hg (.inr (fun e => ?_)), ho, h.ne, h.base, Nat.lt_of_lt_of_le h.size hg.size, h.below.grown hg h.below.size (fun k hk => by have := (h.part.lt k hk).1; omega)⟩
  · have := (h.part.lt gA e.symm).1; omega
  · have := (h.part.lt gK e.symm).1; omega
theorem PartW.cellK (h : PartW w0 W n gA gK A T aP m cP P) {i : Nat} (hi : i < n) : W.cell? ⟨gK, i, none⟩ = some (.bool (T.getD i 0 == 1)) := by
  have := h.kept.at1.cell i hi
  rwa [Nat.zero_add] at this
theorem PartW.cellA (h : PartW w0 W n gA gK A T aP m cP P) {i : Nat} (hi : i < n) : W.cell? ⟨gA, i, none⟩ = some (.int .i64 ((A.getD i 0 : Nat) - 1)) := by
  have := h.at_.at1.cell i hi
  rwa [Nat.zero_add] at this
theorem PartW.frzK (h : PartW w0 W n gA gK A T aP m cP P) (i : Nat) (hn : 0 < n) : W.frozen? ⟨gK, i, none⟩ = false := by
  obtain ⟨g, e, _, _, _, hf⟩ := h.kept.row hn
  simp only [Option.some.injEq, Addr.mk.injEq, and_true] at e
  subst e
  exact hf i
theorem PartW.frzA (h : PartW w0 W n gA gK A T aP m cP P) (i : Nat) (hn : 0 < n) : W.frozen? ⟨gA, i, none⟩ = false := by
  obtain ⟨g, e, _, _, _, hf⟩ := h.at_.row hn
  simp only [Option.some.injEq, Addr.mk.injEq, and_true] at e
  subst e
  exact hf i
end
#print axioms PartW.grown
#print axioms PartW.setPart
end Go.Proofs.Ytmenhbdapikpeaa
