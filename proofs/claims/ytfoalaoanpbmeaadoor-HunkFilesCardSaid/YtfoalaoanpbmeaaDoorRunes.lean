/-
  Slices of runes: one that can be read, one that the call made itself; an append of the one to the other.
-/
import Derived.Test.YtfoalaoanpbmeaaDoorBytes
namespace Go.Proofs.YtfoalaoanpbmeaaDoor
open Go.RowKit

/-- A rune as the model has it. -/
def R (b : Int) : Value := .int .i32 b

/-- A slice value reads as these runes. -/
def Runs (w : World) (a : Option Addr) (n c : Nat) (l : List Int) : Prop :=
  l.length = n ∧ n ≤ c ∧ c ≤ 9223372036854775807 ∧ ((n = 0 ∧ c = 0) ∨ ∃ b off, a = some ⟨b, off, none⟩ ∧ ∀ j, j < n → w.cell? ⟨b, off + j, none⟩ = some (.int .i32 (l.getD j 0)))

/-- A value that owns these runes, in memory from a block on. -/
def OwnR (w : World) (base : Nat) (v : Value) (l : List Int) : Prop := w.ownsRow base 21 1 v l.length (l.map R)

/-- What is made anew: a value that owns these runes; what was there stands. -/
def MadeR (w : World) (l : List Int) (e : Ending) (w' : World) : Prop := ∃ a n c, e = .returned (.slice a n c) ∧ OwnR w' w.heap.size (.slice a n c) l ∧ Below w.heap.size w w'

theorem Tryd.infoR21 : (Tryd.prog.info? 21).map (fun i => (i.zero, i.size, i.bytes)) = some (some (.int .i32 0), 1, 4) := by kernel_rfl

theorem Runs.nil (w : World) : Runs w none 0 0 [] := ⟨rfl, Nat.le_refl _, by omega, .inl ⟨rfl, rfl⟩⟩

theorem Runs.below {w w' : World} {a : Option Addr} {n c : Nat} {l : List Int} (h : Runs w a n c l) (hb : Below w.heap.size w w') : Runs w' a n c l := by
  obtain ⟨h1, h2, h3, h4⟩ := h
  refine ⟨h1, h2, h3, ?_⟩
  rcases h4 with h4 | ⟨b, off, ha, hc⟩
  · exact .inl h4
  · exact .inr ⟨b, off, ha, fun j hj => (hb.cell (World.block_lt_of_cell? _ _ (hc j hj))).trans (hc j hj)⟩

theorem OwnR.nil (w : World) (base : Nat) : OwnR w base (.slice none 0 0) [] := World.ownsRow_nil _ _ _ _

theorem OwnR.runs {w : World} {base : Nat} {v : Value} {l : List Int} (h : OwnR w base v l) : ∃ a n c, v = .slice a n c ∧ Runs w a n c l := by
  have h0 := h
  obtain ⟨h1, h2⟩ := h
  rcases h2 with ⟨rfl, hn⟩ | ⟨g, cap, cur, rfl, hb, hg, hn, hm, hs, ht⟩
  · have : l = [] := List.length_eq_zero_iff.1 hn
    subst this
    exact ⟨none, 0, 0, rfl, Runs.nil w⟩
  · refine ⟨_, _, _, rfl, rfl, hn, by unfold maxLen at hm; omega, .inr ⟨g, 0, rfl, fun j hj => ?_⟩⟩
    have := h0.cells (g := g) rfl j (R (l.getD j 0)) (by rw [List.getElem?_map]; simp [hj])
    rw [Addr.add_lit] at this
    simpa [R] using this

theorem MadeR.of {w w' : World} {l : List Int} {v : Value} (h : OwnR w' w.heap.size v l) (hb : Below w.heap.size w w') : MadeR w l (.returned v) w' := by
  obtain ⟨a, n, c, rfl, _⟩ := h.runs
  exact ⟨a, n, c, rfl, h, hb⟩

theorem OwnR.isRuns {w : World} {base : Nat} {a : Option Addr} {n c : Nat} {l : List Int} (h : OwnR w base (.slice a n c) l) : Runs w a n c l := by
  obtain ⟨a', n', c', hv, hb⟩ := h.runs
  simp only [Value.slice.injEq] at hv
  obtain ⟨rfl, rfl, rfl⟩ := hv
  exact hb

theorem OwnR.len {w : World} {base : Nat} {a : Option Addr} {n c : Nat} {l : List Int} (h : OwnR w base (.slice a n c) l) : n = l.length := by
  obtain ⟨a', n', c', hv, hb, _⟩ := h.runs
  simp only [Value.slice.injEq] at hv
  omega

theorem OwnR.below {w w' : World} {base : Nat} {v : Value} {l : List Int} (h : OwnR w base v l) (hb : Below w.heap.size w w') : OwnR w' base v l := by
  obtain ⟨h1, h2⟩ := h
  refine ⟨h1, ?_⟩
  rcases h2 with h2 | ⟨g, cap, cur, hv, hg, hh, r⟩
  · exact .inl h2
  · refine .inr ⟨g, cap, cur, hv, hg, ?_, r⟩
    have hlt : g < w.heap.size := by
      rcases Nat.lt_or_ge g w.heap.size with h | h
      · exact h
      · rw [Array.getElem?_eq_none h] at hh; cases hh
    rw [hb.block g hlt]; exact hh

theorem OwnR.mono {w : World} {base base' : Nat} {v : Value} {l : List Int} (h : OwnR w base v l) (hb : base' ≤ base) : OwnR w base' v l := by
  obtain ⟨h1, h2⟩ := h
  refine ⟨h1, ?_⟩
  rcases h2 with h2 | ⟨g, cap, cur, hv, hg, r⟩
  · exact .inl h2
  · exact .inr ⟨g, cap, cur, hv, by omega, r⟩

theorem OwnR.grown {w : World} {base : Nat} {v : Value} {l : List Int} (h : OwnR w base v l) : ∀ k, v.ownBlock = some k → base ≤ k := fun k hk => (World.ownsRow.lt h k hk).1

/-- 'append(dst, src...)': dst is the call's own, src any slice of runes that can be read. -/
theorem app_runs {w : World} {ops : Array Oper} {rest : List Oper} {o : Oper} {a : Act} {Q : Exit → Act → World → Prop} (hgd : o.guard = none) (s x : Operand)
    (ho : o.op = .call { callee := .builtin .append, args := #[s, x], argTypes := #[50, 50] })
    (base : Nat) (v : Value) (l : List Int) (hs : a.eval s = v) (hown : OwnR w base v l)
    (sa : Option Addr) (m c : Nat) (src : List Int) (hx : a.eval x = .slice sa m c) (hsrc : Runs w sa m c src)
    (h48 : l.length + m ≤ 35184372088832) (hbase : base ≤ w.heap.size)
    (h : ∀ v' w', OwnR w' base v' (l ++ src) → w.grownBy w' v.ownBlock → wpList Tryd.prog ops Q rest (a.put o.dst v') w') : wpList Tryd.prog ops Q (o :: rest) a w := by
  obtain ⟨i0, hi, hz0, hz1, hz2⟩ := info_parts Tryd.infoR21
  obtain ⟨h1, h2, h3, h4⟩ := hsrc
  rcases h4 with ⟨rfl, rfl⟩ | ⟨b, off, rfl, hc⟩
  · have : src = [] := List.length_eq_zero_iff.1 h1
    subst this
    cases sa with
    | none =>
      refine wpList_append_own_none hgd s x 50 ho base 21 i0 1 Tryd.underlying50 hi v l.length (l.map R) hs hown hx ?_
      exact h v w (by rw [List.append_nil]; exact hown) ⟨rfl, rfl, rfl, Nat.le_refl _, fun _ _ _ => rfl⟩
    | some ad =>
      refine wpList_append_own w hgd s x 50 ho base 21 i0 (.int .i32 0) 1 4 Tryd.underlying50 hi hz0 hz1 hz2 rfl (by decide) v l.length (l.map R) hs hown
        ad 0 0 [] hx (by simp) (by simp) (by simp) (by unfold maxLen; omega) (by omega) hbase ?_
      intro v' w' h5 h6 _
      exact h v' w' (by rw [List.append_nil]; simpa [OwnR] using h5) h6
  · refine wpList_append_own w hgd s x 50 ho base 21 i0 (.int .i32 0) 1 4 Tryd.underlying50 hi hz0 hz1 hz2 rfl (by decide) v l.length (l.map R) hs hown
      ⟨b, off, none⟩ m c (src.map R) hx (by simp [h1]) ?_ ?_ (by unfold maxLen; omega) (by omega) hbase ?_
    · intro j u hu
      rw [List.getElem?_map] at hu
      have hj : j < src.length := by
        rcases Nat.lt_or_ge j src.length with h | h
        · exact h
        · rw [List.getElem?_eq_none h] at hu; cases hu
      have := hc j (by omega)
      simp only [List.getElem?_eq_getElem hj, Option.map_some, Option.some.injEq] at hu
      subst hu
      rw [Addr.add_lit]
      simpa [R, hj] using this
    · intro u hu
      obtain ⟨x, _, rfl⟩ := List.mem_map.1 hu
      rfl
    · intro v' w' h5 h6 _
      refine h v' w' ?_ h6
      unfold OwnR
      rw [List.length_append, List.map_append, h1]
      exact h5

/-- One byte in a block of its own, ahead of its append. -/
theorem runs_one (w : World) (x : Int) : Runs (w.alloc (.cells #[.int .i32 x] 21)) (some ⟨w.heap.size, 0, none⟩) 1 1 [x] := by
  refine ⟨rfl, Nat.le_refl _, by omega, .inr ⟨_, _, rfl, fun j hj => ?_⟩⟩
  obtain rfl : j = 0 := by omega
  simp

theorem OwnR.alloc {w : World} {base : Nat} {v : Value} {l : List Int} (h : OwnR w base v l) (o : Obj) : OwnR (w.alloc o) base v l := World.ownsRow.alloc h o

#print axioms app_runs
end Go.Proofs.YtfoalaoanpbmeaaDoor
