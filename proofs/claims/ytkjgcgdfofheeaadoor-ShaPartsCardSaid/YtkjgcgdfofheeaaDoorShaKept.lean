/-
  What ShaParts keeps: a hash, all bytes so far, the copies so far; each step of a round.
-/
import Derived.Test.YtkjgcgdfofheeaaDoorTell
import Derived.Test.YtkjgcgdfofheeaaDoorShaEq
namespace Go.Proofs.YtkjgcgdfofheeaaDoor
open Go.RowKit

theorem info_sl : (Tryd.prog.info? 22).map (fun i => (i.zero, i.size, i.bytes)) = some (some (.slice none 0 0), 1, 24) := by kernel_rfl

/-- Copies of some bytes, in memory of their own, listed in a slice of the call's own. -/
structure Copies (base : Nat) (vA vC : Value) (cs : List (List UInt8)) (W : World) (vs : List Value) : Prop where
  len : vs.length = cs.length
  row : W.ownsRow base 22 1 vC vs.length vs
  each : ∀ j, j < cs.length → ∃ u, vs[j]? = some u ∧ Own W base u (cs.getD j []) ∧ Apart u vA ∧ Apart u vC

/-- One hash, all bytes so far, the copies so far. -/
structure Kept (g : Nat) (lh la : List UInt8) (cs : List (List UInt8)) (vA vC : Value) (W : World) : Prop where
  hash : HashOf W g lh
  all : Own W (g + 1) vA la
  cop : ∃ vs, Copies (g + 1) vA vC cs W vs
  far : Apart vA vC
  size : g + 1 ≤ W.heap.size

theorem Copies.step {base : Nat} {vA vC : Value} {cs : List (List UInt8)} {W W' : World} {vs : List Value} (h : Copies base vA vC cs W vs) (row : Option Nat) (hg : W.grownBy W' row)
    (hc : vC.ownBlock = none ∨ vC.ownBlock ≠ row) (he : ∀ u, Apart u vA → Apart u vC → (∀ k, u.ownBlock = some k → base ≤ k) → u.ownBlock = none ∨ u.ownBlock ≠ row) : Copies base vA vC cs W' vs := by
  refine ⟨h.len, h.row.kept hg hc, fun j hj => ?_⟩
  obtain ⟨u, hu, ho, h1, h2⟩ := h.each j hj
  exact ⟨u, hu, World.ownsRow.kept ho hg (he u h1 h2 ho.grown), h1, h2⟩

theorem Kept.below {g : Nat} {lh la : List UInt8} {cs : List (List UInt8)} {vA vC : Value} {W W' : World} (h : Kept g lh la cs vA vC W) (hb : Below W.heap.size W W') : Kept g lh la cs vA vC W' := by
  obtain ⟨vs, hv⟩ := h.cop
  have hg := below_grownBy none hb
  have hn : ∀ v : Value, v.ownBlock = none ∨ v.ownBlock ≠ none := fun v => by cases v.ownBlock <;> simp
  exact ⟨h.hash.below hb, h.all.below hb, ⟨vs, hv.step none hg (hn _) (fun u _ _ _ => hn u)⟩, h.far, Nat.le_trans h.size hb.size⟩

theorem Kept.write {g : Nat} {lh lh' la : List UInt8} {cs : List (List UInt8)} {vA vC : Value} {W W' : World} (h : Kept g lh la cs vA vC W) (hh : HashOf W' g lh') (hg : W.grownBy W' (some g)) : Kept g lh' la cs vA vC W' := by
  obtain ⟨vs, hv⟩ := h.cop
  have hn : ∀ v : Value, (∀ k, v.ownBlock = some k → g + 1 ≤ k) → v.ownBlock = none ∨ v.ownBlock ≠ some g := fun v hv => by
    cases hvb : v.ownBlock with
    | none => exact .inl rfl
    | some k => have := hv k hvb; exact .inr (fun e => by cases e; omega)
  exact ⟨hh, World.ownsRow.kept h.all hg (hn _ h.all.grown), ⟨vs, hv.step _ hg (hn _ (fun k hk => (World.ownsRow.lt hv.row k hk).1)) (fun u _ _ hu => hn u hu)⟩, h.far, Nat.le_trans h.size hg.size⟩

theorem Kept.app {g : Nat} {lh la la' : List UInt8} {cs : List (List UInt8)} {vA vA' vC : Value} {W W' : World} (h : Kept g lh la cs vA vC W) (ha : Own W' (g + 1) vA' la') (hg : W.grownBy W' vA.ownBlock) (ht : Told W vA vA') : Kept g lh la' cs vA' vC W' := by
  obtain ⟨vs, hv⟩ := h.cop
  have hs := hv.step _ hg h.far.symm.kept (fun u h1 _ _ => h1.kept)
  have hx := h.all.grown
  refine ⟨h.hash.grown hg (fun e => by have := hx _ e.symm; omega), ha, ⟨vs, hs.len, hs.row, fun j hj => ?_⟩, ?_, Nat.le_trans h.size hg.size⟩
  · obtain ⟨u, hu, ho, h1, h2⟩ := hv.each j hj
    obtain ⟨u', hu', ho', _, _⟩ := hs.each j hj
    rw [hu] at hu'
    cases hu'
    exact ⟨u, hu, ho', h1.told ht (fun k hk => (World.ownsRow.lt ho k hk).2), h2⟩
  · exact (h.far.symm.told ht (fun k hk => (World.ownsRow.lt hv.row k hk).2)).symm

/-- One more copy, listed. -/
theorem app_part {g : Nat} {lh la p : List UInt8} {cs : List (List UInt8)} {vA vC : Value} {w : World} {ops : Array Oper} {rest : List Oper} {o : Oper} {a : Act} {Q : Exit → Act → World → Prop} (hgd : o.guard = none) (s x : Operand)
    (ho : o.op = .call { callee := .builtin .append, args := #[s, x], argTypes := #[30, 30] })
    (hk : Kept g lh la cs vA vC w) (hs : a.eval s = vC) (b : Nat) (u : Value) (hx : a.eval x = .slice (some ⟨b, 0, none⟩) 1 1) (hcell : w.cell? ⟨b, 0, none⟩ = some u)
    (hu : Own w (g + 1) u p) (h1 : Apart u vA) (h2 : Apart u vC) (hlen : cs.length ≤ 1000)
    (h : ∀ vC' w', Kept g lh la (cs ++ [p]) vA vC' w' → Own w' (g + 1) u p → w.grownBy w' vC.ownBlock → wpList Tryd.prog ops Q rest (a.put o.dst vC') w') : wpList Tryd.prog ops Q (o :: rest) a w := by
  obtain ⟨i0, hi, hz0, hz1, hz2⟩ := info_parts info_sl
  obtain ⟨vs, hv⟩ := hk.cop
  have hvl := hv.len
  have hone : u.oneCell' = true := by
    obtain ⟨a', n', c', rfl, _⟩ := hu.bytes
    rfl
  obtain ⟨v', w', hr, h5, h6, h7⟩ := run_append_tell (P := Tryd.prog) w (g + 1) 30 o.type 22 i0 (.slice none 0 0) 1 24 Tryd.underlying30 hi hz0 hz1 hz2 rfl (by decide) vC vs.length vs hv.row
    ⟨b, 0, none⟩ 1 1 [u] rfl (fun j y hy => by
      match j, hy with
      | 0, hy => rw [Addr.add_lit]; simp at hy; subst hy; exact hcell) (fun y hy => by simp at hy; subst hy; exact hone) (by unfold maxLen; omega) (by omega) hk.size
  have keepu : ∀ y q, Own w (g + 1) y q → Apart y vC → Own w' (g + 1) y q := fun y q hy hy2 => World.ownsRow.kept hy h6 hy2.kept
  refine Lib.wpList_append_run w hgd s x 30 30 ho _ _ hs hx _ _ hr (h v' w' ?_ (keepu _ _ hu h2) h6)
  refine ⟨hk.hash.grown h6 (fun e => by have := (World.ownsRow.lt hv.row _ e.symm).1; omega), keepu _ _ hk.all hk.far, ⟨vs ++ [u], by simp [hvl], by simpa using h5, fun j hj => ?_⟩, ?_, Nat.le_trans hk.size h6.size⟩
  · by_cases hj' : j < cs.length
    · obtain ⟨y, hy, ho', e1, e2⟩ := hv.each j hj'
      refine ⟨y, by rw [List.getElem?_append_left (by omega)]; exact hy, ?_, e1, e2.told h7 (fun k hk => (World.ownsRow.lt ho' k hk).2)⟩
      rw [List.getD_eq_getElem?_getD, List.getElem?_append_left hj', ← List.getD_eq_getElem?_getD]
      exact keepu _ _ ho' e2
    · have hjj : j = cs.length := by simp at hj; omega
      subst hjj
      refine ⟨u, by rw [← hvl]; simp, ?_, h1, h2.told h7 (fun k hk => (World.ownsRow.lt hu k hk).2)⟩
      simp only [List.getD_eq_getElem?_getD, List.getElem?_append_right (Nat.le_refl _), Nat.sub_self]
      exact keepu _ _ hu h2
  · exact hk.far.told h7 (fun k hk' => (World.ownsRow.lt hk.all k hk').2)

theorem apart_new {w : World} {base : Nat} {u v : Value} {p : List UInt8} (hu : Own w base u p) (hv : ∀ k, v.ownBlock = some k → k < base) : Apart u v := fun k hk e => by
  have := hu.grown k hk
  have := hv k e
  omega
theorem Kept.copLt {g : Nat} {lh la : List UInt8} {cs : List (List UInt8)} {vA vC : Value} {W : World} (h : Kept g lh la cs vA vC W) : ∀ k, vC.ownBlock = some k → g + 1 ≤ k ∧ k < W.heap.size := by
  obtain ⟨vs, hv⟩ := h.cop
  exact World.ownsRow.lt hv.row
theorem Kept.allLt {g : Nat} {lh la : List UInt8} {cs : List (List UInt8)} {vA vC : Value} {W : World} (h : Kept g lh la cs vA vC W) : ∀ k, vA.ownBlock = some k → g + 1 ≤ k ∧ k < W.heap.size := World.ownsRow.lt h.all

theorem Kept.start {g : Nat} {W : World} (h : HashOf W g []) : Kept g [] [] [] (.slice none 0 0) (.slice none 0 0) W :=
  ⟨h, Own.nil _ _, ⟨[], rfl, World.ownsRow_nil _ _ _ _, fun j hj => by simp at hj⟩, fun k hk => by simp [Value.ownBlock] at hk, by obtain ⟨_, _, _, hr⟩ := h; exact hr.lt⟩

/-- '!=' on two sums that are alike, behind a guard. -/
theorem neq_sum_g {w : World} {ops : Array Oper} {rest : List Oper} {o : Oper} {a : Act} {Q : Exit → Act → World → Prop} (hw : Region.wanted o (yielded ops a.tmps) = true) (x y : Operand) (r : TypeId) (ho : o.op = .binOp .neq 24 x y r)
    (l : List UInt8) (hx : a.eval x = .agg (bytesV (sumF l)).toArray) (hy : a.eval y = .agg (bytesV (sumF l)).toArray)
    (h : wpList Tryd.prog ops Q rest (a.put o.dst (.bool false)) w) :
    wpList Tryd.prog ops Q (o :: rest) a w := by
  refine wpList_guarded hw ?_ h
  unfold execOp
  simp only [ho, hx, hy, Sem.run_bind, run_eqGuard_agg w _ _ _ _ _ _ noGuard_id, Result.andThen_ok, run_neq_struct, run_eq_id w (sumF_length l), Sem.run_pure]
  rfl

/-- The copies read as parts. -/
theorem Kept.parts {g : Nat} {lh la : List UInt8} {cs : List (List UInt8)} {vA vC : Value} {W : World} (h : Kept g lh la cs vA vC W) (hl : cs.length ≤ 1000) : ∃ a n c, vC = .slice a n c ∧ Parts W a n cs := by
  obtain ⟨vs, hv⟩ := h.cop
  have hvl := hv.len
  have hrow := hv.row
  rcases hv.row.2 with ⟨h1, h2⟩ | ⟨k, cap, cur, h1, _, hg, hn, hm, _⟩
  · have : cs = [] := List.length_eq_zero_iff.1 (by omega)
    subst this
    exact ⟨none, 0, 0, h1, rfl, by omega, .inl rfl⟩
  · refine ⟨_, _, _, h1, hvl.symm, by omega, ?_⟩
    refine .inr ⟨k, 0, rfl, fun j hj => ?_⟩
    obtain ⟨u, hu, ho, _, _⟩ := hv.each j (by omega)
    obtain ⟨a', n', c', rfl, hby⟩ := ho.bytes
    refine ⟨a', n', c', ?_, hby⟩
    have := hrow.cells (g := k) (by rw [h1]; rfl) j _ hu
    rwa [Addr.add_lit] at this
#print axioms app_part
end Go.Proofs.YtkjgcgdfofheeaaDoor
