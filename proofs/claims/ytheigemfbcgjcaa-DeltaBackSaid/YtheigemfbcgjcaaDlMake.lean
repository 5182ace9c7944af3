/-
  New rows of ints; more of the sorter in memory.
-/
import Derived.Test.YtheigemfbcgjcaaDlRise
import Derived.Test.YtheigemfbcgjcaaOneG
import Derived.Deep.Cut
import Derived.Deep.CutRange
namespace Go.Proofs.Ytheigemfbcgjcaa
open Go.RowKit

theorem IntsAt.of1 {w : World} {base g n : Nat} {L : List Nat} (h : Own1 N 3 w base (.slice (some ⟨g, 0, none⟩) n n) L) : IntsAt w g n L := by
  have hl := h.len
  refine ⟨hl, (h.lt g rfl).2, fun j hj => ⟨?_, ?_⟩⟩
  · have := h.at1.cell j hj
    rwa [Nat.zero_add] at this
  · obtain ⟨g', hg, _, _, _, hf⟩ := h.row (by omega)
    cases hg
    exact hf j
theorem wp_makeI {o : Oper} {a : Act} {w : World} {K : Act → World → Prop} {Q : Exit → Act → World → Prop} (x y : Operand) (ho : o.op = Op.makeSlice 53 x y) (n : Nat) (hx : a.eval x = .int .i64 (n : Int)) (hy : a.eval y = .int .i64 (n : Int)) (hn : n ≤ 1000000)
    (h : ∀ w', IntsAt w' w.heap.size n (List.replicate n 0) → Below w.heap.size w w' → w.heap.size < w'.heap.size → K (a.put o.dst (.slice (some ⟨w.heap.size, 0, none⟩) n n)) w') : o.wp Try.prog a w K Q := by
  obtain ⟨i0, hi, hz0, hz1, hz2⟩ := info_parts infoN
  obtain ⟨w', hrun, r1, r2⟩ := run_make_full (P := Try.prog) w w.heap.size 53 3 i0 (N 0) 1 Try.underlying53 hi hz0 hz1 .i64 .i64 n (by rw [hz2]; omega) (by unfold maxLen; omega) (Nat.le_refl _)
  have e : (madeCells (N 0).cells (n * 1)).toList = List.replicate n (N 0) := by
    show (madeCells #[N 0] (n * 1)).toList = _
    apply List.ext_getElem
    · simp [madeCells]
    · intro i h3 h4
      simp [madeCells, Nat.mod_one]
  have hO : Own1 N 3 w' w.heap.size (.slice (some ⟨w.heap.size, 0, none⟩) n n) (List.replicate n 0) := by
    unfold Own1
    rw [List.length_replicate, List.map_replicate, ← e]
    exact r1
  unfold Oper.wp
  simp [execOp, ho, hx, hy, hrun, Result.andThen]
  exact h w' (IntsAt.of1 hO) ⟨r2.os, r2.tape, r2.output, r2.size, fun k hk => r2.block k hk (by simp)⟩ (hO.lt w.heap.size rfl).2
theorem wready {P : Program} {o : Oper} {a : Act} {w : World} {K : Act → World → Prop} {Q : Exit → Act → World → Prop} (h : o.wp P a w K Q) : o.wp P a w K Q := h
section
variable {w : World} {gs gp gr gm n K : Nat} {P R M : List Nat}
theorem Srt.storeP (h : Srt w gs gp gr gm n P K R M) {i : Nat} (hi : i < n) (x : Nat) : Srt (w.setCell ⟨gp, i, none⟩ (.int .i64 (x : Nat))) gs gp gr gm n (P.set i x) K R M := by
  have e : ∀ j, (w.setCell ⟨gp, i, none⟩ (.int .i64 (x : Nat))).cell? ⟨gs, j, none⟩ = w.cell? ⟨gs, j, none⟩ := fun j => World.cell?_setCell_other (w := w) (a := ⟨gp, i, none⟩) (b := ⟨gs, j, none⟩) (v := _) (h := fun e => h.ne.1 (by injection e with e1 _ _; exact e1.symm))
  exact ⟨by rw [e]; exact h.c0, by rw [e]; exact h.c1, by rw [e]; exact h.c2, by rw [e]; exact h.c3, fun j => by rw [World.frozen?_setCell]; exact h.free j, h.pl.set hi x, h.rk.other (a := ⟨gp, i, none⟩) h.ne.2.2.2.1.symm _, h.rm.other (a := ⟨gp, i, none⟩) h.ne.2.2.2.2.1.symm _, h.ne⟩
theorem Srt.storeR (h : Srt w gs gp gr gm n P K R M) {i : Nat} (hi : i < n) (x : Nat) : Srt (w.setCell ⟨gr, i, none⟩ (.int .i64 (x : Nat))) gs gp gr gm n P K (R.set i x) M := by
  have e : ∀ j, (w.setCell ⟨gr, i, none⟩ (.int .i64 (x : Nat))).cell? ⟨gs, j, none⟩ = w.cell? ⟨gs, j, none⟩ := fun j => World.cell?_setCell_other (w := w) (a := ⟨gr, i, none⟩) (b := ⟨gs, j, none⟩) (v := _) (h := fun e => h.ne.2.1 (by injection e with e1 _ _; exact e1.symm))
  exact ⟨by rw [e]; exact h.c0, by rw [e]; exact h.c1, by rw [e]; exact h.c2, by rw [e]; exact h.c3, fun j => by rw [World.frozen?_setCell]; exact h.free j, h.pl.other (a := ⟨gr, i, none⟩) h.ne.2.2.2.1 _, h.rk.set hi x, h.rm.other (a := ⟨gr, i, none⟩) h.ne.2.2.2.2.2.symm _, h.ne⟩
theorem Srt.of_new {w : World} {gp gr gm n : Nat} {P R M : List Nat} (hp : IntsAt w gp n P) (hr : IntsAt w gr n R) (hm : IntsAt w gm n M) (h1 : gp ≠ gr) (h2 : gp ≠ gm) (h3 : gr ≠ gm) (w' : World)
    (hw : w.alloc (.cells #[pS gp n, .int .i64 1, pS gr n, pS gm n] 74) = w') : Srt w' w.heap.size gp gr gm n P 1 R M := by
  have hb : Below w.heap.size w w' := hw ▸ (Below.refl _ _).alloc (Nat.le_refl _) _
  have hR : w'.heap[w.heap.size]? = some (.cells #[pS gp n, .int .i64 1, pS gr n, pS gm n] 74 (0, 0)) := hw ▸ heap_alloc_new w _
  have c : ∀ j v, (#[pS gp n, .int .i64 1, pS gr n, pS gm n] : Array Value)[j]? = some v → w'.cell? ⟨w.heap.size, j, none⟩ = some v := fun j v hj => by
    rw [cell_of_row w' w.heap.size j _ _ (0, 0) hR]; exact hj
  refine ⟨c 0 _ rfl, c 1 _ rfl, c 2 _ rfl, c 3 _ rfl, fun j => frozen_of_row w' w.heap.size j _ _ hR, hp.below hb, hr.below hb, hm.below hb, ?_⟩
  have l1 := hp.2.1
  have l2 := hr.2.1
  have l3 := hm.2.1
  exact ⟨by omega, by omega, by omega, h1, h2, h3⟩
end
end Go.Proofs.Ytheigemfbcgjcaa
