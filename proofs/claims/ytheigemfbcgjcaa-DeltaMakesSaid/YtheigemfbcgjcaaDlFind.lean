/-
  The walk of find: all rows that stand in some bytes.
-/
import Derived.Test.YtheigemfbcgjcaaDlConcat
import Derived.Test.YtheigemfbcgjcaaDlFindM
import Derived.Test.YtheigemfbcgjcaaRow
import Derived.Laws.Cover3
import Derived.Great.BuildSlice
namespace Go.Proofs.Ytheigemfbcgjcaa
open Go.RowKit

/-- The rows of some bytes, as find lays them: the places in order, where each row begins. -/
structure RowsAt (w : World) (gR : Nat) (a : Option Addr) (n c gp kb k : Nat) (v3 : Value) (P : List Nat) (Bg : List UInt8 → Option (Nat × Nat)) : Prop where
  c0 : w.cell? ⟨gR, 0, none⟩ = some (.slice a n c)
  c1 : w.cell? ⟨gR, 1, none⟩ = some (pS gp n)
  c2 : w.cell? ⟨gR, 2, none⟩ = some (.map (some kb))
  c3 : w.cell? ⟨gR, 3, none⟩ = some v3
  free : ∀ j, w.frozen? ⟨gR, j, none⟩ = false
  pl : IntsAt w gp n P
  mp : MapAt w kb k Bg
  ne : gR ≠ gp ∧ gR ≠ kb ∧ gp ≠ kb
section
variable {w w' : World} {gR : Nat} {a : Option Addr} {n c gp kb k : Nat} {v3 : Value} {P : List Nat} {Bg : List UInt8 → Option (Nat × Nat)}
theorem RowsAt.lt (h : RowsAt w gR a n c gp kb k v3 P Bg) : gR < w.heap.size := World.block_lt_of_cell? _ _ h.c0
theorem RowsAt.keep (h : RowsAt w gR a n c gp kb k v3 P Bg) (hs : w.heap.size ≤ w'.heap.size) (h1 : w'.heap[gR]? = w.heap[gR]?) (h2 : w'.heap[gp]? = w.heap[gp]?) (h3 : w'.heap[kb]? = w.heap[kb]?) : RowsAt w' gR a n c gp kb k v3 P Bg := by
  have e : ∀ j, w'.cell? ⟨gR, j, none⟩ = w.cell? ⟨gR, j, none⟩ := fun j => World.cell?_of_block (a := ⟨gR, j, none⟩) h1
  exact ⟨by rw [e]; exact h.c0, by rw [e]; exact h.c1, by rw [e]; exact h.c2, by rw [e]; exact h.c3, fun j => by rw [World.frozen?_of_block (a := ⟨gR, j, none⟩) h1]; exact h.free j, h.pl.block h2 hs, h.mp.block h3, h.ne⟩
theorem RowsAt.below (h : RowsAt w gR a n c gp kb k v3 P Bg) (hb : Below w.heap.size w w') : RowsAt w' gR a n c gp kb k v3 P Bg := h.keep hb.size (hb.block _ h.lt) (hb.block _ h.pl.2.1) (hb.block _ h.mp.lt)
theorem RowsAt.grown (h : RowsAt w gR a n c gp kb k v3 P Bg) {g : Nat} (hg : w.grownBy w' (some g)) (h1 : gR ≠ g) (h2 : gp ≠ g) (h3 : kb ≠ g) : RowsAt w' gR a n c gp kb k v3 P Bg :=
  h.keep hg.size (hg.block _ h.lt (fun e => h1 (Option.some.inj e))) (hg.block _ h.pl.2.1 (fun e => h2 (Option.some.inj e))) (hg.block _ h.mp.lt (fun e => h3 (Option.some.inj e)))
end
theorem wl_exD {w : World} {ops : Array Oper} {rest : List Oper} {o : Oper} {a : Act} {Q : Exit → Act → World → Prop} {v : Value} (hw : Region.wanted o (yielded ops a.tmps) = true) (hr : (execOp a.eval o).run Try.prog w = .ok (.value v) w)
    (h : wpList Try.prog ops Q rest (a.put o.dst v) w) : wpList Try.prog ops Q (o :: rest) a w := by
  unfold wpList
  rw [if_pos hw]
  exact .inl (by unfold Oper.wp; rw [hr]; exact h)
/-- The rows of some bytes, in memory: a tree of the least places beside. -/
def RowsOf (w : World) (lo : Nat) (b : List UInt8) (a : Option Addr) (n c gR : Nat) : Prop := ∃ gp kb k v3 P Bg, RowsAt w gR a n c gp kb k v3 P Bg ∧ InOrd b P ∧ BeginOk b P P.length Bg ∧ (lo ≤ gR ∧ lo ≤ gp ∧ lo ≤ kb) ∧ (n = 0 ∨ ∃ gl cl T, v3 = .slice (some ⟨gl, 0, none⟩) (2 * n) cl ∧ lo ≤ gl ∧ IntsAt w gl (2 * n) T ∧ TreeDone n P T 1)
theorem rows_new {w1 w2 w3 : World} {gp n c : Nat} {a : Option Addr} {P : List Nat} (hI : IntsAt w1 gp n P) (hw2 : w1.alloc (.map #[] 0) = w2) (hw3 : w2.alloc (.cells #[.slice a n c, pS gp n, .map (some w1.heap.size), .slice none 0 0] 57) = w3) :
    RowsAt w3 w2.heap.size a n c gp w1.heap.size 0 (.slice none 0 0) P (fun _ => none) ∧ w2.heap.size = w1.heap.size + 1 ∧ Below w1.heap.size w1 w3 := by
  have hb2 : Below w1.heap.size w1 w2 := hw2 ▸ (Below.refl _ _).alloc (Nat.le_refl _) _
  have hs2 : w2.heap.size = w1.heap.size + 1 := by rw [← hw2]; simp
  have hb3 : Below w2.heap.size w2 w3 := hw3 ▸ (Below.refl _ _).alloc (Nat.le_refl _) _
  have hR : w3.heap[w2.heap.size]? = some (.cells #[.slice a n c, pS gp n, .map (some w1.heap.size), .slice none 0 0] 57 (0, 0)) := hw3 ▸ heap_alloc_new w2 _
  have cc : ∀ j v, (#[.slice a n c, pS gp n, .map (some w1.heap.size), .slice none 0 0] : Array Value)[j]? = some v → w3.cell? ⟨w2.heap.size, j, none⟩ = some v := fun j v hj => by
    rw [cell_of_row w3 w2.heap.size j _ _ (0, 0) hR]; exact hj
  have hM : MapAt w2 w1.heap.size 0 (fun _ => none) := hw2 ▸ mapAt_new w1
  have hg := hI.2.1
  refine ⟨⟨cc 0 _ rfl, cc 1 _ rfl, cc 2 _ rfl, cc 3 _ rfl, fun j => frozen_of_row w3 w2.heap.size j _ _ hR, (hI.below hb2).below hb3, hM.block (hb3.block _ (by omega)), by omega, by omega, by omega⟩, hs2, hb2.trans (hb3.mono (by omega))⟩
theorem wp_allocR {w : World} {o : Oper} {a : Act} {K : Act → World → Prop} {Q : Exit → Act → World → Prop} (t : TypeId) (cs : List Value) (ho : o.op = .alloc t)
    (hz : ∀ w : World, (zeroValue t).run Try.prog w = .ok (.agg cs.toArray) w)
    (h : ∀ w1, RowAt w1 w.heap.size t cs → Below w.heap.size w w1 → w1.heap.size = w.heap.size + 1 → K (a.put o.dst (.pointer (some ⟨w.heap.size, 0, none⟩))) w1) : o.wp Try.prog a w K Q := by
  have hr : (Instr.alloc t true (.tuple #[])).run Try.prog w = .ok (.pointer (some ⟨w.heap.size, 0, none⟩)) (w.alloc (.cells cs.toArray t)) := by
    unfold Instr.alloc
    simp only [Sem.run_bind, hz w, Result.andThen_ok]
    rfl
  have hx : (execOp a.eval o).run Try.prog w = .ok (.value (.pointer (some ⟨w.heap.size, 0, none⟩))) (w.alloc (.cells cs.toArray t)) := by
    unfold execOp
    simp only [ho, Sem.run_bind, hr, Result.andThen_ok, Sem.run_pure]
  unfold Oper.wp
  rw [hx]
  exact h _ (heap_alloc_new w _) ((Below.refl _ _).alloc (Nat.le_refl _) _) (by simp)
theorem wp_storeR {w : World} {o : Oper} {a : Act} {K : Act → World → Prop} {Q : Exit → Act → World → Prop} (ty : TypeId) (x y : Operand) (ho : o.op = .store ty x y)
    (g : Nat) (t : TypeId) (old cs : List Value) (hx : a.eval x = .pointer (some ⟨g, 0, none⟩)) (hy : a.eval y = .agg cs.toArray) (hg : RowAt w g t old) (hl : old.length = cs.length)
    (hi : (Try.prog.info? ty).map (·.size) = some cs.length) (h1 : ∀ v ∈ cs, v.oneCell' = true)
    (h : ∀ w1, RowAt w1 g t cs → w.grownBy w1 (some g) → w1.heap.size = w.heap.size → K (a.put o.dst undef) w1) : o.wp Try.prog a w K Q := by
  have hs := run_storeVar_row (P := Try.prog) w g t ty old.toArray cs.toArray hg (by simpa using hi) (by simpa using hl) (all_oneCell_toArray h1)
  have hr : (execOp a.eval o).run Try.prog w = .ok .skip (w.setRow g cs.toArray) := by
    unfold execOp
    simp only [ho, hx, hy, Instr.storeAt, Instr.sureAddr, Sem.run_bind, Sem.run_pure, Result.andThen_ok, hs]
  unfold Oper.wp
  rw [hr]
  exact h _ (setRow_heap w g old.toArray cs.toArray t (0, 0) hg) ⟨rfl, rfl, rfl, by simp, fun k _ hk => setRow_other w g k _ (fun e => hk (by simp [e]))⟩ (by simp)
theorem RowsAt.set3 {w : World} {gR : Nat} {a : Option Addr} {n c gp kb k : Nat} {v3 : Value} {P : List Nat} {Bg : List UInt8 → Option (Nat × Nat)} (h : RowsAt w gR a n c gp kb k v3 P Bg) (v : Value) : RowsAt (w.setCell ⟨gR, 3, none⟩ v) gR a n c gp kb k v P Bg := by
  have e : ∀ j, j ≠ 3 → (w.setCell ⟨gR, 3, none⟩ v).cell? ⟨gR, j, none⟩ = w.cell? ⟨gR, j, none⟩ := fun j hj => World.cell?_setCell_other (w := w) (a := ⟨gR, 3, none⟩) (b := ⟨gR, j, none⟩) (v := v) (h := fun e => hj (by injection e with _ e2 _; exact e2.symm))
  exact ⟨by rw [e 0 (by decide)]; exact h.c0, by rw [e 1 (by decide)]; exact h.c1, by rw [e 2 (by decide)]; exact h.c2, World.cell?_setCell_same (w := w) (a := ⟨gR, 3, none⟩) (v := v) (h := h.c3), fun j => by rw [World.frozen?_setCell]; exact h.free j, h.pl.other (a := ⟨gR, 3, none⟩) h.ne.1.symm _, h.mp.block (heap_setCell_other w ⟨gR, 3, none⟩ kb v h.ne.2.1.symm), h.ne⟩
theorem TreeDone.start {n : Nat} {P : List Nat} (hP : P.length = n) : TreeDone n P (P ++ P) n := ⟨by rw [List.length_append, hP]; omega, fun j hj => by
  rw [List.getD_eq_getElem?_getD, List.getElem?_append_right (by omega), hP, show n + j - n = j from by omega, ← List.getD_eq_getElem?_getD], fun j h1 h2 => by omega⟩
theorem TreeDone.step {n m : Nat} {P T : List Nat} (h : TreeDone n P T (m + 1)) (h0 : 0 < m) (hm : m < n) : TreeDone n P (T.set m (min (T.getD (2 * m) 0) (T.getD (2 * m + 1) 0))) m := by
  have e : ∀ j x, j ≠ m → (T.set m x).getD j 0 = T.getD j 0 := fun j x hj => by rw [List.getD_eq_getElem?_getD, List.getD_eq_getElem?_getD, List.getElem?_set_ne (fun e => hj e.symm)]
  refine ⟨by rw [List.length_set]; exact h.1, fun j hj => by rw [e _ _ (by omega)]; exact h.2.1 j hj, fun j h1 h2 => ?_⟩
  rcases Nat.lt_or_ge m j with h3 | h3
  · rw [e _ _ (by omega), e _ _ (by omega), e _ _ (by omega)]
    exact h.2.2 j (by omega) h2
  · obtain rfl : j = m := by omega
    rw [e (2 * j) _ (by omega), e (2 * j + 1) _ (by omega), List.getD_eq_getElem?_getD, List.getElem?_set_self (by rw [h.1]; omega)]
    rfl
theorem exec_spanL {w : World} {o : Oper} {a : Act} (x : Operand) (ho : o.op = .load SpanT x) (g f t : Nat) (hx : a.eval x = .pointer (some ⟨g, 0, none⟩)) (h : RowAt w g SpanT [.int .i64 (f : Nat), .int .i64 (t : Nat)]) :
    (execOp a.eval o).run Try.prog w = .ok (.value (.agg (spC f t))) w := by
  have hr := run_load_row h Try.underlying60 rfl (by kernel_rfl)
  unfold execOp
  simp only [ho, hx, Instr.loadAt, Instr.sureAddr, Sem.run_bind, Sem.run_pure, Result.andThen_ok, hr]
theorem RowAt.row {w : World} {g : Nat} {t : TypeId} {cs : List Value} (h : RowAt w g t cs) : w.rangeAt g 0 cs := fun j v hj => by rw [Nat.zero_add]; exact h.cell j hj
theorem RowsAt.set {w : World} {gR : Nat} {a : Option Addr} {n c gp kb k : Nat} {v3 : Value} {P : List Nat} {Bg : List UInt8 → Option (Nat × Nat)} (h : RowsAt w gR a n c gp kb k v3 P Bg) {x : Addr} (v : Value) (h1 : gR ≠ x.block) (h2 : gp ≠ x.block) (h3 : kb ≠ x.block) : RowsAt (w.setCell x v) gR a n c gp kb k v3 P Bg :=
  h.keep (by simp) (heap_setCell_other w x gR v h1) (heap_setCell_other w x gp v h2) (heap_setCell_other w x kb v h3)
theorem RowsAt.put {w w' : World} {gR : Nat} {a : Option Addr} {n c gp kb k : Nat} {v3 : Value} {P : List Nat} {Bg : List UInt8 → Option (Nat × Nat)} (h : RowsAt w gR a n c gp kb k v3 P Bg) {k' : Nat} {Bg' : List UInt8 → Option (Nat × Nat)} (hm : MapAt w' kb k' Bg') (hg : w.grownBy w' (some kb)) : RowsAt w' gR a n c gp kb k' v3 P Bg' := by
  have h1 := hg.block gR h.lt (fun e => h.ne.2.1 (Option.some.inj e))
  have e : ∀ j, w'.cell? ⟨gR, j, none⟩ = w.cell? ⟨gR, j, none⟩ := fun j => World.cell?_of_block (a := ⟨gR, j, none⟩) h1
  exact ⟨by rw [e]; exact h.c0, by rw [e]; exact h.c1, by rw [e]; exact h.c2, by rw [e]; exact h.c3, fun j => by rw [World.frozen?_of_block (a := ⟨gR, j, none⟩) h1]; exact h.free j, h.pl.grown hg (fun e => h.ne.2.2 (Option.some.inj e)), hm, h.ne⟩
theorem infoIs : (Try.prog.info? 53).map (fun i => (i.zero, i.size, i.bytes)) = some (some (.slice none 0 0), 1, 24) := by kernel_rfl
theorem run_pairS (w : World) (gp n : Nat) : (Instr.buildSlice 78 2 #[(0, .slice (some ⟨gp, 0, none⟩) n n), (1, .slice (some ⟨gp, 0, none⟩) n n)]).run Try.prog w = .ok (.slice (some ⟨w.heap.size, 0, none⟩) 2 2) (w.alloc (.cells #[pS gp n, pS gp n] 53)) := by
  obtain ⟨i0, hi, hz0, hz1, hz2⟩ := info_parts infoIs
  refine run_buildSlice w _ _ 2 _ #[pS gp n, pS gp n] i0 _ Try.underlying78 hi hz0 (by rw [hz1]; omega) (by rw [hz1]; omega) ?_
  rw [hz1]
  kernel_rfl
theorem OwnG.lenI {w : World} {base n c : Nat} {a : Option Addr} {L : List Nat} (h : OwnG iwK INTf w base (.slice a n c) L) : L.length = n := by
  have h1 : Own1 N 3 w base (.slice a n c) L := by
    have := h.1
    rw [flat_iw] at this
    exact this
  exact h1.len
theorem wp_pairS {w : World} {o : Oper} {a : Act} {K : Act → World → Prop} {Q : Exit → Act → World → Prop} (x y : Operand) (ho : o.op = .buildSlice 78 2 #[(0, x), (1, y)]) (gp n : Nat) (P : List Nat)
    (hx : a.eval x = .slice (some ⟨gp, 0, none⟩) n n) (hy : a.eval y = .slice (some ⟨gp, 0, none⟩) n n) (hp : IntsAt w gp n P) (hn : n ≤ 1000000)
    (h : ∀ w1, Below w.heap.size w w1 → Parts_iw w1 w.heap.size [P, P] → K (a.put o.dst (.slice (some ⟨w.heap.size, 0, none⟩) 2 2)) w1) : o.wp Try.prog a w K Q := by
  have hr : (execOp a.eval o).run Try.prog w = .ok (.value (.slice (some ⟨w.heap.size, 0, none⟩) 2 2)) (w.alloc (.cells #[pS gp n, pS gp n] 53)) := by
    unfold execOp
    simp only [ho, List.map_toArray, List.map_cons, List.map_nil, hx, hy, Sem.run_bind, run_pairS w gp n, Result.andThen_ok, Sem.run_pure]
  have hb : Below w.heap.size w (w.alloc (.cells #[pS gp n, pS gp n] 53)) := (Below.refl _ _).alloc (Nat.le_refl _) _
  unfold Oper.wp
  rw [hr]
  refine h _ hb (fun j hj => ⟨some ⟨gp, 0, none⟩, n, n, ?_, ?_⟩)
  · have h1 : (w.alloc (.cells #[pS gp n, pS gp n] 53)).heap[w.heap.size]? = some (.cells #[pS gp n, pS gp n] 53 (0, 0)) := heap_alloc_new w _
    rw [cell_of_row _ w.heap.size j _ _ (0, 0) h1]
    have hj2 : j < 2 := hj
    obtain rfl | rfl : j = 0 ∨ j = 1 := by omega
    · rfl
    · rfl
  · have hj2 : j < 2 := hj
    have e : [P, P].getD j [] = P := by
      obtain rfl | rfl : j = 0 ∨ j = 1 := by omega
      · rfl
      · rfl
    rw [e]
    exact (hp.below hb).toG hn
set_option maxRecDepth 100000 in
set_option maxHeartbeats 8000000 in
theorem find_any (a : Option Addr) (n c : Nat) (b : List UInt8) (w : World) (h : Bytes w a n c b) (hn : n ≤ 400000) :
    Calls Try.prog 19 #[.slice a n c] w fun e w' => ∃ gR, e = .returned (.pointer (some ⟨gR, 0, none⟩)) ∧ RowsOf w' w.heap.size b a n c gR ∧ Below w.heap.size w w' := by
  have HN := Lib.hid hn
  have HS := Lib.hid h
  have HL := Lib.hid h.1
  have HIO := Lib.hid (inOrder_any a n c b w h (by omega))
  have hnI : (n : Int) ≤ 400000 := by omega
  have hn0 : (0 : Int) ≤ (n : Int) := by omega
  have hmm := @run_makeMap Try.prog
  clear h hn
  go_enter Try.func19, Try.ntmps19
  go_wp2_with (go_at_call 29; go_must (refine HIO.out.mono ?_; rintro e w1 ⟨gp, P, rfl, hP, hI, hlo, hb⟩; have HP := Lib.hid hP; have HI1 := Lib.hid hI; have HLO := Lib.hid hlo; have HB1 := Lib.hid hb; obtain ⟨w2, hw2⟩ : ∃ W, w1.alloc (.map #[] 0) = W := ⟨_, rfl⟩; obtain ⟨w3, hw3⟩ : ∃ W, w2.alloc (.cells #[.slice a n c, .slice (some ⟨gp, 0, none⟩) n n, .map (some w1.heap.size), .slice none 0 0] 57) = W := ⟨_, rfl⟩; have HNW := Lib.hid (rows_new (c := c) (a := a) hI hw2 hw3); have k0 : w3.cell? ⟨w2.heap.size, 1, none⟩ = some (.slice (some ⟨gp, 0, none⟩) n n) := HNW.out.1.c1; clear hP hI hlo hb; unfold pS))
  have HRW := Lib.hid HNW.out.1
  have HB3 := Lib.hid (HB1.out.trans (HNW.out.2.2.mono HB1.out.size))
  have HGE : Hid (w.heap.size < w2.heap.size ∧ w.heap.size < w1.heap.size ∧ w.heap.size < gp) := Lib.hid (by have h1 := HNW.out.2.1; have h2 := HB1.out.size; have h3 := HLO.out; have h4 := HI1.out.2.1; exact ⟨by omega, by omega, h3⟩)
  clear HNW hmm HI1 k0
  clear hw3
  clear hw2
  generalize w2.heap.size = gR at HRW HGE ⊢
  generalize w1.heap.size = kb at HRW HGE ⊢
  go_loopg [21] n (fun g v21 W => ∃ (i k : Nat) (Bg : List UInt8 → Option (Nat × Nat)), v21 = .int .i64 i ∧ g + i = n ∧ Hid (k ≤ i) ∧ Hid (RowsAt W gR a n c gp kb k (.slice none 0 0) P Bg) ∧ Hid (BeginOk b P i Bg) ∧ Hid (Below w.heap.size w W))
  case atStart => exact ⟨0, 0, _, rfl, rfl, Lib.hid (Nat.le_refl _), HRW, Lib.hid (begin_none b P), HB3⟩
  case round =>
    obtain ⟨i, k, Bg, rfl, hg, HKI, HR, HBG, HBW⟩ := hrel
    have HG := Lib.hid hg
    have hi0 : (0 : Int) ≤ (i : Int) := by omega
    by_cases hin : (i : Int) < (n : Int)
    · have HI := Lib.hid (show i < n by omega)
      obtain ⟨p, hp⟩ : ∃ p, P.getD i 0 = p := ⟨_, rfl⟩
      have HPE := Lib.hid hp
      have hpn : p < n := by
        rw [← hp, ← HL.out]
        exact getD_lt (fun x hx => List.mem_range.1 (HP.out.perm.mem_iff.1 hx)) (by rw [HP.out.len, HL.out]; exact HI.out)
      have HPN := Lib.hid hpn
      have hp0 : (0 : Int) ≤ (p : Int) := by omega
      have hpI : (p : Int) < (n : Int) := by omega
      have k1 : wr.cell? ⟨gp, i, none⟩ = some (.int .i64 (p : Nat)) := hp ▸ (HR.out.pl.2.2 i HI.out).1
      have W1 : IntKind.i64.wrap ((n : Int) - (p : Int)) = (n : Int) - (p : Int) := IntWalk.i64_in _ (by omega)
      have hw1 : IntKind.i64.wrap ((i : Int) + 1) = (i : Int) + 1 := IntWalk.i64_in _ (by omega)
      have HSL : Hid ((stB b P i).length = n - p) := Lib.hid (by show (b.drop (P.getD i 0)).length = _; rw [hp, List.length_drop, HL.out])
      clear hg hp hpn
      by_cases hsh : (n : Int) - (p : Int) < 8
      · have d1 : decide ((n : Int) - (p : Int) < 8) = true := decide_eq_true hsh
        have HBN := Lib.hid (HBG.out.short (by rw [HSL.out]; omega))
        go_wp2
        go_roundg (n - (i + 1))
        case measure => have := HG.out; have := HI.out; omega
        case rel => exact ⟨i + 1, k, Bg, by go_num, by have := HG.out; have := HI.out; omega, Lib.hid (by have := HKI.out; omega), HR, HBN, HBW⟩
      · have d1 : decide ((n : Int) - (p : Int) < 8) = false := decide_eq_false hsh
        obtain ⟨bb, off, rfl⟩ := bsome HS.out (by have := HS.out.2.1; have := HI.out; omega)
        have hpc : p ≤ n := by have := HPN.out; omega
        have hcp : ¬ c = p := by have := HPN.out; have := HS.out.2.1; omega
        have hpc' : ¬ p = c := by have := HPN.out; have := HS.out.2.1; omega
        have hcc : p ≤ c := by have := HPN.out; have := HS.out.2.1; omega
        have h8 : 8 ≤ n - p := by omega
        have har := fun W => run_arrayAt (P := Try.prog) W RowT 5 8 (some ⟨bb, off + p, none⟩) (n - p) (c - p) Try.underlying58 h8
        obtain ⟨r, hr⟩ : ∃ r, (stB b P i).take 8 = r := ⟨_, rfl⟩
        have HRE := Lib.hid hr
        have HR8 : Hid (r.length = 8) := Lib.hid (by rw [← hr, List.length_take, HSL.out]; omega)
        have HRG : Hid (wr.rangeAt bb (off + p) (r.map B)) := Lib.hid (fun j v hj => by
          have hjl : j < 8 := by have := (List.getElem?_eq_some_iff.1 hj).1; rw [List.length_map, HR8.out] at this; exact this
          have h1 := bcell (HS.out.below HBW.out) (p + j) (by omega)
          rw [show off + p + j = off + (p + j) from by omega, h1]
          rw [List.getElem?_map, ← HRE.out, List.getElem?_take, if_pos hjl] at hj
          have h2 : (stB b P i)[j]? = b[p + j]? := by show (b.drop (P.getD i 0))[j]? = _; rw [HPE.out, List.getElem?_drop]
          rw [h2] at hj
          rw [List.getD_eq_getElem?_getD]
          cases hb : b[p + j]? with
          | none => rw [hb] at hj; cases hj
          | some x => rw [hb] at hj; exact hj)
        clear hr
        go_wp2_with (first
          | ((with_reducible show wpList _ _ _ (⟨some 35, _, _, _, _, _⟩ :: _) _ _); go_must (refine wl_exD rfl (exec_row _ rfl bb (off + p) r HR8.out rfl HRG.out) ?_))
          | ((with_reducible show wpList _ _ _ (⟨some 6, _, _, _, _, _⟩ :: _) _ _); go_must (refine alloc_row rfl RowT (List.replicate 8 (.int .u8 0)) rfl (fun W => by kernel_rfl) ?_; intro w4 h4 hb4 hs4; have HX4 := Lib.hid h4; have HR4 := Lib.hid (HR.out.below hb4); have HB4 := Lib.hid (HBW.out.trans (hb4.mono HBW.out.size)); have HLT4 : Hid (w.heap.size ≤ wr.heap.size ∧ gR < wr.heap.size ∧ gp < wr.heap.size ∧ kb < wr.heap.size) := Lib.hid ⟨HBW.out.size, HR.out.lt, HR.out.pl.2.1, HR.out.mp.lt⟩; clear h4 hb4 hs4; generalize wr.heap.size = g6 at HX4 HLT4 ⊢))
          | ((with_reducible show wpList _ _ _ (⟨_, Op.store _ (.tmp 6) _, _, _, _, _⟩ :: _) _ _); go_must (refine store_row rfl RowT _ _ rfl g6 RowT (List.replicate 8 (.int .u8 0)) (r.map B) rfl rfl HX4.out (by rw [List.length_map, HR8.out]; rfl) (by rw [List.length_map, HR8.out]; kernel_rfl) (fun v hv => by obtain ⟨x, _, rfl⟩ := List.mem_map.1 hv; rfl) ?_; intro w5 h5 hg5 hs5; have HX5 := Lib.hid h5; have HR5 := Lib.hid (HR4.out.grown hg5 (by have := HLT4.out; omega) (by have := HLT4.out; omega) (by have := HLT4.out; omega)); have HB5 := Lib.hid (HB4.out.grown hg5 HB4.out.size (fun k hk => by cases hk; exact HLT4.out.1)); clear h5 hg5 hs5)))
        have HR6 : Hid (RowsAt w5.drew gR (some ⟨bb, off, none⟩) n c gp kb k (.slice none 0 0) P Bg) := Lib.hid (HR5.out.keep (Nat.le_refl _) rfl rfl rfl)
        have HX6 : Hid (RowAt w5.drew g6 RowT (r.map B)) := Lib.hid HX5.out
        have HB6 : Hid (Below w.heap.size w w5.drew) := Lib.hid HB5.out.drew
        have HLT6 : Hid (w.heap.size ≤ g6 ∧ gR < g6 ∧ gp < g6 ∧ kb < g6 ∧ g6 < w5.drew.heap.size) := Lib.hid ⟨HLT4.out.1, HLT4.out.2.1, HLT4.out.2.2.1, HLT4.out.2.2.2, HX6.out.lt⟩
        have HN8 : Hid (8 ≤ (stB b P i).length) := Lib.hid (by rw [HSL.out]; exact h8)
        clear har h8
        cases hbg : Bg r with
        | none =>
          have HS7 : Hid ((Bg r).getD (0, 0) = (0, 0)) := Lib.hid (by rw [hbg]; rfl)
          have HQ7 : Hid ((Bg r).isSome = false) := Lib.hid (by rw [hbg]; rfl)
          have HBN : Hid (BeginOk b P (i + 1) (fun z => if z = r then some (i, i + 1) else Bg z)) := Lib.hid (by have h := HBG.out.next HN8.out i (by rw [HRE.out, hbg]; exact .inr ⟨rfl, rfl⟩); rw [HRE.out] at h; exact h)
          clear hbg
          refine wp_region_held_drew (S := fun W => RowsAt W gR (some ⟨bb, off, none⟩) n c gp kb k (.slice none 0 0) P Bg ∧ RowAt W g6 RowT (r.map B)) (by kernel_rfl) ⟨HR6.out, HX6.out⟩ (fun hHeld => ?_)
          generalize w5.drew = w6 at HR6 HX6 HB6 HLT6 hHeld ⊢
          refine wpAnyH_take (i := 0) (oi := ⟨some 37, .move (.tmp 3), _, _, _, _⟩) (v := (.pointer (some ⟨gR, 0, none⟩))) rfl (by kernel_rfl) (by kernel_rfl) (by kernel_rfl) (fun _ _ _ h => h) (Or.inl ⟨by rfl, fun W hW => by go_simp⟩) (by assumption) ?_
          simp only [Act.put, List.setIfInBounds_toArray, List.set_cons_zero, List.set_cons_succ]
          refine wpAnyH_take (i := 1) (oi := ⟨some 38, .nilCheck (.tmp 37), _, _, _, _⟩) (v := (.pointer (some ⟨gR, 0, none⟩))) rfl (by kernel_rfl) (by kernel_rfl) (by kernel_rfl) (fun _ _ _ h => h) (Or.inl ⟨by rfl, fun W hW => by go_simp⟩) (by assumption) ?_
          simp only [Act.put, List.setIfInBounds_toArray, List.set_cons_zero, List.set_cons_succ]
          refine wpAnyH_take (i := 2) (oi := ⟨some 39, .fieldAddr 57 (.tmp 38) 2, _, _, _, _⟩) (v := (.pointer (some ⟨gR, 2, none⟩))) rfl (by kernel_rfl) (by kernel_rfl) (by kernel_rfl) (fun _ _ _ h => h) (Or.inl ⟨by rfl, fun W hW => by go_simp⟩) (by assumption) ?_
          simp only [Act.put, List.setIfInBounds_toArray, List.set_cons_zero, List.set_cons_succ]
          refine wpAnyH_take (i := 3) (oi := ⟨some 40, .load 55 (.tmp 39), _, _, _, _⟩) (v := (.map (some kb))) rfl (by kernel_rfl) (by kernel_rfl) (by kernel_rfl) (fun _ _ _ h => h) (Or.inl ⟨by rfl, fun W hW => by have hcell := hW.1.c2; go_simp⟩) (by assumption) ?_
          simp only [Act.put, List.setIfInBounds_toArray, List.set_cons_zero, List.set_cons_succ]
          refine wpAnyH_take (i := 4) (oi := ⟨some 41, .load 58 (.tmp 6), _, _, _, _⟩) (v := (.agg (rowC r))) rfl (by kernel_rfl) (by kernel_rfl) (by kernel_rfl) (fun _ _ _ h => h) (Or.inl ⟨by rfl, fun W hW => exec_row (.tmp 6) rfl g6 0 r HR8.out rfl hW.2.row⟩) (by assumption) ?_
          simp only [Act.put, List.setIfInBounds_toArray, List.set_cons_zero, List.set_cons_succ]
          refine wpAnyH_take (i := 5) (oi := ⟨some 42, .lookup 55 (.tmp 40) (.tmp 41) true, _, _, _, _⟩) (v := (.tuple #[(.agg (spC 0 0)), (.bool false)])) rfl (by kernel_rfl) (by kernel_rfl) (by kernel_rfl) (fun _ _ _ h => h) (Or.inl ⟨by rfl, fun W hW => exec_look hW.1.mp (.tmp 40) (.tmp 41) rfl rfl r HR8.out rfl (0, 0) false HS7.out HQ7.out⟩) (by assumption) ?_
          simp only [Act.put, List.setIfInBounds_toArray, List.set_cons_zero, List.set_cons_succ]
          refine wpAnyH_take (i := 6) (oi := ⟨some 36, .move (.tmp 42), _, _, _, _⟩) (v := (.tuple #[(.agg (spC 0 0)), (.bool false)])) rfl (by kernel_rfl) (by kernel_rfl) (by kernel_rfl) (fun _ _ _ h => h) (Or.inl ⟨by rfl, fun W hW => by go_simp⟩) (by assumption) ?_
          simp only [Act.put, List.setIfInBounds_toArray, List.set_cons_zero, List.set_cons_succ]
          refine wpAnyH_take (i := 7) (oi := ⟨some 43, .extract (.tmp 36) 0, _, _, _, _⟩) (v := (.agg (spC 0 0))) rfl (by kernel_rfl) (by kernel_rfl) (by kernel_rfl) (fun _ _ _ h => h) (Or.inl ⟨by rfl, fun W hW => by go_simp⟩) (by assumption) ?_
          simp only [Act.put, List.setIfInBounds_toArray, List.set_cons_zero, List.set_cons_succ]
          refine wpAnyH_take (i := 8) (oi := ⟨some 44, .extract (.tmp 36) 1, _, _, _, _⟩) (v := (.bool false)) rfl (by kernel_rfl) (by kernel_rfl) (by kernel_rfl) (fun _ _ _ h => h) (Or.inl ⟨by rfl, fun W hW => by go_simp⟩) (by assumption) ?_
          simp only [Act.put, List.setIfInBounds_toArray, List.set_cons_zero, List.set_cons_succ]
          refine wpAnyH_ready (rs := [9]) (by kernel_rfl) (by simp) ?_
          refine AllReadyH.cons (o := ⟨some 7, .alloc 60, _, _, _, _⟩) rfl (fun K hK => ?_) AllReadyH.nil
          refine wready (wp_allocR SpanT [.int .i64 0, .int .i64 0] rfl (fun W => by kernel_rfl) ?_)
          intro w8 ha hb hs
          have HX8 := Lib.hid (HX6.out.below hb)
          have HR8' := Lib.hid (HR6.out.below hb)
          have HB8 := Lib.hid (HB6.out.trans (hb.mono HB6.out.size))
          have HY8 := Lib.hid ha
          clear ha hb hs
          refine hK.out _ _ ⟨HR8'.out, HX8.out⟩ (fun hHeld => ?_)
          clear hK K
          refine wpAnyH_ready (rs := [10]) (by kernel_rfl) (by simp) ?_
          refine AllReadyH.cons (o := ⟨none, .store 60 (.tmp 7) (.tmp 43), _, _, _, _⟩) rfl (fun K hK => ?_) AllReadyH.nil
          refine wready (wp_storeR SpanT (.tmp 7) (.tmp 43) rfl w6.heap.size SpanT [.int .i64 0, .int .i64 0] [.int .i64 (0 : Nat), .int .i64 (0 : Nat)] rfl rfl HY8.out rfl (by kernel_rfl) (fun v hv => by simp only [List.mem_cons, List.not_mem_nil, or_false] at hv; rcases hv with rfl | rfl <;> rfl) ?_)
          intro w9 ha hg hs
          have HLT9 := HLT6.out
          have HX9 := Lib.hid (HX8.out.grown hg (by intro e; have := Option.some.inj e; omega))
          have HR9 := Lib.hid (HR8'.out.grown hg (by omega) (by omega) (by omega))
          have HB9 := Lib.hid (HB8.out.grown hg HB8.out.size (fun k hk => by cases hk; omega))
          have HY9 := Lib.hid ha
          clear ha hg hs HLT9
          refine hK.out _ _ ⟨HR9.out, HX9.out⟩ (fun hHeld => ?_)
          clear hK K
          refine wpAnyH_take (i := 11) (oi := ⟨some 8, .assign (.tmp 44), _, _, _, _⟩) (v := (.bool false)) rfl (by kernel_rfl) (by kernel_rfl) (by kernel_rfl) (fun _ _ _ h => h) (Or.inl ⟨by rfl, fun W hW => by go_simp⟩) (by assumption) ?_
          simp only [Act.put, List.setIfInBounds_toArray, List.set_cons_zero, List.set_cons_succ]
          refine wpAnyH_done (by kernel_rfl) ?_ _
          generalize w6.heap.size = g7 at HY9 HLT6 ⊢
          clear hHeld
          have y0 := HY9.out.cell 0 rfl
          have y1 := HY9.out.cell 1 rfl
          have z0 := HY9.out.free 0
          have z1 := HY9.out.free 1
          go_wp2
          have hl := HLT6.out
          have HRa : Hid (RowsAt ((w9.setCell ⟨g7, 0, none⟩ (.int .i64 (i : Nat))).setCell ⟨g7, 1, none⟩ (.int .i64 ((i : Int) + 1))).drew gR (some ⟨bb, off, none⟩) n c gp kb k (.slice none 0 0) P Bg) := Lib.hid (((HR9.out.set (x := ⟨g7, 0, none⟩) (.int .i64 (i : Nat)) (by show gR ≠ g7; omega) (by show gp ≠ g7; omega) (by show kb ≠ g7; omega)).set (x := ⟨g7, 1, none⟩) (.int .i64 ((i : Int) + 1)) (by show gR ≠ g7; omega) (by show gp ≠ g7; omega) (by show kb ≠ g7; omega)).keep (Nat.le_refl _) rfl rfl rfl)
          have HXa : Hid (RowAt ((w9.setCell ⟨g7, 0, none⟩ (.int .i64 (i : Nat))).setCell ⟨g7, 1, none⟩ (.int .i64 ((i : Int) + 1))).drew g6 RowT (r.map B)) := Lib.hid ((HX9.out.other (a := ⟨g7, 0, none⟩) (Nat.ne_of_lt hl.2.2.2.2) _).other (a := ⟨g7, 1, none⟩) (Nat.ne_of_lt hl.2.2.2.2) (.int .i64 ((i : Int) + 1)))
          have HYa : Hid (RowAt ((w9.setCell ⟨g7, 0, none⟩ (.int .i64 (i : Nat))).setCell ⟨g7, 1, none⟩ (.int .i64 ((i : Int) + 1))).drew g7 SpanT [.int .i64 (i : Nat), .int .i64 ((i + 1 : Nat) : Int)]) := Lib.hid ((HY9.out.set 0 (.int .i64 (i : Nat))).set 1 (.int .i64 ((i : Int) + 1)))
          have HBa : Hid (Below w.heap.size w ((w9.setCell ⟨g7, 0, none⟩ (.int .i64 (i : Nat))).setCell ⟨g7, 1, none⟩ (.int .i64 ((i : Int) + 1))).drew) := Lib.hid ((HB9.out.setCell (p := ⟨g7, 0, none⟩) (by show w.heap.size ≤ g7; omega) _).setCell (p := ⟨g7, 1, none⟩) (by show w.heap.size ≤ g7; omega) (.int .i64 ((i : Int) + 1))).drew
          clear hl y0 y1 z0 z1 HY9 HR9 HX9 HB9
          refine wp_region_held_drew (S := fun W => W.cell? ⟨gR, 2, none⟩ = some (.map (some kb)) ∧ RowAt W g6 RowT (r.map B) ∧ RowAt W g7 SpanT [.int .i64 (i : Nat), .int .i64 ((i + 1 : Nat) : Int)]) (by kernel_rfl) ⟨HRa.out.c2, HXa.out, HYa.out⟩ (fun hHeld => ?_)
          generalize ((w9.setCell ⟨g7, 0, none⟩ (.int .i64 (i : Nat))).setCell ⟨g7, 1, none⟩ (.int .i64 ((i : Int) + 1))).drew = wa at HRa HXa HYa HBa hHeld ⊢
          refine wpAnyH_take (i := 0) (oi := ⟨some 52, .move (.tmp 3), _, _, _, _⟩) (v := (.pointer (some ⟨gR, 0, none⟩))) rfl (by kernel_rfl) (by kernel_rfl) (by kernel_rfl) (fun _ _ _ h => h) (Or.inl ⟨by rfl, fun W hW => by go_simp⟩) (by assumption) ?_
          simp only [Act.put, List.setIfInBounds_toArray, List.set_cons_zero, List.set_cons_succ]
          refine wpAnyH_take (i := 1) (oi := ⟨some 53, .nilCheck (.tmp 52), _, _, _, _⟩) (v := (.pointer (some ⟨gR, 0, none⟩))) rfl (by kernel_rfl) (by kernel_rfl) (by kernel_rfl) (fun _ _ _ h => h) (Or.inl ⟨by rfl, fun W hW => by go_simp⟩) (by assumption) ?_
          simp only [Act.put, List.setIfInBounds_toArray, List.set_cons_zero, List.set_cons_succ]
          refine wpAnyH_take (i := 2) (oi := ⟨some 54, .fieldAddr 57 (.tmp 53) 2, _, _, _, _⟩) (v := (.pointer (some ⟨gR, 2, none⟩))) rfl (by kernel_rfl) (by kernel_rfl) (by kernel_rfl) (fun _ _ _ h => h) (Or.inl ⟨by rfl, fun W hW => by go_simp⟩) (by assumption) ?_
          simp only [Act.put, List.setIfInBounds_toArray, List.set_cons_zero, List.set_cons_succ]
          refine wpAnyH_take (i := 3) (oi := ⟨some 55, .load 55 (.tmp 54), _, _, _, _⟩) (v := (.map (some kb))) rfl (by kernel_rfl) (by kernel_rfl) (by kernel_rfl) (fun _ _ _ h => h) (Or.inl ⟨by rfl, fun W hW => by have hcell := hW.1; go_simp⟩) (by assumption) ?_
          simp only [Act.put, List.setIfInBounds_toArray, List.set_cons_zero, List.set_cons_succ]
          refine wpAnyH_take (i := 4) (oi := ⟨some 56, .load 58 (.tmp 6), _, _, _, _⟩) (v := (.agg (rowC r))) rfl (by kernel_rfl) (by kernel_rfl) (by kernel_rfl) (fun _ _ _ h => h) (Or.inl ⟨by rfl, fun W hW => exec_row (.tmp 6) rfl g6 0 r HR8.out rfl hW.2.1.row⟩) (by assumption) ?_
          simp only [Act.put, List.setIfInBounds_toArray, List.set_cons_zero, List.set_cons_succ]
          refine wpAnyH_take (i := 5) (oi := ⟨some 57, .load 60 (.tmp 7), _, _, _, _⟩) (v := (.agg (spC i (i + 1)))) rfl (by kernel_rfl) (by kernel_rfl) (by kernel_rfl) (fun _ _ _ h => h) (Or.inl ⟨by rfl, fun W hW => exec_spanL (.tmp 7) rfl g7 i (i + 1) rfl hW.2.2⟩) (by assumption) ?_
          simp only [Act.put, List.setIfInBounds_toArray, List.set_cons_zero, List.set_cons_succ]
          refine wpAnyH_ready (rs := [6]) (by kernel_rfl) (by simp) ?_
          refine AllReadyH.cons (o := ⟨none, .mapUpdate 55 (.tmp 55) (.tmp 56) (.tmp 57), _, _, _, _⟩) rfl (fun K hK => ?_) AllReadyH.nil
          have hl := HLT6.out
          have hge := HGE.out
          refine wready (wp_mapPut HRa.out.mp (by have := HKI.out; have := HI.out; have := HN.out; omega) (.tmp 55) (.tmp 56) (.tmp 57) rfl rfl r HR8.out rfl i (i + 1) rfl ?_)
          intro wb hm hg
          have HRb := Lib.hid (HRa.out.put hm hg)
          have HXb := Lib.hid (HXa.out.grown hg (fun e => by have := Option.some.inj e; omega))
          have HYb := Lib.hid (HYa.out.grown hg (fun e => by have := Option.some.inj e; omega))
          have HBb := Lib.hid (HBa.out.grown hg HBa.out.size (fun k hk => by cases hk; omega))
          clear hm hg hl hge
          refine hK.out _ _ ⟨HRb.out.c2, HXb.out, HYb.out⟩ (fun hHeld => ?_)
          clear hK K
          refine wpAnyH_done (by kernel_rfl) ?_ _
          clear hHeld
          go_wp2
          go_roundg (n - (i + 1))
          case measure => have := HG.out; have := HI.out; omega
          case rel => exact ⟨i + 1, k + 1, _, by go_num, by have := HG.out; have := HI.out; omega, Lib.hid (by have := HKI.out; omega), HRb, HBN, HBb⟩
        | some s0 =>
          obtain ⟨f0, t0⟩ := s0
          have HS7 : Hid ((Bg r).getD (0, 0) = (f0, t0)) := Lib.hid (by rw [hbg]; rfl)
          have HQ7 : Hid ((Bg r).isSome = true) := Lib.hid (by rw [hbg]; rfl)
          have HBN : Hid (BeginOk b P (i + 1) (fun z => if z = r then some (f0, i + 1) else Bg z)) := Lib.hid (by have h := HBG.out.next HN8.out f0 (by rw [HRE.out, hbg]; exact .inl rfl); rw [HRE.out] at h; exact h)
          clear hbg
          refine wp_region_held_drew (S := fun W => RowsAt W gR (some ⟨bb, off, none⟩) n c gp kb k (.slice none 0 0) P Bg ∧ RowAt W g6 RowT (r.map B)) (by kernel_rfl) ⟨HR6.out, HX6.out⟩ (fun hHeld => ?_)
          generalize w5.drew = w6 at HR6 HX6 HB6 HLT6 hHeld ⊢
          refine wpAnyH_take (i := 0) (oi := ⟨some 37, .move (.tmp 3), _, _, _, _⟩) (v := (.pointer (some ⟨gR, 0, none⟩))) rfl (by kernel_rfl) (by kernel_rfl) (by kernel_rfl) (fun _ _ _ h => h) (Or.inl ⟨by rfl, fun W hW => by go_simp⟩) (by assumption) ?_
          simp only [Act.put, List.setIfInBounds_toArray, List.set_cons_zero, List.set_cons_succ]
          refine wpAnyH_take (i := 1) (oi := ⟨some 38, .nilCheck (.tmp 37), _, _, _, _⟩) (v := (.pointer (some ⟨gR, 0, none⟩))) rfl (by kernel_rfl) (by kernel_rfl) (by kernel_rfl) (fun _ _ _ h => h) (Or.inl ⟨by rfl, fun W hW => by go_simp⟩) (by assumption) ?_
          simp only [Act.put, List.setIfInBounds_toArray, List.set_cons_zero, List.set_cons_succ]
          refine wpAnyH_take (i := 2) (oi := ⟨some 39, .fieldAddr 57 (.tmp 38) 2, _, _, _, _⟩) (v := (.pointer (some ⟨gR, 2, none⟩))) rfl (by kernel_rfl) (by kernel_rfl) (by kernel_rfl) (fun _ _ _ h => h) (Or.inl ⟨by rfl, fun W hW => by go_simp⟩) (by assumption) ?_
          simp only [Act.put, List.setIfInBounds_toArray, List.set_cons_zero, List.set_cons_succ]
          refine wpAnyH_take (i := 3) (oi := ⟨some 40, .load 55 (.tmp 39), _, _, _, _⟩) (v := (.map (some kb))) rfl (by kernel_rfl) (by kernel_rfl) (by kernel_rfl) (fun _ _ _ h => h) (Or.inl ⟨by rfl, fun W hW => by have hcell := hW.1.c2; go_simp⟩) (by assumption) ?_
          simp only [Act.put, List.setIfInBounds_toArray, List.set_cons_zero, List.set_cons_succ]
          refine wpAnyH_take (i := 4) (oi := ⟨some 41, .load 58 (.tmp 6), _, _, _, _⟩) (v := (.agg (rowC r))) rfl (by kernel_rfl) (by kernel_rfl) (by kernel_rfl) (fun _ _ _ h => h) (Or.inl ⟨by rfl, fun W hW => exec_row (.tmp 6) rfl g6 0 r HR8.out rfl hW.2.row⟩) (by assumption) ?_
          simp only [Act.put, List.setIfInBounds_toArray, List.set_cons_zero, List.set_cons_succ]
          refine wpAnyH_take (i := 5) (oi := ⟨some 42, .lookup 55 (.tmp 40) (.tmp 41) true, _, _, _, _⟩) (v := (.tuple #[(.agg (spC f0 t0)), (.bool true)])) rfl (by kernel_rfl) (by kernel_rfl) (by kernel_rfl) (fun _ _ _ h => h) (Or.inl ⟨by rfl, fun W hW => exec_look hW.1.mp (.tmp 40) (.tmp 41) rfl rfl r HR8.out rfl (f0, t0) true HS7.out HQ7.out⟩) (by assumption) ?_
          simp only [Act.put, List.setIfInBounds_toArray, List.set_cons_zero, List.set_cons_succ]
          refine wpAnyH_take (i := 6) (oi := ⟨some 36, .move (.tmp 42), _, _, _, _⟩) (v := (.tuple #[(.agg (spC f0 t0)), (.bool true)])) rfl (by kernel_rfl) (by kernel_rfl) (by kernel_rfl) (fun _ _ _ h => h) (Or.inl ⟨by rfl, fun W hW => by go_simp⟩) (by assumption) ?_
          simp only [Act.put, List.setIfInBounds_toArray, List.set_cons_zero, List.set_cons_succ]
          refine wpAnyH_take (i := 7) (oi := ⟨some 43, .extract (.tmp 36) 0, _, _, _, _⟩) (v := (.agg (spC f0 t0))) rfl (by kernel_rfl) (by kernel_rfl) (by kernel_rfl) (fun _ _ _ h => h) (Or.inl ⟨by rfl, fun W hW => by go_simp⟩) (by assumption) ?_
          simp only [Act.put, List.setIfInBounds_toArray, List.set_cons_zero, List.set_cons_succ]
          refine wpAnyH_take (i := 8) (oi := ⟨some 44, .extract (.tmp 36) 1, _, _, _, _⟩) (v := (.bool true)) rfl (by kernel_rfl) (by kernel_rfl) (by kernel_rfl) (fun _ _ _ h => h) (Or.inl ⟨by rfl, fun W hW => by go_simp⟩) (by assumption) ?_
          simp only [Act.put, List.setIfInBounds_toArray, List.set_cons_zero, List.set_cons_succ]
          refine wpAnyH_ready (rs := [9]) (by kernel_rfl) (by simp) ?_
          refine AllReadyH.cons (o := ⟨some 7, .alloc 60, _, _, _, _⟩) rfl (fun K hK => ?_) AllReadyH.nil
          refine wready (wp_allocR SpanT [.int .i64 0, .int .i64 0] rfl (fun W => by kernel_rfl) ?_)
          intro w8 ha hb hs
          have HX8 := Lib.hid (HX6.out.below hb)
          have HR8' := Lib.hid (HR6.out.below hb)
          have HB8 := Lib.hid (HB6.out.trans (hb.mono HB6.out.size))
          have HY8 := Lib.hid ha
          clear ha hb hs
          refine hK.out _ _ ⟨HR8'.out, HX8.out⟩ (fun hHeld => ?_)
          clear hK K
          refine wpAnyH_ready (rs := [10]) (by kernel_rfl) (by simp) ?_
          refine AllReadyH.cons (o := ⟨none, .store 60 (.tmp 7) (.tmp 43), _, _, _, _⟩) rfl (fun K hK => ?_) AllReadyH.nil
          refine wready (wp_storeR SpanT (.tmp 7) (.tmp 43) rfl w6.heap.size SpanT [.int .i64 0, .int .i64 0] [.int .i64 (f0 : Nat), .int .i64 (t0 : Nat)] rfl rfl HY8.out rfl (by kernel_rfl) (fun v hv => by simp only [List.mem_cons, List.not_mem_nil, or_false] at hv; rcases hv with rfl | rfl <;> rfl) ?_)
          intro w9 ha hg hs
          have HLT9 := HLT6.out
          have HX9 := Lib.hid (HX8.out.grown hg (by intro e; have := Option.some.inj e; omega))
          have HR9 := Lib.hid (HR8'.out.grown hg (by omega) (by omega) (by omega))
          have HB9 := Lib.hid (HB8.out.grown hg HB8.out.size (fun k hk => by cases hk; omega))
          have HY9 := Lib.hid ha
          clear ha hg hs HLT9
          refine hK.out _ _ ⟨HR9.out, HX9.out⟩ (fun hHeld => ?_)
          clear hK K
          refine wpAnyH_take (i := 11) (oi := ⟨some 8, .assign (.tmp 44), _, _, _, _⟩) (v := (.bool true)) rfl (by kernel_rfl) (by kernel_rfl) (by kernel_rfl) (fun _ _ _ h => h) (Or.inl ⟨by rfl, fun W hW => by go_simp⟩) (by assumption) ?_
          simp only [Act.put, List.setIfInBounds_toArray, List.set_cons_zero, List.set_cons_succ]
          refine wpAnyH_done (by kernel_rfl) ?_ _
          generalize w6.heap.size = g7 at HY9 HLT6 ⊢
          clear hHeld
          have y0 := HY9.out.cell 0 rfl
          have y1 := HY9.out.cell 1 rfl
          have z0 := HY9.out.free 0
          have z1 := HY9.out.free 1
          go_wp2
          have hl := HLT6.out
          have HRa : Hid (RowsAt (w9.setCell ⟨g7, 1, none⟩ (.int .i64 ((i : Int) + 1))).drew gR (some ⟨bb, off, none⟩) n c gp kb k (.slice none 0 0) P Bg) := Lib.hid ((HR9.out.set (x := ⟨g7, 1, none⟩) (.int .i64 ((i : Int) + 1)) (by show gR ≠ g7; omega) (by show gp ≠ g7; omega) (by show kb ≠ g7; omega)).keep (Nat.le_refl _) rfl rfl rfl)
          have HXa : Hid (RowAt (w9.setCell ⟨g7, 1, none⟩ (.int .i64 ((i : Int) + 1))).drew g6 RowT (r.map B)) := Lib.hid (HX9.out.other (a := ⟨g7, 1, none⟩) (Nat.ne_of_lt hl.2.2.2.2) (.int .i64 ((i : Int) + 1)))
          have HYa : Hid (RowAt (w9.setCell ⟨g7, 1, none⟩ (.int .i64 ((i : Int) + 1))).drew g7 SpanT [.int .i64 (f0 : Nat), .int .i64 ((i + 1 : Nat) : Int)]) := Lib.hid (HY9.out.set 1 (.int .i64 ((i : Int) + 1)))
          have HBa : Hid (Below w.heap.size w (w9.setCell ⟨g7, 1, none⟩ (.int .i64 ((i : Int) + 1))).drew) := Lib.hid (HB9.out.setCell (p := ⟨g7, 1, none⟩) (by show w.heap.size ≤ g7; omega) (.int .i64 ((i : Int) + 1))).drew
          clear hl y0 y1 z0 z1 HY9 HR9 HX9 HB9
          refine wp_region_held_drew (S := fun W => W.cell? ⟨gR, 2, none⟩ = some (.map (some kb)) ∧ RowAt W g6 RowT (r.map B) ∧ RowAt W g7 SpanT [.int .i64 (f0 : Nat), .int .i64 ((i + 1 : Nat) : Int)]) (by kernel_rfl) ⟨HRa.out.c2, HXa.out, HYa.out⟩ (fun hHeld => ?_)
          generalize (w9.setCell ⟨g7, 1, none⟩ (.int .i64 ((i : Int) + 1))).drew = wa at HRa HXa HYa HBa hHeld ⊢
          refine wpAnyH_take (i := 0) (oi := ⟨some 52, .move (.tmp 3), _, _, _, _⟩) (v := (.pointer (some ⟨gR, 0, none⟩))) rfl (by kernel_rfl) (by kernel_rfl) (by kernel_rfl) (fun _ _ _ h => h) (Or.inl ⟨by rfl, fun W hW => by go_simp⟩) (by assumption) ?_
          simp only [Act.put, List.setIfInBounds_toArray, List.set_cons_zero, List.set_cons_succ]
          refine wpAnyH_take (i := 1) (oi := ⟨some 53, .nilCheck (.tmp 52), _, _, _, _⟩) (v := (.pointer (some ⟨gR, 0, none⟩))) rfl (by kernel_rfl) (by kernel_rfl) (by kernel_rfl) (fun _ _ _ h => h) (Or.inl ⟨by rfl, fun W hW => by go_simp⟩) (by assumption) ?_
          simp only [Act.put, List.setIfInBounds_toArray, List.set_cons_zero, List.set_cons_succ]
          refine wpAnyH_take (i := 2) (oi := ⟨some 54, .fieldAddr 57 (.tmp 53) 2, _, _, _, _⟩) (v := (.pointer (some ⟨gR, 2, none⟩))) rfl (by kernel_rfl) (by kernel_rfl) (by kernel_rfl) (fun _ _ _ h => h) (Or.inl ⟨by rfl, fun W hW => by go_simp⟩) (by assumption) ?_
          simp only [Act.put, List.setIfInBounds_toArray, List.set_cons_zero, List.set_cons_succ]
          refine wpAnyH_take (i := 3) (oi := ⟨some 55, .load 55 (.tmp 54), _, _, _, _⟩) (v := (.map (some kb))) rfl (by kernel_rfl) (by kernel_rfl) (by kernel_rfl) (fun _ _ _ h => h) (Or.inl ⟨by rfl, fun W hW => by have hcell := hW.1; go_simp⟩) (by assumption) ?_
          simp only [Act.put, List.setIfInBounds_toArray, List.set_cons_zero, List.set_cons_succ]
          refine wpAnyH_take (i := 4) (oi := ⟨some 56, .load 58 (.tmp 6), _, _, _, _⟩) (v := (.agg (rowC r))) rfl (by kernel_rfl) (by kernel_rfl) (by kernel_rfl) (fun _ _ _ h => h) (Or.inl ⟨by rfl, fun W hW => exec_row (.tmp 6) rfl g6 0 r HR8.out rfl hW.2.1.row⟩) (by assumption) ?_
          simp only [Act.put, List.setIfInBounds_toArray, List.set_cons_zero, List.set_cons_succ]
          refine wpAnyH_take (i := 5) (oi := ⟨some 57, .load 60 (.tmp 7), _, _, _, _⟩) (v := (.agg (spC f0 (i + 1)))) rfl (by kernel_rfl) (by kernel_rfl) (by kernel_rfl) (fun _ _ _ h => h) (Or.inl ⟨by rfl, fun W hW => exec_spanL (.tmp 7) rfl g7 f0 (i + 1) rfl hW.2.2⟩) (by assumption) ?_
          simp only [Act.put, List.setIfInBounds_toArray, List.set_cons_zero, List.set_cons_succ]
          refine wpAnyH_ready (rs := [6]) (by kernel_rfl) (by simp) ?_
          refine AllReadyH.cons (o := ⟨none, .mapUpdate 55 (.tmp 55) (.tmp 56) (.tmp 57), _, _, _, _⟩) rfl (fun K hK => ?_) AllReadyH.nil
          have hl := HLT6.out
          have hge := HGE.out
          refine wready (wp_mapPut HRa.out.mp (by have := HKI.out; have := HI.out; have := HN.out; omega) (.tmp 55) (.tmp 56) (.tmp 57) rfl rfl r HR8.out rfl f0 (i + 1) rfl ?_)
          intro wb hm hg
          have HRb := Lib.hid (HRa.out.put hm hg)
          have HXb := Lib.hid (HXa.out.grown hg (fun e => by have := Option.some.inj e; omega))
          have HYb := Lib.hid (HYa.out.grown hg (fun e => by have := Option.some.inj e; omega))
          have HBb := Lib.hid (HBa.out.grown hg HBa.out.size (fun k hk => by cases hk; omega))
          clear hm hg hl hge
          refine hK.out _ _ ⟨HRb.out.c2, HXb.out, HYb.out⟩ (fun hHeld => ?_)
          clear hK K
          refine wpAnyH_done (by kernel_rfl) ?_ _
          clear hHeld
          go_wp2
          go_roundg (n - (i + 1))
          case measure => have := HG.out; have := HI.out; omega
          case rel => exact ⟨i + 1, k + 1, _, by go_num, by have := HG.out; have := HI.out; omega, Lib.hid (by have := HKI.out; omega), HRb, HBN, HBb⟩
    · have hie : i = n := by have := HG.out; omega
      subst hie
      have HPL : Hid (P.length = i) := Lib.hid (by rw [HP.out.len, HL.out])
      go_wp2
      have HRc : Hid (RowsAt wr.drew gR a i c gp kb k (.slice none 0 0) P Bg) := Lib.hid (HR.out.keep (Nat.le_refl _) rfl rfl rfl)
      have HBc : Hid (Below w.heap.size w wr.drew) := Lib.hid HBW.out.drew
      refine wp_region_held_drew (S := fun W => W.cell? ⟨gR, 1, none⟩ = some (pS gp i)) (by kernel_rfl) HRc.out.c1 (fun hHeld => ?_)
      generalize wr.drew = wc at HRc HBc hHeld ⊢
      refine wpAnyH_take (i := 0) (oi := ⟨some 59, .move (.tmp 3), _, _, _, _⟩) (v := (.pointer (some ⟨gR, 0, none⟩))) rfl (by kernel_rfl) (by kernel_rfl) (by kernel_rfl) (fun _ _ _ h => h) (Or.inl ⟨by rfl, fun W hW => by go_simp⟩) (by assumption) ?_
      simp only [Act.put, List.setIfInBounds_toArray, List.set_cons_zero, List.set_cons_succ]
      refine wpAnyH_take (i := 1) (oi := ⟨some 60, .move (.tmp 3), _, _, _, _⟩) (v := (.pointer (some ⟨gR, 0, none⟩))) rfl (by kernel_rfl) (by kernel_rfl) (by kernel_rfl) (fun _ _ _ h => h) (Or.inl ⟨by rfl, fun W hW => by go_simp⟩) (by assumption) ?_
      simp only [Act.put, List.setIfInBounds_toArray, List.set_cons_zero, List.set_cons_succ]
      refine wpAnyH_take (i := 2) (oi := ⟨some 61, .nilCheck (.tmp 60), _, _, _, _⟩) (v := (.pointer (some ⟨gR, 0, none⟩))) rfl (by kernel_rfl) (by kernel_rfl) (by kernel_rfl) (fun _ _ _ h => h) (Or.inl ⟨by rfl, fun W hW => by go_simp⟩) (by assumption) ?_
      simp only [Act.put, List.setIfInBounds_toArray, List.set_cons_zero, List.set_cons_succ]
      refine wpAnyH_take (i := 3) (oi := ⟨some 62, .fieldAddr 57 (.tmp 61) 1, _, _, _, _⟩) (v := (.pointer (some ⟨gR, 1, none⟩))) rfl (by kernel_rfl) (by kernel_rfl) (by kernel_rfl) (fun _ _ _ h => h) (Or.inl ⟨by rfl, fun W hW => by go_simp⟩) (by assumption) ?_
      simp only [Act.put, List.setIfInBounds_toArray, List.set_cons_zero, List.set_cons_succ]
      refine wpAnyH_take (i := 4) (oi := ⟨some 63, .load 53 (.tmp 62), _, _, _, _⟩) (v := (.slice (some ⟨gp, 0, none⟩) i i)) rfl (by kernel_rfl) (by kernel_rfl) (by kernel_rfl) (fun _ _ _ h => h) (Or.inl ⟨by rfl, fun W hW => by have hcell : W.cell? ⟨gR, 1, none⟩ = some (.slice (some ⟨gp, 0, none⟩) i i) := hW; go_simp⟩) (by assumption) ?_
      simp only [Act.put, List.setIfInBounds_toArray, List.set_cons_zero, List.set_cons_succ]
      refine wpAnyH_take (i := 5) (oi := ⟨some 64, .move (.tmp 3), _, _, _, _⟩) (v := (.pointer (some ⟨gR, 0, none⟩))) rfl (by kernel_rfl) (by kernel_rfl) (by kernel_rfl) (fun _ _ _ h => h) (Or.inl ⟨by rfl, fun W hW => by go_simp⟩) (by assumption) ?_
      simp only [Act.put, List.setIfInBounds_toArray, List.set_cons_zero, List.set_cons_succ]
      refine wpAnyH_take (i := 6) (oi := ⟨some 65, .nilCheck (.tmp 64), _, _, _, _⟩) (v := (.pointer (some ⟨gR, 0, none⟩))) rfl (by kernel_rfl) (by kernel_rfl) (by kernel_rfl) (fun _ _ _ h => h) (Or.inl ⟨by rfl, fun W hW => by go_simp⟩) (by assumption) ?_
      simp only [Act.put, List.setIfInBounds_toArray, List.set_cons_zero, List.set_cons_succ]
      refine wpAnyH_take (i := 7) (oi := ⟨some 66, .fieldAddr 57 (.tmp 65) 1, _, _, _, _⟩) (v := (.pointer (some ⟨gR, 1, none⟩))) rfl (by kernel_rfl) (by kernel_rfl) (by kernel_rfl) (fun _ _ _ h => h) (Or.inl ⟨by rfl, fun W hW => by go_simp⟩) (by assumption) ?_
      simp only [Act.put, List.setIfInBounds_toArray, List.set_cons_zero, List.set_cons_succ]
      refine wpAnyH_take (i := 8) (oi := ⟨some 67, .load 53 (.tmp 66), _, _, _, _⟩) (v := (.slice (some ⟨gp, 0, none⟩) i i)) rfl (by kernel_rfl) (by kernel_rfl) (by kernel_rfl) (fun _ _ _ h => h) (Or.inl ⟨by rfl, fun W hW => by have hcell : W.cell? ⟨gR, 1, none⟩ = some (.slice (some ⟨gp, 0, none⟩) i i) := hW; go_simp⟩) (by assumption) ?_
      simp only [Act.put, List.setIfInBounds_toArray, List.set_cons_zero, List.set_cons_succ]
      refine wpAnyH_ready (rs := [9]) (by kernel_rfl) (by simp) ?_
      refine AllReadyH.cons (o := ⟨some 68, .buildSlice 78 2 #[(0, (.tmp 63)), (1, (.tmp 67))], _, _, _, _⟩) rfl (fun K hK => ?_) AllReadyH.nil
      refine wready (wp_pairS (.tmp 63) (.tmp 67) rfl gp i P rfl rfl HRc.out.pl (by have := HN.out; omega) ?_)
      intro wd hb hp
      have HRd := Lib.hid (HRc.out.below hb)
      have HBd := Lib.hid (HBc.out.trans (hb.mono HBc.out.size))
      have HPd := Lib.hid hp
      clear hb hp
      refine hK.out _ _ HRd.out.c1 (fun hHeld => ?_)
      clear hK K
      refine wpAnyH_ready (rs := [10]) (by kernel_rfl) (by simp) ?_
      refine AllReadyH.cons (o := ⟨some 69, .call { callee := .value (.func 30), args := #[(.tmp 68)], argTypes := #[78] }, _, _, _, _⟩) rfl (fun K hK => ?_) AllReadyH.nil
      go_wp2_with (go_at_call 30; go_must ((refine (concat_iw wc.heap.size 2 [P, P] _ rfl (by omega) HPd.out (by have := HPL.out; have := HN.out; simp; omega)).mono ?_); rintro e we ⟨al, nl, cl, rfl, ho, hb⟩; have HO := Lib.hid ho; have HRe := Lib.hid (HRd.out.below hb); have HBe := Lib.hid (HBd.out.trans (hb.mono HBd.out.size)); have HLB := Lib.hid hb; clear ho hb))
      refine hK.out _ _ HRe.out.c1 (fun hHeld => ?_)
      clear hK K
      refine wpAnyH_take (i := 11) (oi := ⟨some 70, .nilCheck (.tmp 59), _, _, _, _⟩) (v := (.pointer (some ⟨gR, 0, none⟩))) rfl (by kernel_rfl) (by kernel_rfl) (by kernel_rfl) (fun _ _ _ h => h) (Or.inl ⟨by rfl, fun W hW => by go_simp⟩) (by assumption) ?_
      simp only [Act.put, List.setIfInBounds_toArray, List.set_cons_zero, List.set_cons_succ]
      refine wpAnyH_take (i := 12) (oi := ⟨some 71, .fieldAddr 57 (.tmp 70) 3, _, _, _, _⟩) (v := (.pointer (some ⟨gR, 3, none⟩))) rfl (by kernel_rfl) (by kernel_rfl) (by kernel_rfl) (fun _ _ _ h => h) (Or.inl ⟨by rfl, fun W hW => by go_simp⟩) (by assumption) ?_
      simp only [Act.put, List.setIfInBounds_toArray, List.set_cons_zero, List.set_cons_succ]
      refine wpAnyH_ready (rs := [13]) (by kernel_rfl) (by simp) ?_
      refine AllReadyH.cons (o := ⟨none, .store 53 (.tmp 71) (.tmp 69), _, _, _, _⟩) rfl (fun K hK => ?_) AllReadyH.nil
      have z3 := HRe.out.free 3
      have e3 := HRe.out.c3
      refine wready ?_
      go_simp
      have HRf := Lib.hid (HRe.out.set3 (.slice al nl cl))
      have hge := HGE.out
      have HBf := Lib.hid (HBe.out.setCell (p := ⟨gR, 3, none⟩) (Nat.le_of_lt hge.1) (.slice al nl cl))
      have HOf : Hid (OwnG iwK INTf (we.setCell ⟨gR, 3, none⟩ (.slice al nl cl)) wd.heap.size (.slice al nl cl) [P, P].flatten) := Lib.hid ⟨ownsRow_setCell_below HO.out.1 (a := ⟨gR, 3, none⟩) HRd.out.lt _, HO.out.2⟩
      clear hge z3 e3
      generalize we.setCell ⟨gR, 3, none⟩ (.slice al nl cl) = wf at HRf HBf HOf ⊢
      refine hK.out _ _ HRf.out.c1 (fun hHeld => ?_)
      clear hK K
      refine wpAnyH_done (by kernel_rfl) ?_ _
      clear hHeld
      by_cases hz : i = 0
      · subst hz
        go_wp2
        go_loopg [9] 0 (fun g v9 W => v9 = .int .i64 (-1) ∧ Hid (RowsAt W gR a 0 c gp kb k (.slice al nl cl) P Bg) ∧ Hid (Below w.heap.size w W))
        case atStart => exact ⟨rfl, HRf, HBf⟩
        case round =>
          obtain ⟨rfl, HR', HBW'⟩ := hrel
          go_wp2
          go_ret
          exact ⟨gR, rfl, ⟨gp, kb, k, _, P, Bg, HR'.out, HP.out, by rw [HPL.out]; exact HBG.out, (by have h := HGE.out; exact ⟨by omega, by omega, by omega⟩), .inl rfl⟩, HBW'.out⟩
      · have hl := HOf.out.lenI
        have HNL : Hid (nl = 2 * i) := Lib.hid (by have := HPL.out; simp at hl; omega)
        have hi1 : 0 < i := by omega
        obtain ⟨gl, rfl, hgl, hT⟩ := OwnG.ints HOf.out (by have := HNL.out; omega)
        rw [show [P, P].flatten = P ++ P from by simp] at hT
        have HTf := Lib.hid hT
        have HLG : Hid (gR ≠ gl ∧ gp ≠ gl ∧ kb ≠ gl ∧ w.heap.size ≤ gl) := Lib.hid (by have h1 := HRd.out.lt; have h2 := HRd.out.pl.2.1; have h3 := HRd.out.mp.lt; have h4 := HBd.out.size; exact ⟨by omega, by omega, by omega, by omega⟩)
        obtain ⟨j0, hj0⟩ : ∃ j0, j0 + 1 = i := ⟨i - 1, by omega⟩
        have W9 : IntKind.i64.wrap ((i : Int) - 1) = (j0 : Int) := by rw [IntWalk.i64_in _ (by have := HN.out; omega)]; omega
        have HTS : Hid (TreeDone i P (P ++ P) (j0 + 1)) := Lib.hid (by rw [hj0]; exact TreeDone.start HPL.out)
        clear hl hgl hT HOf HO
        go_wp2
        go_loopg [9] j0 (fun g v9 W => ∃ (m : Nat) (T : List Nat), v9 = .int .i64 (m : Nat) ∧ g = m ∧ Hid (m < i) ∧ Hid (RowsAt W gR a i c gp kb k (.slice (some ⟨gl, 0, none⟩) nl cl) P Bg) ∧ Hid (IntsAt W gl nl T) ∧ Hid (TreeDone i P T (m + 1)) ∧ Hid (Below w.heap.size w W))
        case atStart => exact ⟨j0, _, rfl, rfl, Lib.hid (by omega), HRf, HTf, HTS, HBf⟩
        case round =>
          obtain ⟨m, T, rfl, hg, HMI, HR, HT, HTD, HBW⟩ := hrel
          by_cases hm : (0 : Int) < (m : Int)
          · have hmi := HMI.out
            have hnn := HNL.out
            have hn4 := HN.out
            obtain ⟨x, hx⟩ : ∃ x, 2 * m = x := ⟨_, rfl⟩
            obtain ⟨y, hy⟩ : ∃ y, 2 * m + 1 = y := ⟨_, rfl⟩
            obtain ⟨m', hm'⟩ : ∃ m', m' + 1 = m := ⟨m - 1, by omega⟩
            obtain ⟨u, hu⟩ : ∃ u, T.getD x 0 = u := ⟨_, rfl⟩
            obtain ⟨v, hv⟩ : ∃ v, T.getD y 0 = v := ⟨_, rfl⟩
            obtain ⟨mn, hmn⟩ : ∃ mn, min u v = mn := ⟨_, rfl⟩
            have W10 : IntKind.i64.wrap (2 * (m : Int)) = (x : Int) := by rw [IntWalk.i64_in _ (by omega)]; omega
            have W11 : IntKind.i64.wrap ((x : Int) + 1) = (y : Int) := by rw [IntWalk.i64_in _ (by omega)]; omega
            have W12 : IntKind.i64.wrap ((m : Int) - 1) = (m' : Int) := by rw [IntWalk.i64_in _ (by omega)]; omega
            have W13 : min (u : Int) (v : Int) = (mn : Int) := by omega
            have hx1 : (x : Int) < (nl : Int) := by omega
            have hy1 : (y : Int) < (nl : Int) := by omega
            have hm1 : (m : Int) < (nl : Int) := by omega
            have hx0 : (0 : Int) ≤ (x : Int) := by omega
            have hy0 : (0 : Int) ≤ (y : Int) := by omega
            have hm0 : (0 : Int) ≤ (m : Int) := by omega
            have HMN : Hid (m < nl) := Lib.hid (by omega)
            have k1 : wr.drew.cell? ⟨gl, x, none⟩ = some (.int .i64 (u : Nat)) := hu ▸ (HT.out.2.2 x (by omega)).1
            have k2 : wr.drew.cell? ⟨gl, y, none⟩ = some (.int .i64 (v : Nat)) := hv ▸ (HT.out.2.2 y (by omega)).1
            have HMX : Hid (mn = min (T.getD (2 * m) 0) (T.getD (2 * m + 1) 0)) := Lib.hid (by rw [hy, hx, hu, hv]; exact hmn.symm)
            have HM' := Lib.hid hm'
            have HNE : Hid (x ≠ m ∧ y ≠ m) := Lib.hid ⟨by omega, by omega⟩
            have HR' : Hid (RowsAt wr.drew gR a i c gp kb k (.slice (some ⟨gl, 0, none⟩) nl cl) P Bg) := Lib.hid (HR.out.keep (Nat.le_refl _) rfl rfl rfl)
            have HT' : Hid (IntsAt wr.drew gl nl T) := Lib.hid HT.out
            have HBW' : Hid (Below w.heap.size w wr.drew) := Lib.hid HBW.out.drew
            clear hx hy hu hv hmn hm' hmi hnn hn4
            go_wp2
            refine wp_region_held_drew (S := fun W => W.cell? ⟨gR, 3, none⟩ = some (.slice (some ⟨gl, 0, none⟩) nl cl) ∧ W.cell? ⟨gl, x, none⟩ = some (.int .i64 (u : Nat)) ∧ W.cell? ⟨gl, y, none⟩ = some (.int .i64 (v : Nat))) (by kernel_rfl) ⟨HR'.out.c3, k1, k2⟩ (fun hHeld => ?_)
            generalize wr.drew = wx at HR' HT' HBW' hHeld ⊢
            refine wpAnyH_take (i := 0) (oi := ⟨some 79, .move (.tmp 3), _, _, _, _⟩) (v := (.pointer (some ⟨gR, 0, none⟩))) rfl (by kernel_rfl) (by kernel_rfl) (by kernel_rfl) (fun _ _ _ h => h) (Or.inl ⟨by rfl, fun W hW => by go_simp⟩) (by assumption) ?_
            simp only [Act.put, List.setIfInBounds_toArray, List.set_cons_zero, List.set_cons_succ]
            refine wpAnyH_take (i := 1) (oi := ⟨some 80, .nilCheck (.tmp 79), _, _, _, _⟩) (v := (.pointer (some ⟨gR, 0, none⟩))) rfl (by kernel_rfl) (by kernel_rfl) (by kernel_rfl) (fun _ _ _ h => h) (Or.inl ⟨by rfl, fun W hW => by go_simp⟩) (by assumption) ?_
            simp only [Act.put, List.setIfInBounds_toArray, List.set_cons_zero, List.set_cons_succ]
            refine wpAnyH_take (i := 2) (oi := ⟨some 81, .fieldAddr 57 (.tmp 80) 3, _, _, _, _⟩) (v := (.pointer (some ⟨gR, 3, none⟩))) rfl (by kernel_rfl) (by kernel_rfl) (by kernel_rfl) (fun _ _ _ h => h) (Or.inl ⟨by rfl, fun W hW => by go_simp⟩) (by assumption) ?_
            simp only [Act.put, List.setIfInBounds_toArray, List.set_cons_zero, List.set_cons_succ]
            refine wpAnyH_take (i := 3) (oi := ⟨some 82, .load 53 (.tmp 81), _, _, _, _⟩) (v := (.slice (some ⟨gl, 0, none⟩) nl cl)) rfl (by kernel_rfl) (by kernel_rfl) (by kernel_rfl) (fun _ _ _ h => h) (Or.inl ⟨by rfl, fun W hW => by have hcell := hW.1; go_simp⟩) (by assumption) ?_
            simp only [Act.put, List.setIfInBounds_toArray, List.set_cons_zero, List.set_cons_succ]
            refine wpAnyH_take (i := 4) (oi := ⟨some 83, .move (.tmp 9), _, _, _, _⟩) (v := (.int .i64 (m : Nat))) rfl (by kernel_rfl) (by kernel_rfl) (by kernel_rfl) (fun _ _ _ h => h) (Or.inl ⟨by rfl, fun W hW => by go_simp⟩) (by assumption) ?_
            simp only [Act.put, List.setIfInBounds_toArray, List.set_cons_zero, List.set_cons_succ]
            refine wpAnyH_take (i := 5) (oi := ⟨some 84, .move (.tmp 3), _, _, _, _⟩) (v := (.pointer (some ⟨gR, 0, none⟩))) rfl (by kernel_rfl) (by kernel_rfl) (by kernel_rfl) (fun _ _ _ h => h) (Or.inl ⟨by rfl, fun W hW => by go_simp⟩) (by assumption) ?_
            simp only [Act.put, List.setIfInBounds_toArray, List.set_cons_zero, List.set_cons_succ]
            refine wpAnyH_take (i := 6) (oi := ⟨some 85, .nilCheck (.tmp 84), _, _, _, _⟩) (v := (.pointer (some ⟨gR, 0, none⟩))) rfl (by kernel_rfl) (by kernel_rfl) (by kernel_rfl) (fun _ _ _ h => h) (Or.inl ⟨by rfl, fun W hW => by go_simp⟩) (by assumption) ?_
            simp only [Act.put, List.setIfInBounds_toArray, List.set_cons_zero, List.set_cons_succ]
            refine wpAnyH_take (i := 7) (oi := ⟨some 86, .fieldAddr 57 (.tmp 85) 3, _, _, _, _⟩) (v := (.pointer (some ⟨gR, 3, none⟩))) rfl (by kernel_rfl) (by kernel_rfl) (by kernel_rfl) (fun _ _ _ h => h) (Or.inl ⟨by rfl, fun W hW => by go_simp⟩) (by assumption) ?_
            simp only [Act.put, List.setIfInBounds_toArray, List.set_cons_zero, List.set_cons_succ]
            refine wpAnyH_take (i := 8) (oi := ⟨some 87, .load 53 (.tmp 86), _, _, _, _⟩) (v := (.slice (some ⟨gl, 0, none⟩) nl cl)) rfl (by kernel_rfl) (by kernel_rfl) (by kernel_rfl) (fun _ _ _ h => h) (Or.inl ⟨by rfl, fun W hW => by have hcell := hW.1; go_simp⟩) (by assumption) ?_
            simp only [Act.put, List.setIfInBounds_toArray, List.set_cons_zero, List.set_cons_succ]
            refine wpAnyH_take (i := 9) (oi := ⟨some 88, .move (.tmp 9), _, _, _, _⟩) (v := (.int .i64 (m : Nat))) rfl (by kernel_rfl) (by kernel_rfl) (by kernel_rfl) (fun _ _ _ h => h) (Or.inl ⟨by rfl, fun W hW => by go_simp⟩) (by assumption) ?_
            simp only [Act.put, List.setIfInBounds_toArray, List.set_cons_zero, List.set_cons_succ]
            refine wpAnyH_take (i := 10) (oi := ⟨some 89, .binOp .mul 3 (.const (.int .i64 2)) (.tmp 88) 3, _, _, _, _⟩) (v := (.int .i64 (x : Nat))) rfl (by kernel_rfl) (by kernel_rfl) (by kernel_rfl) (fun _ _ _ h => h) (Or.inl ⟨by rfl, fun W hW => by go_simp⟩) (by assumption) ?_
            simp only [Act.put, List.setIfInBounds_toArray, List.set_cons_zero, List.set_cons_succ]
            refine wpAnyH_take (i := 11) (oi := ⟨some 90, .indexAddr 53 (.tmp 87) (.tmp 89), _, _, _, _⟩) (v := (.pointer (some ⟨gl, x, none⟩))) rfl (by kernel_rfl) (by kernel_rfl) (by kernel_rfl) (fun _ _ _ h => h) (Or.inl ⟨by rfl, fun W hW => by go_simp⟩) (by assumption) ?_
            simp only [Act.put, List.setIfInBounds_toArray, List.set_cons_zero, List.set_cons_succ]
            refine wpAnyH_take (i := 12) (oi := ⟨some 91, .load 3 (.tmp 90), _, _, _, _⟩) (v := (.int .i64 (u : Nat))) rfl (by kernel_rfl) (by kernel_rfl) (by kernel_rfl) (fun _ _ _ h => h) (Or.inl ⟨by rfl, fun W hW => by have hcell := hW.2.1; go_simp⟩) (by assumption) ?_
            simp only [Act.put, List.setIfInBounds_toArray, List.set_cons_zero, List.set_cons_succ]
            refine wpAnyH_take (i := 13) (oi := ⟨some 92, .move (.tmp 3), _, _, _, _⟩) (v := (.pointer (some ⟨gR, 0, none⟩))) rfl (by kernel_rfl) (by kernel_rfl) (by kernel_rfl) (fun _ _ _ h => h) (Or.inl ⟨by rfl, fun W hW => by go_simp⟩) (by assumption) ?_
            simp only [Act.put, List.setIfInBounds_toArray, List.set_cons_zero, List.set_cons_succ]
            refine wpAnyH_take (i := 14) (oi := ⟨some 93, .nilCheck (.tmp 92), _, _, _, _⟩) (v := (.pointer (some ⟨gR, 0, none⟩))) rfl (by kernel_rfl) (by kernel_rfl) (by kernel_rfl) (fun _ _ _ h => h) (Or.inl ⟨by rfl, fun W hW => by go_simp⟩) (by assumption) ?_
            simp only [Act.put, List.setIfInBounds_toArray, List.set_cons_zero, List.set_cons_succ]
            refine wpAnyH_take (i := 15) (oi := ⟨some 94, .fieldAddr 57 (.tmp 93) 3, _, _, _, _⟩) (v := (.pointer (some ⟨gR, 3, none⟩))) rfl (by kernel_rfl) (by kernel_rfl) (by kernel_rfl) (fun _ _ _ h => h) (Or.inl ⟨by rfl, fun W hW => by go_simp⟩) (by assumption) ?_
            simp only [Act.put, List.setIfInBounds_toArray, List.set_cons_zero, List.set_cons_succ]
            refine wpAnyH_take (i := 16) (oi := ⟨some 95, .load 53 (.tmp 94), _, _, _, _⟩) (v := (.slice (some ⟨gl, 0, none⟩) nl cl)) rfl (by kernel_rfl) (by kernel_rfl) (by kernel_rfl) (fun _ _ _ h => h) (Or.inl ⟨by rfl, fun W hW => by have hcell := hW.1; go_simp⟩) (by assumption) ?_
            simp only [Act.put, List.setIfInBounds_toArray, List.set_cons_zero, List.set_cons_succ]
            refine wpAnyH_take (i := 17) (oi := ⟨some 96, .move (.tmp 9), _, _, _, _⟩) (v := (.int .i64 (m : Nat))) rfl (by kernel_rfl) (by kernel_rfl) (by kernel_rfl) (fun _ _ _ h => h) (Or.inl ⟨by rfl, fun W hW => by go_simp⟩) (by assumption) ?_
            simp only [Act.put, List.setIfInBounds_toArray, List.set_cons_zero, List.set_cons_succ]
            refine wpAnyH_take (i := 18) (oi := ⟨some 97, .binOp .mul 3 (.const (.int .i64 2)) (.tmp 96) 3, _, _, _, _⟩) (v := (.int .i64 (x : Nat))) rfl (by kernel_rfl) (by kernel_rfl) (by kernel_rfl) (fun _ _ _ h => h) (Or.inl ⟨by rfl, fun W hW => by go_simp⟩) (by assumption) ?_
            simp only [Act.put, List.setIfInBounds_toArray, List.set_cons_zero, List.set_cons_succ]
            refine wpAnyH_take (i := 19) (oi := ⟨some 98, .binOp .add 3 (.tmp 97) (.const (.int .i64 1)) 3, _, _, _, _⟩) (v := (.int .i64 (y : Nat))) rfl (by kernel_rfl) (by kernel_rfl) (by kernel_rfl) (fun _ _ _ h => h) (Or.inl ⟨by rfl, fun W hW => by go_simp⟩) (by assumption) ?_
            simp only [Act.put, List.setIfInBounds_toArray, List.set_cons_zero, List.set_cons_succ]
            refine wpAnyH_take (i := 20) (oi := ⟨some 99, .indexAddr 53 (.tmp 95) (.tmp 98), _, _, _, _⟩) (v := (.pointer (some ⟨gl, y, none⟩))) rfl (by kernel_rfl) (by kernel_rfl) (by kernel_rfl) (fun _ _ _ h => h) (Or.inl ⟨by rfl, fun W hW => by go_simp⟩) (by assumption) ?_
            simp only [Act.put, List.setIfInBounds_toArray, List.set_cons_zero, List.set_cons_succ]
            refine wpAnyH_take (i := 21) (oi := ⟨some 100, .load 3 (.tmp 99), _, _, _, _⟩) (v := (.int .i64 (v : Nat))) rfl (by kernel_rfl) (by kernel_rfl) (by kernel_rfl) (fun _ _ _ h => h) (Or.inl ⟨by rfl, fun W hW => by have hcell := hW.2.2; go_simp⟩) (by assumption) ?_
            simp only [Act.put, List.setIfInBounds_toArray, List.set_cons_zero, List.set_cons_succ]
            refine wpAnyH_take (i := 22) (oi := ⟨some 101, .call { callee := .builtin .min, args := #[(.tmp 91), (.tmp 100)], argTypes := #[3, 3] }, _, _, _, _⟩) (v := (.int .i64 (mn : Nat))) rfl (by kernel_rfl) (by kernel_rfl) (by kernel_rfl) (fun _ _ _ h => h) (Or.inl ⟨by rfl, fun W hW => by go_simp⟩) (by assumption) ?_
            simp only [Act.put, List.setIfInBounds_toArray, List.set_cons_zero, List.set_cons_succ]
            refine wpAnyH_take (i := 23) (oi := ⟨some 102, .indexAddr 53 (.tmp 82) (.tmp 83), _, _, _, _⟩) (v := (.pointer (some ⟨gl, m, none⟩))) rfl (by kernel_rfl) (by kernel_rfl) (by kernel_rfl) (fun _ _ _ h => h) (Or.inl ⟨by rfl, fun W hW => by go_simp⟩) (by assumption) ?_
            simp only [Act.put, List.setIfInBounds_toArray, List.set_cons_zero, List.set_cons_succ]
            refine wpAnyH_ready (rs := [24]) (by kernel_rfl) (by simp) ?_
            refine AllReadyH.cons (o := ⟨none, .store 3 (.tmp 102) (.tmp 101), _, _, _, _⟩) rfl (fun K hK => ?_) AllReadyH.nil
            have z3 := (HT'.out.2.2 m HMN.out).2
            have e3 := (HT'.out.2.2 m HMN.out).1
            refine wready ?_
            go_simp
            have hge := HLG.out
            have HRn := Lib.hid (HR'.out.set (x := ⟨gl, m, none⟩) (.int .i64 (mn : Nat)) hge.1 hge.2.1 hge.2.2.1)
            have HTn := Lib.hid (HT'.out.set (i := m) HMN.out mn)
            have HBn := Lib.hid (HBW'.out.setCell (p := ⟨gl, m, none⟩) hge.2.2.2 (.int .i64 (mn : Nat)))
            have HUX : Hid ((wx.setCell ⟨gl, m, none⟩ (.int .i64 (mn : Nat))).cell? ⟨gl, x, none⟩ = some (.int .i64 (u : Nat))) := Lib.hid (by rw [World.cell?_setCell_other (w := wx) (a := ⟨gl, m, none⟩) (b := ⟨gl, x, none⟩) (v := _) (h := fun e => by injection e with _ e2 _; exact HNE.out.1 e2.symm)]; exact hHeld.2.1)
            have HUY : Hid ((wx.setCell ⟨gl, m, none⟩ (.int .i64 (mn : Nat))).cell? ⟨gl, y, none⟩ = some (.int .i64 (v : Nat))) := Lib.hid (by rw [World.cell?_setCell_other (w := wx) (a := ⟨gl, m, none⟩) (b := ⟨gl, y, none⟩) (v := _) (h := fun e => by injection e with _ e2 _; exact HNE.out.2 e2.symm)]; exact hHeld.2.2)
            clear hge z3 e3
            generalize wx.setCell ⟨gl, m, none⟩ (.int .i64 (mn : Nat)) = wy at HRn HTn HBn HUX HUY ⊢
            refine hK.out _ _ ⟨HRn.out.c3, HUX.out, HUY.out⟩ (fun hHeld => ?_)
            clear hK K
            refine wpAnyH_done (by kernel_rfl) ?_ _
            clear hHeld
            go_wp2
            go_roundg m'
            case measure => have := HM'.out; omega
            case rel => exact ⟨m', _, by go_num, rfl, Lib.hid (by have := HM'.out; have := HMI.out; omega), HRn, HTn, Lib.hid (by have h := HTD.out.step (by omega) HMI.out; rw [HMX.out, HM'.out]; exact h), HBn⟩
          · go_wp2
            go_ret
            have hnl := HNL.out
            subst hnl
            exact ⟨gR, rfl, ⟨gp, kb, k, _, P, Bg, HR.out, HP.out, by rw [HPL.out]; exact HBG.out, (by have h := HGE.out; exact ⟨by omega, by omega, by omega⟩), .inr ⟨gl, cl, T, rfl, HLG.out.2.2.2, HT.out, (show m + 1 = 1 by omega) ▸ HTD.out⟩⟩, HBW.out⟩
end Go.Proofs.Ytheigemfbcgjcaa
