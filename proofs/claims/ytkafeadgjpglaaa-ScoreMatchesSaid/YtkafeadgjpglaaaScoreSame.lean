/-
  The walks of the document's Ints and Pairs.
-/
import Derived.Test.YtkafeadgjpglaaaTellG
import Derived.StillTailTactics
import Derived.ChangeKeysEq
import Derived.Laws.StructEq
namespace Go.Proofs.Ytkafeadgjpglaaa
open Go.RowKit

theorem take_next_n {l m : List Nat} {j : Nat} (h : l.take j = m.take j) (hl : j < l.length) (hm : j < m.length) (he : l.getD j 0 = m.getD j 0) : l.take (j + 1) = m.take (j + 1) := by
  rw [List.take_succ_eq_append_getElem hl, List.take_succ_eq_append_getElem hm, h]
  simp [hl, hm] at he
  rw [he]
theorem take_next_p {l m : List (Nat × Nat)} {j : Nat} (h : l.take j = m.take j) (hl : j < l.length) (hm : j < m.length) (he : l.getD j (0, 0) = m.getD j (0, 0)) : l.take (j + 1) = m.take (j + 1) := by
  rw [List.take_succ_eq_append_getElem hl, List.take_succ_eq_append_getElem hm, h]
  simp [hl, hm] at he
  rw [he]

set_option maxRecDepth 100000 in
set_option maxHeartbeats 1000000 in
theorem ints_any (a : Option Addr) (n c : Nat) (l : List Nat) (b : Option Addr) (m d : Nat) (k : List Nat) (w : World) (ha : At1 N w a n c l) (hb : At1 N w b m d k) (hn : n ≤ 1000000000) :
    Calls Try.prog 24 #[.slice a n c, .slice b m d] w fun e w' => e = .returned (.bool (decide (l = k))) ∧ Below w.heap.size w w' := by
  have hla := ha.1
  have hlb := hb.1
  by_cases hnm : n = m
  · subst hnm
    have HA := Lib.hid ha
    have HB := Lib.hid hb
    have HLA := Lib.hid hla
    have HLB := Lib.hid hlb
    have HI := Lib.hid (show l.take 0 = k.take 0 from rfl)
    have hnI : (n : Int) ≤ 1000000000 := by omega
    clear ha hb hla hlb hn
    go_enter Try.func24, Try.ntmps24
    go_wp2
    go_loopg [5] n (fun g v5 W => ∃ j : Nat, Below w.heap.size w W ∧ v5 = .int .i64 j ∧ g + j = n ∧ Hid (l.take j = k.take j))
    case atStart => exact ⟨0, Below.refl _ _, rfl, rfl, HI⟩
    case round =>
      obtain ⟨j, hbw, rfl, hg, hinv⟩ := hrel
      have HG := Lib.hid hg
      have hj0 : (0 : Int) ≤ (j : Int) := by omega
      have hjI : (j : Int) ≤ (n : Int) := by omega
      by_cases hj : (j : Int) < (n : Int)
      · have hjn : j < n := by omega
        obtain ⟨ba, oa, rfl⟩ := HA.out.some_ (by omega)
        obtain ⟨bb, ob, rfl⟩ := HB.out.some_ (by omega)
        obtain ⟨x, hx⟩ : ∃ x, x = l.getD j 0 := ⟨_, rfl⟩
        obtain ⟨y, hy⟩ : ∃ y, y = k.getD j 0 := ⟨_, rfl⟩
        have hca : wr.cell? ⟨ba, oa + j, none⟩ = some (.int .i64 (x : Int)) := by rw [hx]; exact (HA.out.below hbw).cell j hjn
        have hcb : wr.cell? ⟨bb, ob + j, none⟩ = some (.int .i64 (y : Int)) := by rw [hy]; exact (HB.out.below hbw).cell j hjn
        have HX := Lib.hid hx
        have HY := Lib.hid hy
        clear hg hx hy
        by_cases he : x = y
        · subst he
          have hne : ((x : Int) != (x : Int)) = false := by simp
          have HN := Lib.hid (take_next_n hinv.out (by rw [HLA.out]; omega) (by rw [HLB.out]; omega) (HX.out.symm.trans HY.out))
          go_wp2
          go_quiet (fail)
          have hbd := below_drewN hbw nq
          go_wp2
          go_roundg (gk - 1)
          case measure => have := HG.out; omega
          case rel => exact ⟨j + 1, hbd, by go_num, by have := HG.out; omega, HN⟩
        · have hne : ((x : Int) != (y : Int)) = true := by simp; omega
          have HN := Lib.hid (show l ≠ k from fun h => he (by rw [HX.out, HY.out, h]))
          go_wp2
          go_quiet (fail)
          have hbd := below_drewN hbw nq
          go_wp2
          go_ret
          exact ⟨retB (decide_eq_false HN.out).symm, hbd⟩
      · have HE := Lib.hid (show l = k by
          have h1 := hinv.out
          rw [List.take_of_length_le (by rw [HLA.out]; omega), List.take_of_length_le (by rw [HLB.out]; omega)] at h1
          exact h1)
        clear hg
        go_wp2
        go_ret
        exact ⟨retB (decide_eq_true HE.out).symm, hbw⟩
  · have HE := Lib.hid (show l ≠ k from fun h => hnm (by rw [← hla, ← hlb, h]))
    have hd : ((n : Int) != (m : Int)) = true := by simp; omega
    clear ha hb hla hlb hn hnm
    go_enter Try.func24, Try.ntmps24
    go_wp2
    go_ret
    exact ⟨retB (decide_eq_false HE.out).symm, Below.refl _ _⟩
#print axioms ints_any

/-! ### Pairs -/
theorem still_w {P : Program} {ops : Array Oper} {w : World} {Q : Act → Prop} {o : Oper} {rest : List Oper} {a : Act} {v : Value} (hw : Region.wanted o (yielded ops a.tmps) = true)
    (hr : (execOp a.eval o).run P w = .ok (.value v) w) (h : wpStill P ops w Q rest (a.put o.dst v)) : wpStill P ops w Q (o :: rest) a := by
  unfold wpStill
  rw [if_pos hw]
  unfold Oper.still
  rw [hr, Oper.stillUpon_value]
  exact h
theorem exec_loadP {w : World} {o : Oper} {a : Act} (x : Operand) (ho : o.op = .load 48 x) (b off : Nat) (p : Nat × Nat) (hx : a.eval x = .pointer (some ⟨b, off, none⟩)) (hc : w.rangeAt b off (pc p)) :
    (execOp a.eval o).run Try.prog w = .ok (.value (.agg #[N p.1, N p.2])) w := by
  have hr := run_loadVar_mid (P := Try.prog) w b off 48 (pc p) _ hc Try.underlying48 rfl (by kernel_rfl)
  unfold execOp
  simp only [ho, hx, Instr.loadAt, Instr.sureAddr, Sem.run_bind, Sem.run_pure, Result.andThen_ok, hr]
  rfl
theorem info3 : ∃ i, Try.prog.info? 3 = some i := by
  have h := infoN
  cases hi : Try.prog.info? 3 with
  | none => rw [hi] at h; cases h
  | some i => exact ⟨i, rfl⟩
theorem run_eqPairs (w : World) (p q : Nat × Nat) : (Op.equalIn 10000 48 (.agg #[N p.1, N p.2]) (.agg #[N q.1, N q.2])).run Try.prog w = .ok (decide (p = q)) w := by
  obtain ⟨i0, hi⟩ := info3
  have hc : Try.prog.cellsOf 3 = 1 := by kernel_rfl
  have hagg : ∀ W, (isAgg 3).run Try.prog W = .ok false W := fun _ => by kernel_rfl
  have e0 : ∀ x y : Nat, (Op.equalIn 9999 3 (N x) (N y)).run Try.prog w = .ok ((x : Int) == (y : Int)) w := fun x y => run_equalIn_int w 9998 _ _ _ x y Try.underlying3
  rw [show (10000 : Nat) = 9999 + 1 from rfl, run_equalIn_array w 9999 _ _ Try.underlying48 hi, hc, show List.range 2 = [0, 1] from rfl]
  simp only [Op.eqItems, part, Sem.run_bind, hagg, Result.andThen_ok]
  simp only [Bool.false_eq_true, if_false]
  have g0 : ∀ x y : Nat, (#[N x, N y] : Array Value)[0 * 1]? = some (N x) := fun _ _ => rfl
  have g1 : ∀ x y : Nat, (#[N x, N y] : Array Value)[1 * 1]? = some (N y) := fun _ _ => rfl
  simp only [g0, g1, Sem.run_pure, Result.andThen_ok, e0]
  by_cases h1 : p.1 = q.1
  · by_cases h2 : p.2 = q.2
    · have : p = q := Prod.ext h1 h2
      simp [this, e0]
    · have : p ≠ q := fun h => h2 (by rw [h])
      have h3 : ((p.2 : Int) == (q.2 : Int)) = false := by simp; omega
      simp [h1, h3, this, e0]
  · have : p ≠ q := fun h => h1 (by rw [h])
    have h3 : ((p.1 : Int) == (q.1 : Int)) = false := by simp; omega
    simp [h3, this]
theorem noGuard_pair : Try.prog.eqGuardType Try.prog.depth 48 = false := by kernel_rfl
theorem exec_neqP {w : World} {o : Oper} {a : Act} (x y : Operand) (r : TypeId) (ho : o.op = .binOp .neq 48 x y r) (p q : Nat × Nat) (hx : a.eval x = .agg #[N p.1, N p.2]) (hy : a.eval y = .agg #[N q.1, N q.2]) :
    (execOp a.eval o).run Try.prog w = .ok (.value (.bool (!decide (p = q)))) w := by
  unfold execOp
  simp only [ho, hx, hy, Sem.run_bind, run_eqGuard_agg w _ _ _ _ _ _ noGuard_pair, Result.andThen_ok, run_neq_struct, run_eqPairs w p q, Sem.run_pure]

set_option maxRecDepth 100000 in
set_option maxHeartbeats 1000000 in
theorem pairs_any (a : Option Addr) (n c : Nat) (l : List (Nat × Nat)) (b : Option Addr) (m d : Nat) (k : List (Nat × Nat)) (w : World) (ha : At2 w a n c l) (hb : At2 w b m d k) (hn : n ≤ 1000000000) :
    Calls Try.prog 31 #[.slice a n c, .slice b m d] w fun e w' => e = .returned (.bool (decide (l = k))) ∧ Below w.heap.size w w' := by
  have hla := ha.1
  have hlb := hb.1
  by_cases hnm : n = m
  · subst hnm
    have HA := Lib.hid ha
    have HB := Lib.hid hb
    have HLA := Lib.hid hla
    have HLB := Lib.hid hlb
    have HI := Lib.hid (show l.take 0 = k.take 0 from rfl)
    have hnI : (n : Int) ≤ 1000000000 := by omega
    clear ha hb hla hlb hn
    go_enter Try.func31, Try.ntmps31
    go_wp2
    go_loopg [5] n (fun g v5 W => ∃ j : Nat, Below w.heap.size w W ∧ v5 = .int .i64 j ∧ g + j = n ∧ Hid (l.take j = k.take j))
    case atStart => exact ⟨0, Below.refl _ _, rfl, rfl, HI⟩
    case round =>
      obtain ⟨j, hbw, rfl, hg, hinv⟩ := hrel
      have HG := Lib.hid hg
      have hj0 : (0 : Int) ≤ (j : Int) := by omega
      have hjI : (j : Int) ≤ (n : Int) := by omega
      by_cases hj : (j : Int) < (n : Int)
      · obtain ⟨ba, oa, rfl⟩ := HA.out.some_ (by omega)
        obtain ⟨bb, ob, rfl⟩ := HB.out.some_ (by omega)
        obtain ⟨x, hx⟩ : ∃ x, x = l.getD j (0, 0) := ⟨_, rfl⟩
        obtain ⟨y, hy⟩ : ∃ y, y = k.getD j (0, 0) := ⟨_, rfl⟩
        have HX := Lib.hid hx
        have HY := Lib.hid hy
        have HCA := Lib.hid (show wr.drew.rangeAt ba (oa + j * 2) (pc x) by rw [hx]; exact (HA.out.below hbw.drew).range j (by omega))
        have HCB := Lib.hid (show wr.drew.rangeAt bb (ob + j * 2) (pc y) by rw [hy]; exact (HB.out.below hbw.drew).range j (by omega))
        clear hx hy
        have hbd := hbw.drew
        clear hg
        go_wp2
        refine wp_region_still_lit (by kernel_rfl) (by kernel_rfl) ?_
        still_step
        still_step
        still_step
        refine still_w (by rfl) (exec_loadP _ rfl _ _ _ rfl HCA.out) ?_
        simp only [Act.put, List.setIfInBounds_toArray, List.set_cons_zero, List.set_cons_succ]
        still_step
        still_step
        still_step
        refine still_w (by rfl) (exec_loadP _ rfl _ _ _ rfl HCB.out) ?_
        simp only [Act.put, List.setIfInBounds_toArray, List.set_cons_zero, List.set_cons_succ]
        refine still_w (by rfl) (exec_neqP _ _ _ rfl _ _ rfl rfl) ?_
        simp only [Act.put, List.setIfInBounds_toArray, List.set_cons_zero, List.set_cons_succ]
        refine wpStill_nil ?_
        change Exit.then _ _ _ _ wr.drew
        generalize wr.drew = w2 at hbd ⊢
        by_cases he : x = y
        · have HN := Lib.hid (take_next_p hinv.out (by rw [HLA.out]; omega) (by rw [HLB.out]; omega) (by rw [← HX.out, ← HY.out, he]))
          rw [decide_eq_true he]
          clear he
          go_wp2
          go_roundg (gk - 1)
          case measure => have := HG.out; omega
          case rel => exact ⟨j + 1, hbd, by go_num, by have := HG.out; omega, HN⟩
        · have HN := Lib.hid (show l ≠ k from fun h => he (by rw [HX.out, HY.out, h]))
          rw [decide_eq_false he]
          clear he
          go_wp2
          go_ret
          exact ⟨retB (decide_eq_false HN.out).symm, hbd⟩
      · have HE := Lib.hid (show l = k by
          have h1 := hinv.out
          rw [List.take_of_length_le (by rw [HLA.out]; omega), List.take_of_length_le (by rw [HLB.out]; omega)] at h1
          exact h1)
        clear hg
        go_wp2
        go_ret
        exact ⟨retB (decide_eq_true HE.out).symm, hbw⟩
  · have HE := Lib.hid (show l ≠ k from fun h => hnm (by rw [← hla, ← hlb, h]))
    have hd : ((n : Int) != (m : Int)) = true := by simp; omega
    clear ha hb hla hlb hn hnm
    go_enter Try.func31, Try.ntmps31
    go_wp2
    go_ret
    exact ⟨retB (decide_eq_false HE.out).symm, Below.refl _ _⟩
#print axioms pairs_any
end Go.Proofs.Ytkafeadgjpglaaa
