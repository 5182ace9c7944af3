/-
  Steps of a region that draws its order, where ids are loaded and compared.
-/
import Derived.Test.YtejooogfnnidcaaDoorIdList
import Derived.Deep.QuietTactic
import Derived.BigQuiet
import Derived.WalkSmall
import Derived.Deep.LoopGhost
namespace Go.Proofs.YtejooogfnnidcaaDoor
open Go.RowKit

theorem still_w {P : Program} {ops : Array Oper} {w : World} {Q : Act → Prop} {o : Oper} {rest : List Oper} {a : Act} {v : Value} (hw : Region.wanted o (yielded ops a.tmps) = true)
    (hr : (execOp a.eval o).run P w = .ok (.value v) w) (h : wpStill P ops w Q rest (a.put o.dst v)) : wpStill P ops w Q (o :: rest) a := by
  unfold wpStill
  rw [if_pos hw]
  unfold Oper.still
  rw [hr, Oper.stillUpon_value]
  exact h

theorem still_skip {P : Program} {ops : Array Oper} {w : World} {Q : Act → Prop} {o : Oper} {rest : List Oper} {a : Act} (hw : Region.wanted o (yielded ops a.tmps) = false)
    (h : wpStill P ops w Q rest (a.put o.dst undef)) : wpStill P ops w Q (o :: rest) a := by
  unfold wpStill
  rw [if_neg (by rw [hw]; simp)]
  exact h

theorem exec_move {P : Program} {w : World} {o : Oper} {a : Act} (x : Operand) (ho : o.op = .move x) (v : Value) (hx : a.eval x = v) : (execOp a.eval o).run P w = .ok (.value v) w := by
  unfold execOp
  simp only [ho, hx, Sem.run_pure]

theorem run_loadId {w : World} {b off : Nat} {l : List UInt8} (hl : l.length = 32) (hc : w.rangeAt b off (l.map B)) : (loadVar 24 ⟨b, off, none⟩).run Tryd.prog w = .ok (.agg (idCells l)) w :=
  run_loadVar_mid (P := Tryd.prog) w b off 24 (l.map B) _ hc Tryd.underlying24 rfl (by rw [List.length_map, hl]; exact info_id)

theorem exec_loadId {w : World} {o : Oper} {a : Act} (x : Operand) (ho : o.op = .load 24 x) (b off : Nat) (l : List UInt8) (hl : l.length = 32) (hx : a.eval x = .pointer (some ⟨b, off, none⟩)) (hc : w.rangeAt b off (l.map B)) :
    (execOp a.eval o).run Tryd.prog w = .ok (.value (.agg (idCells l))) w := by
  unfold execOp
  simp only [ho, hx, Instr.loadAt, Instr.sureAddr, Sem.run_bind, Sem.run_pure, Result.andThen_ok, run_loadId hl hc]

theorem exec_eqlId {w : World} {o : Oper} {a : Act} (x y : Operand) (r : TypeId) (ho : o.op = .binOp .eql 24 x y r) (l k : List UInt8) (hl : l.length = 32) (hk : k.length = 32) (hx : a.eval x = .agg (idCells l)) (hy : a.eval y = .agg (idCells k)) :
    (execOp a.eval o).run Tryd.prog w = .ok (.value (.bool (decide (l = k)))) w := by
  unfold execOp
  simp only [ho, hx, hy, Sem.run_bind, run_eqGuard_agg w _ _ _ _ _ _ noGuard_id, Result.andThen_ok, run_eql_struct, run_eqIds w hl hk, Sem.run_pure]

theorem exec_neqId {w : World} {o : Oper} {a : Act} (x y : Operand) (r : TypeId) (ho : o.op = .binOp .neq 24 x y r) (l k : List UInt8) (hl : l.length = 32) (hk : k.length = 32) (hx : a.eval x = .agg (idCells l)) (hy : a.eval y = .agg (idCells k)) :
    (execOp a.eval o).run Tryd.prog w = .ok (.value (.bool (!decide (l = k)))) w := by
  unfold execOp
  simp only [ho, hx, hy, Sem.run_bind, run_eqGuard_agg w _ _ _ _ _ _ noGuard_id, Result.andThen_ok, run_neq_struct, run_eqIds w hl hk, Sem.run_pure]

/-- The load of an id, plain. -/
theorem wl_load {w : World} {ops : Array Oper} {rest : List Oper} {o : Oper} {a : Act} {Q : Exit → Act → World → Prop} (hw : Region.wanted o (yielded ops a.tmps) = true) (x : Operand) (ho : o.op = .load 24 x)
    (b off : Nat) (l : List UInt8) (hl : l.length = 32) (hx : a.eval x = .pointer (some ⟨b, off, none⟩)) (hc : w.rangeAt b off (l.map B))
    (h : wpList Tryd.prog ops Q rest (a.put o.dst (.agg (idCells l))) w) : wpList Tryd.prog ops Q (o :: rest) a w := by
  unfold wpList
  rw [if_pos hw]
  exact .inl (by unfold Oper.wp; rw [exec_loadId x ho b off l hl hx hc]; exact h)

theorem IdAt.range {w : World} {g : Nat} {l : List UInt8} (h : IdAt w g l) : w.rangeAt g 0 (l.map B) := fun j v hj => by
  rw [List.getElem?_map] at hj
  have hjl : j < l.length := by
    rcases Nat.lt_or_ge j l.length with h | h
    · exact h
    · rw [List.getElem?_eq_none h] at hj; cases hj
  simp only [List.getElem?_eq_getElem hjl, Option.map_some, Option.some.injEq] at hj
  subst hj
  rw [Nat.zero_add, h.cell j (by have := h.1; omega)]
  simp [hjl]

theorem take_next_ids {l m : List (List UInt8)} {j : Nat} (h : l.take j = m.take j) (hl : j < l.length) (hm : j < m.length) (he : l.getD j [] = m.getD j []) : l.take (j + 1) = m.take (j + 1) := by
  rw [List.take_succ_eq_append_getElem hl, List.take_succ_eq_append_getElem hm, h]
  simp [hl, hm] at he
  rw [he]
theorem ne_of_ids {l m : List (List UInt8)} {j : Nat} (he : l.getD j [] ≠ m.getD j []) : l ≠ m := fun h => he (by rw [h])
theorem boolR {a b : Bool} (h : a = b) : Ending.returned (.bool a) = .returned (.bool b) := by rw [h]

set_option maxRecDepth 100000 in
set_option maxHeartbeats 1000000 in
theorem same_any (a : Option Addr) (n c : Nat) (l : List (List UInt8)) (b : Option Addr) (m d : Nat) (k : List (List UInt8)) (w : World) (ha : IdsAt w a n c l) (hb : IdsAt w b m d k) (hn : n ≤ 1000000000000) :
    Calls Tryd.prog 11 #[.slice a n c, .slice b m d] w fun e w' => e = .returned (.bool (decide (l = k))) ∧ Below w.heap.size w w' := by
  have hla := ha.1
  have hlb := hb.1
  by_cases hnm : n = m
  · subst hnm
    have HA := Lib.hid ha
    have HB := Lib.hid hb
    have HLA := Lib.hid hla
    have HLB := Lib.hid hlb
    have HI := Lib.hid (show l.take 0 = k.take 0 from rfl)
    have hnI : (n : Int) ≤ 1000000000000 := by omega
    clear ha hb hla hlb hn
    go_enter Tryd.func11, Tryd.ntmps11
    go_wp2
    go_loopg [5] n (fun g v5 W => ∃ j : Nat, Below w.heap.size w W ∧ v5 = .int .i64 j ∧ g + j = n ∧ Hid (l.take j = k.take j))
    case atStart => exact ⟨0, Below.refl _ _, rfl, rfl, HI⟩
    case round =>
      obtain ⟨j, hbw, rfl, hg, hinv⟩ := hrel
      have HG := Lib.hid hg
      have hj0 : (0 : Int) ≤ (j : Int) := by omega
      have hjI : (j : Int) ≤ (n : Int) := by omega
      by_cases hj : (j : Int) < (n : Int)
      · obtain ⟨ba, oa, rfl⟩ := HA.out.some_ (by omega)
        obtain ⟨bb, ob, rfl⟩ := HB.out.some_ (by omega)
        have HCA := Lib.hid ((HA.out.below hbw.drew).at_ j (by omega))
        have HCB := Lib.hid ((HB.out.below hbw.drew).at_ j (by omega))
        have HX := Lib.hid (getD_32 HA.out.2.2.2.1 (i := j) (by rw [HLA.out]; omega))
        have HY := Lib.hid (getD_32 HB.out.2.2.2.1 (i := j) (by rw [HLB.out]; omega))
        have hbd := hbw.drew
        clear hg
        go_wp2
        refine wp_region_still_lit (by kernel_rfl) (by kernel_rfl) ?_
        still_step
        still_step
        still_step
        refine still_w (by rfl) (exec_loadId _ rfl _ _ _ HX.out rfl HCA.out) ?_
        simp only [Act.put, List.setIfInBounds_toArray, List.set_cons_zero, List.set_cons_succ]
        still_step
        still_step
        still_step
        refine still_w (by rfl) (exec_loadId _ rfl _ _ _ HY.out rfl HCB.out) ?_
        simp only [Act.put, List.setIfInBounds_toArray, List.set_cons_zero, List.set_cons_succ]
        refine still_w (by rfl) (exec_neqId _ _ _ rfl _ _ HX.out HY.out rfl rfl) ?_
        simp only [Act.put, List.setIfInBounds_toArray, List.set_cons_zero, List.set_cons_succ]
        refine wpStill_nil ?_
        change Exit.then _ _ _ _ wr.drew
        generalize wr.drew = w2 at hbd ⊢
        by_cases he : l.getD j [] = k.getD j []
        · have HN := Lib.hid (take_next_ids hinv.out (by rw [HLA.out]; omega) (by rw [HLB.out]; omega) he)
          rw [decide_eq_true he]
          clear he
          go_wp2
          go_roundg (gk - 1)
          case measure => have := HG.out; omega
          case rel => exact ⟨j + 1, hbd, by go_num, by have := HG.out; omega, HN⟩
        · have HN := Lib.hid (show l ≠ k from ne_of_ids he)
          rw [decide_eq_false he]
          clear he
          go_wp2
          go_ret
          exact ⟨boolR (decide_eq_false HN.out).symm, hbd⟩
      · have HE := Lib.hid (show l = k by
          have h1 := hinv.out
          rw [List.take_of_length_le (by rw [HLA.out]; omega), List.take_of_length_le (by rw [HLB.out]; omega)] at h1
          exact h1)
        clear hg
        go_wp2
        go_ret
        exact ⟨boolR (decide_eq_true HE.out).symm, hbw⟩
  · have HE := Lib.hid (show l ≠ k from fun h => hnm (by rw [← hla, ← hlb, h]))
    have hd : ((n : Int) != (m : Int)) = true := by simp; omega
    clear ha hb hla hlb hn hnm
    go_enter Tryd.func11, Tryd.ntmps11
    go_wp2
    go_ret
    exact ⟨boolR (decide_eq_false HE.out).symm, Below.refl _ _⟩
#print axioms same_any
end Go.Proofs.YtejooogfnnidcaaDoor
