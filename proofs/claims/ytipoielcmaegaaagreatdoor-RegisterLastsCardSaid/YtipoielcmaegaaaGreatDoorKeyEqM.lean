/-
  Which of two keys is the other; a step of a region that only reads.
-/
import Derived.Test.YtipoielcmaegaaaGreatDoorKeysAt
import Derived.Test.YtipoielcmaegaaaGreatDoorIdList
import Derived.ChangeKeysEq
import Derived.Laws.StructEq
namespace Go.Proofs.YtipoielcmaegaaaGreatDoor
open Go.RowKit

set_option maxRecDepth 100000 in
theorem run_eqIds_at (d : Nat) (w : World) {l k : List UInt8} (h : l.length = 32) (hk : k.length = 32) : (Op.equalIn (d + 2) 33 (.agg (idCells l)) (.agg (idCells k))).run Tryz.prog w = .ok (decide (l = k)) w := by
  obtain ⟨i0, hi, _⟩ := info_parts Tryz.info5
  have hc : Tryz.prog.cellsOf 5 = 1 := by kernel_rfl
  rw [run_equalIn_array w (d + 1) (idCells l) (idCells k) Tryz.underlying33 hi, hc]
  rw [run_items w d l k (by omega) (List.range 32) (fun i hi => by rw [h]; simpa using hi)]
  congr 1
  rw [Bool.eq_iff_iff, decide_eq_true_iff, List.all_eq_true]
  constructor
  · intro hall
    apply List.ext_getElem (by omega)
    intro i hi1 hi2
    have := hall i (by simp; omega)
    rw [beq_iff_eq] at this
    simpa [hi1, hi2] using this
  · rintro rfl i _
    simp

theorem key_fields : (Tryz.prog.fieldsOf 35).toList.map (fun f => (f.name, f.type, f.offset)) = [("Time", 3, 0), ("Change", 33, 1), ("Index", 3, 33)] := by kernel_rfl

theorem part_time (w : World) (k : KeyV) : (part 3 (keyC k) 0).run Tryz.prog w = .ok (.int .i64 k.t) w := by
  have hagg : (isAgg 3).run Tryz.prog w = .ok false w := by kernel_rfl
  have hget : (keyC k)[0]? = some (.int .i64 k.t) := by unfold keyC keyL; simp
  simp [part, hagg, hget]
theorem part_index (w : World) (k : KeyV) (hk : k.c.length = 32) : (part 3 (keyC k) 33).run Tryz.prog w = .ok (.int .i64 k.i) w := by
  have hagg : (isAgg 3).run Tryz.prog w = .ok false w := by kernel_rfl
  have hget : (keyC k)[33]? = some (.int .i64 k.i) := by unfold keyC keyL; simp [hk]
  simp [part, hagg, hget]
theorem part_change (w : World) (k : KeyV) (hk : k.c.length = 32) : (part 33 (keyC k) 1).run Tryz.prog w = .ok (.agg (idCells k.c)) w := by
  have hagg : (isAgg 33).run Tryz.prog w = .ok true w := by kernel_rfl
  obtain ⟨i0, hi, hz0, hz1, hz2⟩ := info_parts Tryz.infoI33
  have hex : (keyC k).extract 1 33 = idCells k.c := by
    apply Array.ext_getElem?
    intro j
    rw [Array.getElem?_extract]
    unfold keyC keyL idCells
    by_cases hj : j < 32
    · rw [if_pos (by simp [hk]; omega)]
      rw [show 1 + j = j + 1 from by omega]
      simp only [List.getElem?_toArray, List.getElem?_cons_succ]
      rw [List.getElem?_append_left (by simp [hk]; omega)]
    · rw [if_neg (by simp [hk]; omega)]
      rw [List.getElem?_toArray, List.getElem?_eq_none (by simp [hk]; omega)]
  simp [part, hagg, sizeOf, typeInfo, hi, hz1, hex]

theorem run_eqKeys (w : World) {a b : KeyV} (ha : a.c.length = 32) (hb : b.c.length = 32) : (Op.equalIn 10000 35 (.agg (keyC a)) (.agg (keyC b))).run Tryz.prog w = .ok (decide (keyF a b = 0)) w := by
  have hf := key_fields
  rw [show (10000 : Nat) = 9999 + 1 from rfl, run_equalIn_struct w 9999 _ _ _ (by kernel_rfl) (by kernel_rfl)]
  generalize (Tryz.prog.fieldsOf 35).toList = fs at hf
  obtain ⟨f0, f1, f2, rfl⟩ : ∃ f0 f1 f2, fs = [f0, f1, f2] := by
    have hl : fs.length = 3 := by have := congrArg List.length hf; simpa using this
    match fs, hl with
    | [f0, f1, f2], _ => exact ⟨f0, f1, f2, rfl⟩
  simp only [List.map_cons, List.map_nil, List.cons.injEq, Prod.mk.injEq, and_true] at hf
  obtain ⟨⟨n0, t0, o0⟩, ⟨n1, t1, o1⟩, n2, t2, o2⟩ := hf
  have e1 : (Op.equalIn 9999 33 (.agg (idCells a.c)) (.agg (idCells b.c))).run Tryz.prog w = .ok (decide (a.c = b.c)) w := run_eqIds_at 9997 w ha hb
  have e0 : ∀ x y : Int, (Op.equalIn 9999 3 (.int .i64 x) (.int .i64 y)).run Tryz.prog w = .ok (x == y) w := fun x y => run_equalIn_int w 9998 _ _ _ x y Tryz.underlying3
  have key : keyF a b = 0 ↔ a.t = b.t ∧ a.c = b.c ∧ a.i = b.i := by
    constructor
    · intro h; rw [keyF_eq h]; exact ⟨rfl, rfl, rfl⟩
    · rintro ⟨h1, h2, h3⟩
      have : a = b := by cases a; cases b; simp only at h1 h2 h3; subst h1 h2 h3; rfl
      rw [this]; exact keyF_self b
  have d0 : ("Time" : String) ≠ "_" := by decide
  have d1 : ("Change" : String) ≠ "_" := by decide
  have d2 : ("Index" : String) ≠ "_" := by decide
  unfold Op.eqFields
  rw [n0, t0, o0, if_pos d0, Sem.run_bind, part_time, Result.andThen_ok, Sem.run_bind, part_time, Result.andThen_ok, Sem.run_bind, e0, Result.andThen_ok]
  by_cases h1 : a.t = b.t
  · rw [if_neg (by simp [h1])]
    unfold Op.eqFields
    rw [n1, t1, o1, if_pos d1, Sem.run_bind, part_change w a ha, Result.andThen_ok, Sem.run_bind, part_change w b hb, Result.andThen_ok, Sem.run_bind, e1, Result.andThen_ok]
    by_cases h2 : a.c = b.c
    · rw [if_neg (by simp [h2])]
      unfold Op.eqFields
      rw [n2, t2, o2, if_pos d2, Sem.run_bind, part_index w a ha, Result.andThen_ok, Sem.run_bind, part_index w b hb, Result.andThen_ok, Sem.run_bind, e0, Result.andThen_ok]
      by_cases h3 : a.i = b.i
      · have h4 : keyF a b = 0 := key.2 ⟨h1, h2, h3⟩
        rw [if_neg (by simp [h3]), decide_eq_true h4]
        rfl
      · have h4 : keyF a b ≠ 0 := fun h => h3 (key.1 h).2.2
        rw [if_pos (by simp [h3]), decide_eq_false h4]
        rfl
    · have h4 : keyF a b ≠ 0 := fun h => h2 (key.1 h).2.1
      rw [if_pos (by simp [h2]), decide_eq_false h4]
      rfl
  · have h4 : keyF a b ≠ 0 := fun h => h1 (key.1 h).1
    rw [if_pos (by simp [h1]), decide_eq_false h4]
    rfl
#print axioms run_eqKeys
theorem noGuard_key : Tryz.prog.eqGuardType Tryz.prog.depth 35 = false := by kernel_rfl

theorem exec_eqlKey {w : World} {o : Oper} {a : Act} (x y : Operand) (r : TypeId) (ho : o.op = .binOp .eql 35 x y r) (k m : KeyV) (hk : k.c.length = 32) (hm : m.c.length = 32) (hx : a.eval x = .agg (keyC k)) (hy : a.eval y = .agg (keyC m)) (q : Bool) (hq : q = decide (keyF k m = 0)) :
    (execOp a.eval o).run Tryz.prog w = .ok (.value (.bool q)) w := by
  subst hq
  unfold execOp
  simp only [ho, hx, hy, Sem.run_bind, run_eqGuard_agg w _ _ _ _ _ _ noGuard_key, Result.andThen_ok, run_eql_struct, run_eqKeys w hk hm, Sem.run_pure]
#print axioms exec_eqlKey
end Go.Proofs.YtipoielcmaegaaaGreatDoor
