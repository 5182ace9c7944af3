/-
  Which of two keys is the other, whether two documents with their paths are one.
-/
import Derived.Test.YtipoielcmaegaaaGreatDoorRegAwake
import Derived.Test.YtipoielcmaegaaaGreatDoorKeyEqM
namespace Go.Proofs.YtipoielcmaegaaaGreatDoor
open Go.RowKit

set_option maxRecDepth 100000 in
theorem run_eqKeysD (d : Nat) (w : World) {a b : KeyV} (ha : a.c.length = 32) (hb : b.c.length = 32) : (Op.equalIn (d + 3) 35 (.agg (keyC a)) (.agg (keyC b))).run Tryz.prog w = .ok (decide (keyF a b = 0)) w := by
  have hf := key_fields
  rw [run_equalIn_struct w (d + 2) _ _ _ (by kernel_rfl) (by kernel_rfl)]
  generalize (Tryz.prog.fieldsOf 35).toList = fs at hf
  obtain ⟨f0, f1, f2, rfl⟩ : ∃ f0 f1 f2, fs = [f0, f1, f2] := by
    have hl : fs.length = 3 := by have := congrArg List.length hf; simpa using this
    match fs, hl with
    | [f0, f1, f2], _ => exact ⟨f0, f1, f2, rfl⟩
  simp only [List.map_cons, List.map_nil, List.cons.injEq, Prod.mk.injEq, and_true] at hf
  obtain ⟨⟨n0, t0, o0⟩, ⟨n1, t1, o1⟩, n2, t2, o2⟩ := hf
  have e1 : (Op.equalIn (d + 2) 33 (.agg (idCells a.c)) (.agg (idCells b.c))).run Tryz.prog w = .ok (decide (a.c = b.c)) w := run_eqIds_at d w ha hb
  have e0 : ∀ x y : Int, (Op.equalIn (d + 2) 3 (.int .i64 x) (.int .i64 y)).run Tryz.prog w = .ok (x == y) w := fun x y => run_equalIn_int w (d + 1) _ _ _ x y Tryz.underlying3
  have key : keyF a b = 0 ↔ a.t = b.t ∧ a.c = b.c ∧ a.i = b.i := by
    constructor
    · intro h; rw [keyF_eq h]; exact ⟨rfl, rfl, rfl⟩
    · rintro ⟨h1, h2, h3⟩
      have : a = b := by cases a; cases b; simp only at h1 h2 h3; subst h1 h2 h3; rfl
      rw [this]; exact keyF_self b
  have d0 : ("Time" : String) ≠ "_" := by decide
  have d1 : ("Change" : String) ≠ "_" := by decide
  have d2 : ("Index" : String) ≠ "_" := by decide
  unfold Op.eqFields
  rw [n0, t0, o0, if_pos d0, Sem.run_bind, part_time, Result.andThen_ok, Sem.run_bind, part_time, Result.andThen_ok, Sem.run_bind, e0, Result.andThen_ok]
  by_cases h1 : a.t = b.t
  · rw [if_neg (by simp [h1])]
    unfold Op.eqFields
    rw [n1, t1, o1, if_pos d1, Sem.run_bind, part_change w a ha, Result.andThen_ok, Sem.run_bind, part_change w b hb, Result.andThen_ok, Sem.run_bind, e1, Result.andThen_ok]
    by_cases h2 : a.c = b.c
    · rw [if_neg (by simp [h2])]
      unfold Op.eqFields
      rw [n2, t2, o2, if_pos d2, Sem.run_bind, part_index w a ha, Result.andThen_ok, Sem.run_bind, part_index w b hb, Result.andThen_ok, Sem.run_bind, e0, Result.andThen_ok]
      by_cases h3 : a.i = b.i
      · have h4 : keyF a b = 0 := key.2 ⟨h1, h2, h3⟩
        rw [if_neg (by simp [h3]), decide_eq_true h4]
        rfl
      · have h4 : keyF a b ≠ 0 := fun h => h3 (key.1 h).2.2
        rw [if_pos (by simp [h3]), decide_eq_false h4]
        rfl
    · have h4 : keyF a b ≠ 0 := fun h => h2 (key.1 h).2.1
      rw [if_pos (by simp [h2]), decide_eq_false h4]
      rfl
  · have h4 : keyF a b ≠ 0 := fun h => h1 (key.1 h).1
    rw [if_pos (by simp [h1]), decide_eq_false h4]
    rfl

theorem exec_neqKey {w : World} {o : Oper} {a : Act} (x y : Operand) (r : TypeId) (ho : o.op = .binOp .neq 35 x y r) (k m : KeyV) (hk : k.c.length = 32) (hm : m.c.length = 32) (hx : a.eval x = .agg (keyC k)) (hy : a.eval y = .agg (keyC m)) (q : Bool) (hq : q = !decide (keyF k m = 0)) :
    (execOp a.eval o).run Tryz.prog w = .ok (.value (.bool q)) w := by
  subst hq
  unfold execOp
  simp only [ho, hx, hy, Sem.run_bind, run_eqGuard_agg w _ _ _ _ _ _ noGuard_key, Result.andThen_ok, run_neq_struct, run_eqKeys w hk hm, Sem.run_pure]
theorem named_fields : (Tryz.prog.fieldsOf NEr).toList.map (fun f => (f.name, f.type, f.offset)) = [("Doc", 35, 0), ("Path", 9, 34)] := by kernel_rfl
theorem part_doc (w : World) (x : NamedV) (hx : x.1.c.length = 32) : (part 35 (nmC x) 0).run Tryz.prog w = .ok (.agg (keyC x.1)) w := by
  have hagg : (isAgg 35).run Tryz.prog w = .ok true w := by kernel_rfl
  obtain ⟨i0, hi, hz0, hz1, hz2⟩ := info_parts (show (Tryz.prog.info? 35).map (fun i => (i.zero, i.size, i.bytes)) = some (some (.agg (keyC zeroK)), 34, 48) by kernel_rfl)
  have hl := keyL_length hx
  have hex : (nmC x).extract 0 34 = keyC x.1 := by
    apply Array.ext_getElem?
    intro j
    rw [Array.getElem?_extract]
    unfold nmC nmL keyC
    by_cases hj : j < 34
    · rw [if_pos (by simp [hl]; omega)]
      rw [Nat.zero_add, List.getElem?_toArray, List.getElem?_toArray, List.getElem?_append_left (by omega)]
    · rw [if_neg (by simp [hl]; omega)]
      rw [List.getElem?_toArray, List.getElem?_eq_none (by omega)]
  simp [part, hagg, sizeOf, typeInfo, hi, hz1, hex]
theorem part_npath (w : World) (x : NamedV) (hx : x.1.c.length = 32) : (part 9 (nmC x) 34).run Tryz.prog w = .ok (.string (strB x.2)) w := by
  have hagg : (isAgg 9).run Tryz.prog w = .ok false w := by kernel_rfl
  have hl := keyL_length hx
  have hget : (nmC x)[34]? = some (.string (strB x.2)) := by
    unfold nmC nmL
    rw [List.getElem?_toArray, List.getElem?_append_right (by omega), hl]; rfl
  simp [part, hagg, hget]
theorem run_eqNamed (w : World) (x : NamedV) (hx : x.1.c.length = 32) : (Op.equalIn 10000 NEr (.agg (nmC x)) (.agg (nmC x))).run Tryz.prog w = .ok true w := by
  have hf := named_fields
  rw [show (10000 : Nat) = 9999 + 1 from rfl, run_equalIn_struct w 9999 _ _ _ (by kernel_rfl) (by kernel_rfl)]
  generalize (Tryz.prog.fieldsOf NEr).toList = fs at hf
  obtain ⟨f0, f1, rfl⟩ : ∃ f0 f1, fs = [f0, f1] := by
    have hl : fs.length = 2 := by have := congrArg List.length hf; simpa using this
    match fs, hl with
    | [f0, f1], _ => exact ⟨f0, f1, rfl⟩
  simp only [List.map_cons, List.map_nil, List.cons.injEq, Prod.mk.injEq, and_true] at hf
  obtain ⟨⟨n0, t0, o0⟩, n1, t1, o1⟩ := hf
  have e0 : (Op.equalIn 9999 35 (.agg (keyC x.1)) (.agg (keyC x.1))).run Tryz.prog w = .ok true w := by
    have := run_eqKeysD 9996 w hx hx
    rwa [decide_eq_true (keyF_self x.1)] at this
  have e1 : (Op.equalIn 9999 9 (.string (strB x.2)) (.string (strB x.2))).run Tryz.prog w = .ok true w := by
    have := run_equalIn_string (P := Tryz.prog) w 9998 9 (strB x.2) (strB x.2) Tryz.underlying9
    simpa using this
  have d0 : ("Doc" : String) ≠ "_" := by decide
  have d1 : ("Path" : String) ≠ "_" := by decide
  unfold Op.eqFields
  rw [n0, t0, o0, if_pos d0, Sem.run_bind, part_doc w x hx, Result.andThen_ok, Sem.run_bind, part_doc w x hx, Result.andThen_ok, Sem.run_bind, e0, Result.andThen_ok]
  rw [if_neg (by simp)]
  unfold Op.eqFields
  rw [n1, t1, o1, if_pos d1, Sem.run_bind, part_npath w x hx, Result.andThen_ok, Sem.run_bind, part_npath w x hx, Result.andThen_ok, Sem.run_bind, e1, Result.andThen_ok]
  rw [if_neg (by simp)]
  rfl
theorem noGuard_named : Tryz.prog.eqGuardType Tryz.prog.depth NEr = false := by kernel_rfl
theorem exec_neqNamed {w : World} {o : Oper} {a : Act} (x y : Operand) (r : TypeId) (ho : o.op = .binOp .neq NEr x y r) (k : NamedV) (hk : k.1.c.length = 32) (hx : a.eval x = .agg (nmC k)) (hy : a.eval y = .agg (nmC k)) :
    (execOp a.eval o).run Tryz.prog w = .ok (.value (.bool false)) w := by
  unfold execOp
  simp only [ho, hx, hy, Sem.run_bind, run_eqGuard_agg w _ _ _ _ _ _ noGuard_named, Result.andThen_ok, run_neq_struct, run_eqNamed w k hk, Sem.run_pure]
  rfl
#print axioms exec_neqNamed
end Go.Proofs.YtipoielcmaegaaaGreatDoor
