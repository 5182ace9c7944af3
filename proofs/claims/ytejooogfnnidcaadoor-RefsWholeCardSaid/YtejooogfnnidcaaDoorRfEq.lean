/-
  A name with its id, an entry of the log: each is itself.
-/
import Derived.Test.YtejooogfnnidcaaDoorRfOf
namespace Go.Proofs.YtejooogfnnidcaaDoor
open Go.RowKit

theorem eqFields_self (w : World) (d : Nat) (c : Array Value) : ∀ fs : List Field, (∀ f ∈ fs, ∃ v, (part f.type c f.offset).run Tryd.prog w = .ok v w ∧ (Op.equalIn d f.type v v).run Tryd.prog w = .ok true w) → (Op.eqFields d c c fs).run Tryd.prog w = .ok true w
  | [], _ => rfl
  | f :: fs, h => by
    obtain ⟨v, h1, h2⟩ := h f List.mem_cons_self
    have h3 := eqFields_self w d c fs fun g hg => h g (List.mem_cons_of_mem _ hg)
    unfold Op.eqFields
    by_cases hn : f.name ≠ "_"
    · rw [if_pos hn, Sem.run_bind, h1, Result.andThen_ok, Sem.run_bind, h1, Result.andThen_ok, Sem.run_bind, h2, Result.andThen_ok]
      rw [if_neg (by simp)]
      exact h3
    · rw [if_neg hn]; exact h3
set_option maxRecDepth 100000 in
theorem run_eqIds_at (d : Nat) (w : World) {l k : List UInt8} (h : l.length = 32) (hk : k.length = 32) : (Op.equalIn (d + 2) 24 (.agg (idCells l)) (.agg (idCells k))).run Tryd.prog w = .ok (decide (l = k)) w := by
  obtain ⟨i0, hi, _⟩ := info_parts Tryd.info5
  have hc : Tryd.prog.cellsOf 5 = 1 := by kernel_rfl
  rw [run_equalIn_array w (d + 1) (idCells l) (idCells k) Tryd.underlying24 hi, hc]
  rw [run_items w d l k (by omega) (List.range 32) (fun i hi => by rw [h]; simpa using hi)]
  congr 1
  rw [Bool.eq_iff_iff, decide_eq_true_iff, List.all_eq_true]
  constructor
  · intro hall
    apply List.ext_getElem (by omega)
    intro i hi1 hi2
    have := hall i (by simp; omega)
    rw [beq_iff_eq] at this
    simpa [hi1, hi2] using this
  · rintro rfl i _
    simp
theorem part_rn0 (w : World) (x : RName) (hx : x.2.length = 32) : (part 9 (rnL x).toArray 0).run Tryd.prog w = .ok (.string (strB x.1)) w := by
  obtain ⟨s, l⟩ := x
  obtain ⟨b0, b1, b2, b3, b4, b5, b6, b7, b8, b9, b10, b11, b12, b13, b14, b15, b16, b17, b18, b19, b20, b21, b22, b23, b24, b25, b26, b27, b28, b29, b30, b31, rfl⟩ := list32 hx
  kernel_rfl
theorem part_rn1 (w : World) (x : RName) (hx : x.2.length = 32) : (part 24 (rnL x).toArray 1).run Tryd.prog w = .ok (.agg (idCells x.2)) w := by
  obtain ⟨s, l⟩ := x
  obtain ⟨b0, b1, b2, b3, b4, b5, b6, b7, b8, b9, b10, b11, b12, b13, b14, b15, b16, b17, b18, b19, b20, b21, b22, b23, b24, b25, b26, b27, b28, b29, b30, b31, rfl⟩ := list32 hx
  kernel_rfl
theorem rn_fields : (Tryd.prog.fieldsOf Of.ONEf).toList.map (fun f => (f.type, f.offset)) = [(9, 0), (24, 1)] := by kernel_rfl
theorem up_fields : (Tryd.prog.fieldsOf UEf).toList.map (fun f => (f.type, f.offset)) = [(5, 0), (9, 1), (24, 2), (24, 34)] := by kernel_rfl
theorem en_fields : (Tryd.prog.fieldsOf EEf).toList.map (fun f => (f.type, f.offset)) = [(UEf, 0), (9, 66)] := by kernel_rfl
theorem eq_str (w : World) (d : Nat) (s : ByteArray) : (Op.equalIn (d + 1) 9 (.string s) (.string s)).run Tryd.prog w = .ok true w := by
  rw [run_equalIn_string (P := Tryd.prog) w d 9 s s Tryd.underlying9]; simp
theorem eq_id (w : World) (d : Nat) (l : List UInt8) (hl : l.length = 32) : (Op.equalIn (d + 2) 24 (.agg (idCells l)) (.agg (idCells l))).run Tryd.prog w = .ok true w := by
  rw [run_eqIds_at d w hl hl, decide_eq_true rfl]
theorem field_in {fs : List Field} {ts : List (TypeId × Nat)} (h : fs.map (fun f => (f.type, f.offset)) = ts) {f : Field} (hf : f ∈ fs) : (f.type, f.offset) ∈ ts := by rw [← h]; exact List.mem_map.2 ⟨f, hf, rfl⟩
theorem eq_rn (w : World) (x : RName) (hx : x.2.length = 32) : (Op.equalIn 10000 Of.ONEf (.agg (rnL x).toArray) (.agg (rnL x).toArray)).run Tryd.prog w = .ok true w := by
  rw [show (10000 : Nat) = 9999 + 1 from rfl, run_equalIn_struct w 9999 _ _ _ (by kernel_rfl) (by kernel_rfl)]
  refine eqFields_self w 9999 _ _ fun f hf => ?_
  have hm := field_in rn_fields hf
  simp only [List.mem_cons, Prod.mk.injEq, List.not_mem_nil, or_false] at hm
  rcases hm with ⟨h1, h2⟩ | ⟨h1, h2⟩ <;> rw [h1, h2]
  · exact ⟨_, part_rn0 w x hx, eq_str w 9998 _⟩
  · exact ⟨_, part_rn1 w x hx, eq_id w 9997 _ hx⟩
theorem part_up (w : World) (u : UpdV) (hu : UpOk u) : (part 5 (upL u).toArray 0).run Tryd.prog w = .ok (.int .u8 (u.kind : Int)) w ∧ (part 9 (upL u).toArray 1).run Tryd.prog w = .ok (.string (strB u.name)) w ∧ (part 24 (upL u).toArray 2).run Tryd.prog w = .ok (.agg (idCells u.old)) w ∧ (part 24 (upL u).toArray 34).run Tryd.prog w = .ok (.agg (idCells u.new)) w := by
  obtain ⟨k, s, o, m⟩ := u
  obtain ⟨h1, h2, h3⟩ := hu
  simp only at h2 h3
  obtain ⟨b0, b1, b2, b3, b4, b5, b6, b7, b8, b9, b10, b11, b12, b13, b14, b15, b16, b17, b18, b19, b20, b21, b22, b23, b24, b25, b26, b27, b28, b29, b30, b31, rfl⟩ := list32 h2
  obtain ⟨c0, c1, c2, c3, c4, c5, c6, c7, c8, c9, c10, c11, c12, c13, c14, c15, c16, c17, c18, c19, c20, c21, c22, c23, c24, c25, c26, c27, c28, c29, c30, c31, rfl⟩ := list32 h3
  exact ⟨by kernel_rfl, by kernel_rfl, by kernel_rfl, by kernel_rfl⟩
theorem eq_up (w : World) (d : Nat) (u : UpdV) (hu : UpOk u) : (Op.equalIn (d + 3) UEf (.agg (upL u).toArray) (.agg (upL u).toArray)).run Tryd.prog w = .ok true w := by
  rw [run_equalIn_struct w (d + 2) _ _ _ (by kernel_rfl) (by kernel_rfl)]
  obtain ⟨p0, p1, p2, p3⟩ := part_up w u hu
  refine eqFields_self w (d + 2) _ _ fun f hf => ?_
  have hm := field_in up_fields hf
  simp only [List.mem_cons, Prod.mk.injEq, List.not_mem_nil, or_false] at hm
  rcases hm with ⟨h1, h2⟩ | ⟨h1, h2⟩ | ⟨h1, h2⟩ | ⟨h1, h2⟩ <;> rw [h1, h2]
  · refine ⟨_, p0, ?_⟩
    rw [run_equalIn_int w (d + 1) _ _ _ _ _ Tryd.underlying5]; simp
  · exact ⟨_, p1, eq_str w (d + 1) _⟩
  · exact ⟨_, p2, eq_id w d _ hu.2.1⟩
  · exact ⟨_, p3, eq_id w d _ hu.2.2⟩
theorem part_en (w : World) (x : EntV) (hx : UpOk x.upd) : (part UEf (enL x).toArray 0).run Tryd.prog w = .ok (.agg (upL x.upd).toArray) w ∧ (part 9 (enL x).toArray 66).run Tryd.prog w = .ok (.string (strB x.note)) w := by
  obtain ⟨⟨k, s, o, m⟩, n⟩ := x
  obtain ⟨h1, h2, h3⟩ := hx
  simp only at h2 h3
  obtain ⟨b0, b1, b2, b3, b4, b5, b6, b7, b8, b9, b10, b11, b12, b13, b14, b15, b16, b17, b18, b19, b20, b21, b22, b23, b24, b25, b26, b27, b28, b29, b30, b31, rfl⟩ := list32 h2
  obtain ⟨c0, c1, c2, c3, c4, c5, c6, c7, c8, c9, c10, c11, c12, c13, c14, c15, c16, c17, c18, c19, c20, c21, c22, c23, c24, c25, c26, c27, c28, c29, c30, c31, rfl⟩ := list32 h3
  exact ⟨by kernel_rfl, by kernel_rfl⟩
theorem eq_en (w : World) (x : EntV) (hx : UpOk x.upd) : (Op.equalIn 10000 EEf (.agg (enL x).toArray) (.agg (enL x).toArray)).run Tryd.prog w = .ok true w := by
  rw [show (10000 : Nat) = 9999 + 1 from rfl, run_equalIn_struct w 9999 _ _ _ (by kernel_rfl) (by kernel_rfl)]
  obtain ⟨p0, p1⟩ := part_en w x hx
  refine eqFields_self w 9999 _ _ fun f hf => ?_
  have hm := field_in en_fields hf
  simp only [List.mem_cons, Prod.mk.injEq, List.not_mem_nil, or_false] at hm
  rcases hm with ⟨h1, h2⟩ | ⟨h1, h2⟩ <;> rw [h1, h2]
  · exact ⟨_, p0, eq_up w 9996 _ hx⟩
  · exact ⟨_, p1, eq_str w 9998 _⟩
theorem noGuard_rn : Tryd.prog.eqGuardType Tryd.prog.depth Of.ONEf = false := by kernel_rfl
theorem noGuard_en : Tryd.prog.eqGuardType Tryd.prog.depth EEf = false := by kernel_rfl
theorem exec_neqRn {w : World} {o : Oper} {a : Act} (x y : Operand) (r : TypeId) (ho : o.op = .binOp .neq Of.ONEf x y r) (k : RName) (hk : k.2.length = 32) (hx : a.eval x = .agg (rnL k).toArray) (hy : a.eval y = .agg (rnL k).toArray) :
    (execOp a.eval o).run Tryd.prog w = .ok (.value (.bool false)) w := by
  unfold execOp
  simp only [ho, hx, hy, Sem.run_bind, run_eqGuard_agg w _ _ _ _ _ _ noGuard_rn, Result.andThen_ok, run_neq_struct, eq_rn w k hk, Sem.run_pure]
  rfl
theorem exec_neqEn {w : World} {o : Oper} {a : Act} (x y : Operand) (r : TypeId) (ho : o.op = .binOp .neq EEf x y r) (k : EntV) (hk : UpOk k.upd) (hx : a.eval x = .agg (enL k).toArray) (hy : a.eval y = .agg (enL k).toArray) :
    (execOp a.eval o).run Tryd.prog w = .ok (.value (.bool false)) w := by
  unfold execOp
  simp only [ho, hx, hy, Sem.run_bind, run_eqGuard_agg w _ _ _ _ _ _ noGuard_en, Result.andThen_ok, run_neq_struct, eq_en w k hk, Sem.run_pure]
  rfl
theorem exec_loadOn {w : World} {o : Oper} {a : Act} (x : Operand) (ho : o.op = .load Of.ONEf x) (b off : Nat) (X : RName) (hX : X.2.length = 32) (hx : a.eval x = .pointer (some ⟨b, off, none⟩)) (hc : w.rangeAt b off (rnL X)) :
    (execOp a.eval o).run Tryd.prog w = .ok (.value (.agg (rnL X).toArray)) w := by
  have hr := run_loadVar_mid (P := Tryd.prog) w b off Of.ONEf (rnL X) _ hc Tryd.underlying55 rfl (by rw [rnL_len hX]; kernel_rfl)
  unfold execOp
  simp only [ho, hx, Instr.loadAt, Instr.sureAddr, Sem.run_bind, Sem.run_pure, Result.andThen_ok, hr]
#print axioms exec_neqEn
end Go.Proofs.YtejooogfnnidcaaDoor
