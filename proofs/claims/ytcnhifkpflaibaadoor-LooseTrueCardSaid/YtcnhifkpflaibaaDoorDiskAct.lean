/-
  The walks of act: the disk comes down at it, or what is to be done is done (by each of the four closures).
-/
import Derived.Test.YtcnhifkpflaibaaDoorDiskKeep
namespace Go.Proofs.YtcnhifkpflaibaaDoor
open Go.RowKit Go.Maps

theorem wl_max {P : Program} {w : World} {ops : Array Oper} {rest : List Oper} {o : Oper} {a : Act} {Q : Exit → Act → World → Prop} (hgd : o.guard = none) (x y : Operand) (ats : Array TypeId)
    (ho : o.op = .call { callee := .builtin .max, args := #[x, y], argTypes := ats }) (X Y Z : Int) (hx : a.eval x = .int .i64 X) (hy : a.eval y = .int .i64 Y) (hz : Z = if X < Y then Y else X)
    (h : wpList P ops Q rest (a.put o.dst (.int .i64 Z)) w) : wpList P ops Q (o :: rest) a w := by
  refine wpList_ok hgd (v := .int .i64 Z) ?_ h
  subst hz
  obtain ⟨dst, op, ty, pos, after, guard⟩ := o
  subst ho
  simp only [BigFrame.execOp_builtin, BigFrame.builtin_max]
  simp [hx, hy, Builtin.max_, Builtin.max2]

section
variable {F : Nat → Prop} {w : World} {db : Nat} {S : DS} {M : Mem}
theorem down_fin (h : DiskIn F w db S M) (ha : S.arm = 1) : Chg F w (w.setCell ⟨db, 7, none⟩ (.bool true)) ∧ DiskIn F (w.setCell ⟨db, 7, none⟩ (.bool true)) db (armS S) M := by
  have kX : ∀ k, k ≠ db → (w.setCell ⟨db, 7, none⟩ (.bool true)).heap[k]? = w.heap[k]? := fun k h2 => Below.heap_setCell _ _ _ _ h2
  have sz : (w.setCell ⟨db, 7, none⟩ (.bool true)).heap.size = w.heap.size := by simp [World.setCell]
  refine ⟨Chg.refl.setCell (.inl h.inF.1) _, ?_, h.files.same (fun _ h => h) (fun k _ hb => kX k (h.db_file hb)), h.acts.same (fun _ h => h) (fun r hr => kX r (fun e => h.av_db (e ▸ hr))) (fun k _ hb => kX k (h.db_box hb)), h.now.same (kX _ (fun e => h.db_map h.now e.symm)), h.kept.same (kX _ (fun e => h.db_map h.kept e.symm)), h.two, fun e => ?_, h.armI, h.inF, fun k hk => by rw [sz]; exact h.lt k hk⟩
  · have := h.row.set 7 (.bool true)
    have e : (armS S).down = true := by simp [armS, ha]
    show RowAt _ _ _ (diskC (armS S) M)
    unfold diskC
    rw [e]
    exact this
  · simp [armS, ha] at e
theorem go_fin (h : DiskIn F w db S M) (hd : S.down = false) (ha : S.arm ≠ 1) : Chg F w (w.setCell ⟨db, 6, none⟩ (.int .i64 ((S.arm - 1 : Nat) : Int))) ∧ DiskIn F (w.setCell ⟨db, 6, none⟩ (.int .i64 ((S.arm - 1 : Nat) : Int))) db (armS S) { M with armed := S.arm - 1 } := by
  have kX : ∀ k, k ≠ db → (w.setCell ⟨db, 6, none⟩ (.int .i64 ((S.arm - 1 : Nat) : Int))).heap[k]? = w.heap[k]? := fun k h2 => Below.heap_setCell _ _ _ _ h2
  have sz : (w.setCell ⟨db, 6, none⟩ (.int .i64 ((S.arm - 1 : Nat) : Int))).heap.size = w.heap.size := by simp [World.setCell]
  refine ⟨Chg.refl.setCell (.inl h.inF.1) _, ?_, h.files.same (fun _ h => h) (fun k _ hb => kX k (h.db_file hb)), h.acts.same (fun _ h => h) (fun r hr => kX r (fun e => h.av_db (e ▸ hr))) (fun k _ hb => kX k (h.db_box hb)), h.now.same (kX _ (fun e => h.db_map h.now e.symm)), h.kept.same (kX _ (fun e => h.db_map h.kept e.symm)), h.two, fun _ => rfl, ?_, h.inF, fun k hk => by rw [sz]; exact h.lt k hk⟩
  · have := h.row.set 6 (.int .i64 ((S.arm - 1 : Nat) : Int))
    have e : (armS S).down = S.down := by simp [armS, ha, hd]
    show RowAt _ _ _ (diskC (armS S) _)
    unfold diskC
    rw [e]
    exact this
  · have := h.armI; have := h.arm hd; show S.arm - 1 ≤ _; omega
end

set_option maxRecDepth 100000 in
set_option maxHeartbeats 400000 in
theorem act_down {F : Nat → Prop} {w : World} {db : Nat} {S : DS} {M : Mem} (v : Value) (h : DiskIn F w db S M) (hd : S.down = false) (ha : S.arm = 1) :
    Calls Tryd.prog 34 #[Pt db, v] w fun e w' => e = .returned (.int .i64 9) ∧ Chg F w w' ∧ DiskIn F w' db (armS S) M := by
  have FIN := Lib.hid (down_fin h ha)
  have c6 := h.facts.2.2.2.2.2.2.1
  have e7 := h.facts.2.2.2.2.2.2.2
  rw [h.arm hd, ha] at c6
  have f7 := h.row.free 7
  clear h hd ha
  go_enter Tryd.func34, Tryd.ntmps34
  go_wp2
  go_ret
  exact ⟨rfl, FIN.out⟩

set_option maxRecDepth 100000 in
set_option maxHeartbeats 400000 in
theorem act_append {F : Nat → Prop} {w : World} {db : Nat} {S : DS} {M : Mem} (p q r s : Nat) (h : DiskIn F w db S M) (hd : S.down = false) (ha : S.arm ≠ 1) {Q : World → Prop}
    (hK : Calls Tryd.prog 35 #[Pt p, Pt q, Pt r, Pt s] (w.setCell ⟨db, 6, none⟩ (.int .i64 ((S.arm - 1 : Nat) : Int))) fun e w' => e = .returned (.tuple #[]) ∧ Q w') :
    Calls Tryd.prog 34 #[Pt db, .func (.func 35) #[] #[Pt p, Pt q, Pt r, Pt s]] w fun e w' => e = .returned (.int .i64 0) ∧ Q w' := by
  have HK := Lib.hid hK
  have c6 := h.facts.2.2.2.2.2.2.1
  rw [h.arm hd] at c6
  have f6 := h.row.free 6
  have hI := h.armI
  rw [h.arm hd] at hI
  have hnI : ((S.arm : Int) == 1) = false := by simp; omega
  have hz : ((S.arm - 1 : Nat) : Int) = if (S.arm : Int) - 1 < 0 then 0 else (S.arm : Int) - 1 := by split <;> omega
  generalize ((S.arm - 1 : Nat) : Int) = z at HK hz
  have HZ := Lib.hid hz
  have l1 : (0 : Int) ≤ (S.arm : Int) := by omega
  have l2 : (S.arm : Int) ≤ 9223372036854775807 := by omega
  clear h hd hK hz hI ha
  generalize (S.arm : Int) = m at c6 hnI HZ l1 l2
  go_enter Tryd.func34, Tryd.ntmps34
  go_wp2_with (first
    | (refine wl_max rfl _ _ _ rfl (m - 1) 0 z rfl rfl HZ.out ?_)
    | (go_at_call 35; (with_reducible refine HK.out.mono ?_); rintro e w1 ⟨rfl, hq⟩; have HQ := Lib.hid hq; clear hq))
  go_ret
  exact ⟨rfl, HQ.out⟩

set_option maxRecDepth 100000 in
set_option maxHeartbeats 400000 in
theorem act_sync {F : Nat → Prop} {w : World} {db : Nat} {S : DS} {M : Mem} (p q : Nat) (h : DiskIn F w db S M) (hd : S.down = false) (ha : S.arm ≠ 1) {Q : World → Prop}
    (hK : Calls Tryd.prog 71 #[Pt p, Pt q] (w.setCell ⟨db, 6, none⟩ (.int .i64 ((S.arm - 1 : Nat) : Int))) fun e w' => e = .returned (.tuple #[]) ∧ Q w') :
    Calls Tryd.prog 34 #[Pt db, .func (.func 71) #[] #[Pt p, Pt q]] w fun e w' => e = .returned (.int .i64 0) ∧ Q w' := by
  have HK := Lib.hid hK
  have c6 := h.facts.2.2.2.2.2.2.1
  rw [h.arm hd] at c6
  have f6 := h.row.free 6
  have hI := h.armI
  rw [h.arm hd] at hI
  have hnI : ((S.arm : Int) == 1) = false := by simp; omega
  have hz : ((S.arm - 1 : Nat) : Int) = if (S.arm : Int) - 1 < 0 then 0 else (S.arm : Int) - 1 := by split <;> omega
  generalize ((S.arm - 1 : Nat) : Int) = z at HK hz
  have HZ := Lib.hid hz
  have l1 : (0 : Int) ≤ (S.arm : Int) := by omega
  have l2 : (S.arm : Int) ≤ 9223372036854775807 := by omega
  clear h hd hK hz hI ha
  generalize (S.arm : Int) = m at c6 hnI HZ l1 l2
  go_enter Tryd.func34, Tryd.ntmps34
  go_wp2_with (first
    | (refine wl_max rfl _ _ _ rfl (m - 1) 0 z rfl rfl HZ.out ?_)
    | (go_at_call 71; (with_reducible refine HK.out.mono ?_); rintro e w1 ⟨rfl, hq⟩; have HQ := Lib.hid hq; clear hq))
  go_ret
  exact ⟨rfl, HQ.out⟩

set_option maxRecDepth 100000 in
set_option maxHeartbeats 400000 in
theorem act_remove {F : Nat → Prop} {w : World} {db : Nat} {S : DS} {M : Mem} (p q : Nat) (h : DiskIn F w db S M) (hd : S.down = false) (ha : S.arm ≠ 1) {Q : World → Prop}
    (hK : Calls Tryd.prog 65 #[Pt p, Pt q] (w.setCell ⟨db, 6, none⟩ (.int .i64 ((S.arm - 1 : Nat) : Int))) fun e w' => e = .returned (.tuple #[]) ∧ Q w') :
    Calls Tryd.prog 34 #[Pt db, .func (.func 65) #[] #[Pt p, Pt q]] w fun e w' => e = .returned (.int .i64 0) ∧ Q w' := by
  have HK := Lib.hid hK
  have c6 := h.facts.2.2.2.2.2.2.1
  rw [h.arm hd] at c6
  have f6 := h.row.free 6
  have hI := h.armI
  rw [h.arm hd] at hI
  have hnI : ((S.arm : Int) == 1) = false := by simp; omega
  have hz : ((S.arm - 1 : Nat) : Int) = if (S.arm : Int) - 1 < 0 then 0 else (S.arm : Int) - 1 := by split <;> omega
  generalize ((S.arm - 1 : Nat) : Int) = z at HK hz
  have HZ := Lib.hid hz
  have l1 : (0 : Int) ≤ (S.arm : Int) := by omega
  have l2 : (S.arm : Int) ≤ 9223372036854775807 := by omega
  clear h hd hK hz hI ha
  generalize (S.arm : Int) = m at c6 hnI HZ l1 l2
  go_enter Tryd.func34, Tryd.ntmps34
  go_wp2_with (first
    | (refine wl_max rfl _ _ _ rfl (m - 1) 0 z rfl rfl HZ.out ?_)
    | (go_at_call 65; (with_reducible refine HK.out.mono ?_); rintro e w1 ⟨rfl, hq⟩; have HQ := Lib.hid hq; clear hq))
  go_ret
  exact ⟨rfl, HQ.out⟩

end Go.Proofs.YtcnhifkpflaibaaDoor
