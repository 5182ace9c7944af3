/-
  Ids built and put into slices; the walk of awake: what the chapter's examples say.
-/
import Derived.Test.YtglgjhmcdkooiaaIdSet
import Derived.Test.YtglgjhmcdkooiaaIdFind
import Derived.Test.YtglgjhmcdkooiaaOrdKeysW
import Derived.Deep.RegionHeld
namespace Go.Proofs.Ytglgjhmcdkooiaa
open Go.RowKit

def idN (x : UInt8) : List UInt8 := x :: List.replicate 31 0
theorem idN_length (x : UInt8) : (idN x).length = 32 := rfl

theorem build_1 (w : World) : (Instr.build 31 #[(0, .int .u8 1)]).run Try.prog w = .ok (.agg (idCells (idN 1))) w := by kernel_rfl
theorem build_2 (w : World) : (Instr.build 31 #[(0, .int .u8 2)]).run Try.prog w = .ok (.agg (idCells (idN 2))) w := by kernel_rfl
theorem build_3 (w : World) : (Instr.build 31 #[(0, .int .u8 3)]).run Try.prog w = .ok (.agg (idCells (idN 3))) w := by kernel_rfl
theorem wl_build {w : World} {ops : Array Oper} {rest : List Oper} {o : Oper} {a : Act} {Q : Exit → Act → World → Prop} (z : Int) (x : UInt8) (hr : ∀ w, (Instr.build 31 #[(0, .int .u8 z)]).run Try.prog w = .ok (.agg (idCells (idN x))) w) (hgd : o.guard = none) (ho : o.op = .build 31 #[(0, .const (.int .u8 z))])
    (h : wpList Try.prog ops Q rest (a.put o.dst (.agg (idCells (idN x)))) w) : wpList Try.prog ops Q (o :: rest) a w := by
  refine wpList_ok hgd ?_ h
  unfold execOp
  simp only [ho, List.map_toArray, List.map_cons, List.map_nil, Act.eval, Sem.run_bind, Sem.run_pure, hr, Result.andThen_ok]

/-- A slice built of ids. -/
theorem ids_built (w : World) (L : List (List UInt8)) (h : W32 L) (n : Nat) (hl : L.length = n) (hn : n ≤ 1000) : IdsAt (w.alloc (.cells (flat L).toArray 31)) (some ⟨w.heap.size, 0, none⟩) n n L := by
  refine ⟨hl, Nat.le_refl _, by omega, h, .inr ⟨w.heap.size, 0, rfl, fun j v hv => ?_⟩⟩
  rw [Nat.zero_add, cell_of_row _ _ j _ _ (0, 0) (heap_alloc_new w _)]
  simpa using hv
theorem run_13 (w : World) : (Instr.buildSlice 37 2 #[(0, .agg (idCells (idN 1))), (1, .agg (idCells (idN 3)))]).run Try.prog w = .ok (.slice (some ⟨w.heap.size, 0, none⟩) 2 2) (w.alloc (.cells (flat [idN 1, idN 3]).toArray 31)) := by kernel_rfl
theorem run_12 (w : World) : (Instr.buildSlice 37 2 #[(0, .agg (idCells (idN 1))), (1, .agg (idCells (idN 2)))]).run Try.prog w = .ok (.slice (some ⟨w.heap.size, 0, none⟩) 2 2) (w.alloc (.cells (flat [idN 1, idN 2]).toArray 31)) := by kernel_rfl
theorem run_212 (w : World) : (Instr.buildSlice 37 3 #[(0, .agg (idCells (idN 2))), (1, .agg (idCells (idN 1))), (2, .agg (idCells (idN 2)))]).run Try.prog w = .ok (.slice (some ⟨w.heap.size, 0, none⟩) 3 3) (w.alloc (.cells (flat [idN 2, idN 1, idN 2]).toArray 31)) := by kernel_rfl

theorem exec_two {w w' : World} {v : Value} {o : Oper} {a : Act} (x y : Operand) (X Y : Value) (ho : o.op = .buildSlice 37 2 #[(0, x), (1, y)]) (hx : a.eval x = X) (hy : a.eval y = Y)
    (hr : (Instr.buildSlice 37 2 #[(0, X), (1, Y)]).run Try.prog w = .ok v w') : (execOp a.eval o).run Try.prog w = .ok (.value v) w' := by
  unfold execOp
  simp only [ho, List.map_toArray, List.map_cons, List.map_nil, hx, hy, Sem.run_bind, Sem.run_pure, hr, Result.andThen_ok]
theorem exec_three {w w' : World} {v : Value} {o : Oper} {a : Act} (x y z : Operand) (X Y Z : Value) (ho : o.op = .buildSlice 37 3 #[(0, x), (1, y), (2, z)]) (hx : a.eval x = X) (hy : a.eval y = Y) (hz : a.eval z = Z)
    (hr : (Instr.buildSlice 37 3 #[(0, X), (1, Y), (2, Z)]).run Try.prog w = .ok v w') : (execOp a.eval o).run Try.prog w = .ok (.value v) w' := by
  unfold execOp
  simp only [ho, List.map_toArray, List.map_cons, List.map_nil, hx, hy, hz, Sem.run_bind, Sem.run_pure, hr, Result.andThen_ok]

theorem exec_step {w w' : World} {ops : Array Oper} {o : Oper} {a : Act} {K : Act → World → Prop} {Q : Exit → Act → World → Prop} {v : Value} (hr : (execOp a.eval o).run Try.prog w = .ok (.value v) w') (h : K (a.put o.dst v) w') (hgd : o.guard = none := by rfl) :
    if Region.wanted o (yielded ops a.tmps) = true then o.wp Try.prog a w K Q else K (a.put o.dst undef) w := by
  rw [if_pos (by unfold Region.wanted; rw [hgd])]
  unfold Oper.wp
  rw [hr]
  exact h

theorem find_132 : findF [idN 1, idN 3] (idN 2) = (1, false) := by decide +kernel
theorem cmp_12 : cmpF (idN 1) (idN 2) = -1 := by decide +kernel
theorem set_212 : setF [idN 2, idN 1, idN 2] = [idN 1, idN 2] :=
  (setF_of (m := [idN 1, idN 2]) (l := [idN 2, idN 1, idN 2]) (by simp [SetF, cmp_12]) (fun x => by simp only [List.mem_cons, List.not_mem_nil, or_false]; exact ⟨fun h => Or.inr h, fun h => h.elim Or.inr id⟩)).symm
def k2 : KeyV := ⟨2, idZero, 0⟩
def k1 : KeyV := ⟨1, idZero, 0⟩
theorem key_21 : keyF k2 k1 = 1 := by decide +kernel
theorem build_k2 (w : World) : (Instr.build 33 #[(0, .int .i64 2)]).run Try.prog w = .ok (.agg (keyC k2)) w := by kernel_rfl
theorem build_k1 (w : World) : (Instr.build 33 #[(0, .int .i64 1)]).run Try.prog w = .ok (.agg (keyC k1)) w := by kernel_rfl

theorem W_13 : W32 [idN 1, idN 3] := fun x hx => by simp at hx; rcases hx with rfl | rfl <;> rfl
theorem W_12 : W32 [idN 1, idN 2] := fun x hx => by simp at hx; rcases hx with rfl | rfl <;> rfl
theorem W_212 : W32 [idN 2, idN 1, idN 2] := fun x hx => by simp at hx; rcases hx with rfl | rfl | rfl <;> rfl
theorem idAt_ne {w w' : World} {g k : Nat} {l : List UInt8} (h : IdAt w g l) (hg : w.grownBy w' (some k)) (hne : g ≠ k) : IdAt w' g l := h.grown hg (fun e => hne (Option.some.inj e))
theorem find_is (W : World) (g : Nat) (h : IdsAt W (some ⟨g, 0, none⟩) 2 2 [idN 1, idN 3]) : Calls Try.prog 12 #[.slice (some ⟨g, 0, none⟩) 2 2, .agg (idCells (idN 2))] W fun e w' => e = .returned (.tuple #[.int .i64 1, .bool false]) ∧ Below W.heap.size W w' := by
  have := find_any _ 2 2 _ (idN 2) W h rfl (by omega)
  rw [find_132] at this
  exact this
theorem set_is (W : World) (g : Nat) (h : IdsAt W (some ⟨g, 0, none⟩) 3 3 [idN 2, idN 1, idN 2]) : Calls Try.prog 14 #[.slice (some ⟨g, 0, none⟩) 3 3] W fun e w' => ∃ a c, e = .returned (.slice a 2 c) ∧ IdsAt w' a 2 c [idN 1, idN 2] ∧ Below W.heap.size W w' := by
  have := set_any _ 3 3 _ W h (by omega)
  rw [set_212] at this
  exact this
theorem same_is (W : World) (a b : Option Addr) (c d : Nat) (h : IdsAt W a 2 c [idN 1, idN 2]) (k : IdsAt W b 2 d [idN 1, idN 2]) : Calls Try.prog 13 #[.slice a 2 c, .slice b 2 d] W fun e w' => e = .returned (.bool true) ∧ Below W.heap.size W w' := by
  have := same_any a 2 c _ b 2 d _ W h k (by omega)
  rw [decide_eq_true rfl] at this
  exact this
theorem cmp_is12 (W : World) : Calls Try.prog 15 #[.agg (idCells (idN 1)), .agg (idCells (idN 2))] W fun e w' => e = .returned (.int .i64 (-1)) ∧ Below W.heap.size W w' := cmp_is _ _ (-1) W rfl rfl cmp_12.symm
theorem keys_is21 (W : World) : Calls Try.prog 10 #[.agg (keyC k2), .agg (keyC k1)] W fun e w' => e = .returned (.int .i64 1) ∧ Below W.heap.size W w' := by
  have := keys_any k2 k1 W rfl rfl
  unfold KeyIs at this
  rw [key_21] at this
  exact this
theorem exec_k2 {w : World} {o : Oper} {a : Act} (ho : o.op = .build 33 #[(0, .const (.int .i64 2))]) : (execOp a.eval o).run Try.prog w = .ok (.value (.agg (keyC k2))) w := by
  unfold execOp
  simp only [ho, List.map_toArray, List.map_cons, List.map_nil, Act.eval, Sem.run_bind, Sem.run_pure, build_k2, Result.andThen_ok]
theorem exec_k1 {w : World} {o : Oper} {a : Act} (ho : o.op = .build 33 #[(0, .const (.int .i64 1))]) : (execOp a.eval o).run Try.prog w = .ok (.value (.agg (keyC k1))) w := by
  unfold execOp
  simp only [ho, List.map_toArray, List.map_cons, List.map_nil, Act.eval, Sem.run_bind, Sem.run_pure, build_k1, Result.andThen_ok]
attribute [irreducible] idN

set_option maxRecDepth 100000 in
set_option maxHeartbeats 4000000 in
theorem awake_any (w : World) : Calls Try.prog 7 #[] w fun e w' => e = .returned (.bool true) ∧ Below w.heap.size w w' := by
  go_enter Try.func7, Try.ntmps7
  go_wp2_with (first
    | (with_reducible show wpList _ _ _ (⟨some 6, _, _, _, _, _⟩ :: _) _ _; refine wl_build 1 1 build_1 rfl rfl ?_)
    | (with_reducible show wpList _ _ _ (⟨some 7, _, _, _, _, _⟩ :: _) _ _; refine wl_build 2 2 build_2 rfl rfl ?_)
    | (with_reducible show wpList _ _ _ (⟨some 8, _, _, _, _, _⟩ :: _) _ _; refine wl_build 3 3 build_3 rfl rfl ?_)
    | (with_reducible show wpList _ _ _ (⟨some 1, _, _, _, _, _⟩ :: _) _ _; refine alloc_id rfl rfl ?_; intro v1 i1 b1 s1; have q1 := Lib.hid s1; clear s1)
    | (with_reducible show wpList _ _ _ (⟨some 2, _, _, _, _, _⟩ :: _) _ _; refine alloc_id rfl rfl ?_; intro v2 i2 b2 s2; have q2 := Lib.hid s2; clear s2)
    | (with_reducible show wpList _ _ _ (⟨some 3, _, _, _, _, _⟩ :: _) _ _; refine alloc_id rfl rfl ?_; intro v3 i3 b3 s3; clear s3; have n12 : w.heap.size ≠ v1.heap.size := (by have := q1.out; omega); have n13 : w.heap.size ≠ v2.heap.size := (by have := q1.out; have := q2.out; omega); have n23 : v1.heap.size ≠ v2.heap.size := (by have := q2.out; omega); have l1 := (i1.below b2).below b3; have l2 := i2.below b3)
    | (with_reducible show wpList _ _ _ (⟨none, .store _ (.tmp 1) _, _, _, _, _⟩ :: _) _ _; refine store_id rfl (.tmp 1) (.tmp 6) rfl w.heap.size idZero (idN 1) rfl rfl l1 (idN_length 1) ?_; intro u1 j1 c1 t1; clear t1; have m2 := idAt_ne l2 c1 n12.symm; have m3 := idAt_ne i3 c1 n13.symm)
    | (with_reducible show wpList _ _ _ (⟨none, .store _ (.tmp 2) _, _, _, _, _⟩ :: _) _ _; refine store_id rfl (.tmp 2) (.tmp 7) rfl v1.heap.size idZero (idN 2) rfl rfl m2 (idN_length 2) ?_; intro u2 j2 c2 t2; clear t2; have o1 := idAt_ne j1 c2 n12; have o3 := idAt_ne m3 c2 n23.symm)
    | (with_reducible show wpList _ _ _ (⟨none, .store _ (.tmp 3) _, _, _, _, _⟩ :: _) _ _; refine store_id rfl (.tmp 3) (.tmp 8) rfl v2.heap.size idZero (idN 3) rfl rfl o3 (idN_length 3) ?_; intro u3 j3 c3 t3; clear t3; have p1 := idAt_ne o1 c3 n13; have p2 := idAt_ne j2 c3 n23; have HF := Lib.hid (ids_built u3 [idN 1, idN 3] W_13 2 rfl (by omega)))
    | (with_reducible show wpList _ _ _ (⟨some 10, _, _, _, _, _⟩ :: _) _ _; refine load_id rfl (.tmp 1) rfl w.heap.size (idN 1) rfl p1 ?_)
    | (with_reducible show wpList _ _ _ (⟨some 11, _, _, _, _, _⟩ :: _) _ _; refine load_id rfl (.tmp 3) rfl v2.heap.size (idN 3) rfl j3 ?_)
    | (with_reducible show wpList _ _ _ (⟨some 12, _, _, _, _, _⟩ :: _) _ _; refine wpList_ok rfl (exec_two (.tmp 10) (.tmp 11) (.agg (idCells (idN 1))) (.agg (idCells (idN 3))) rfl rfl rfl (run_13 _)) ?_)
    | (with_reducible show wpList _ _ _ (⟨some 13, _, _, _, _, _⟩ :: _) _ _; refine load_id rfl (.tmp 2) rfl v1.heap.size (idN 2) rfl (p2.below ((Below.refl _ _).alloc (Nat.le_refl _) _)) ?_)
    | (go_at_call 12; go_must (refine (find_is _ _ HF.out).mono ?_); rintro e w4 ⟨rfl, hb4⟩))
  have hb4' := (((Below.refl u3.heap.size u3).alloc (Nat.le_refl _) (.cells (flat [idN 1, idN 3]).toArray 31))).trans (hb4.mono (by simp))
  have P1 := Lib.hid (p1.below hb4')
  have P2 := Lib.hid (p2.below hb4')
  have HBW := Lib.hid (show Below w.heap.size w w4 by
    have h3 := (b1.trans (b2.mono b1.size)).trans (b3.mono (b1.trans (b2.mono b1.size)).size)
    have e1 := h3.grown c1 h3.size (fun k hk => by simp at hk; omega)
    have e2 := e1.grown c2 e1.size (fun k hk => by simp at hk; have := q1.out; omega)
    have e3 := e2.grown c3 e2.size (fun k hk => by simp at hk; have := q1.out; have := q2.out; omega)
    exact e3.trans (hb4'.mono e3.size))
  have hS : Below w4.heap.size w4 w4.drew := (Below.refl _ _).drew
  have hu := Try.underlying31
  have hi1 : (Try.prog.info? 31).map (·.size) = some ((idN 1).map B).length := by rw [List.length_map, idN_length]; exact info_id
  have hi2 : (Try.prog.info? 31).map (·.size) = some ((idN 2).map B).length := by rw [List.length_map, idN_length]; exact info_id
  clear i1 b1 q1 i2 b2 q2 i3 b3 n12 n13 n23 l1 l2 j1 c1 m2 m3 j2 c2 o1 o3 j3 c3 p1 p2 HF hb4 hb4'
  refine wp_region_held_drew (S := fun W => Below w4.heap.size w4 W) (by kernel_rfl) hS (fun hHeld => ?_)
  refine wpAnyH_take (i := 0) (oi := ⟨some 17, .load 31 (.tmp 2), _, _, _, _⟩) (v := (.agg (idCells (idN 2)))) rfl (by kernel_rfl) (by kernel_rfl) (by kernel_rfl) (fun _ _ _ h => h) (yieldsIf_load_mid (by rfl) _ _ rfl _ _ rfl _ _ (fun W hW => (P2.out.below hW).range) hu rfl hi2) (by assumption) ?_
  simp only [Act.put, List.setIfInBounds_toArray, List.set_cons_zero, List.set_cons_succ]
  refine wpAnyH_take (i := 1) (oi := ⟨some 18, .load 31 (.tmp 1), _, _, _, _⟩) (v := (.agg (idCells (idN 1)))) rfl (by kernel_rfl) (by kernel_rfl) (by kernel_rfl) (fun _ _ _ h => h) (yieldsIf_load_mid (by rfl) _ _ rfl _ _ rfl _ _ (fun W hW => (P1.out.below hW).range) hu rfl hi1) (by assumption) ?_
  simp only [Act.put, List.setIfInBounds_toArray, List.set_cons_zero, List.set_cons_succ]
  refine wpAnyH_take (i := 2) (oi := ⟨some 19, .load 31 (.tmp 2), _, _, _, _⟩) (v := (.agg (idCells (idN 2)))) rfl (by kernel_rfl) (by kernel_rfl) (by kernel_rfl) (fun _ _ _ h => h) (yieldsIf_load_mid (by rfl) _ _ rfl _ _ rfl _ _ (fun W hW => (P2.out.below hW).range) hu rfl hi2) (by assumption) ?_
  simp only [Act.put, List.setIfInBounds_toArray, List.set_cons_zero, List.set_cons_succ]
  refine wpAnyH_take (i := 5) (oi := ⟨some 22, .load 31 (.tmp 1), _, _, _, _⟩) (v := (.agg (idCells (idN 1)))) rfl (by kernel_rfl) (by kernel_rfl) (by kernel_rfl) (fun _ _ _ h => h) (yieldsIf_load_mid (by rfl) _ _ rfl _ _ rfl _ _ (fun W hW => (P1.out.below hW).range) hu rfl hi1) (by assumption) ?_
  simp only [Act.put, List.setIfInBounds_toArray, List.set_cons_zero, List.set_cons_succ]
  refine wpAnyH_take (i := 6) (oi := ⟨some 23, .load 31 (.tmp 2), _, _, _, _⟩) (v := (.agg (idCells (idN 2)))) rfl (by kernel_rfl) (by kernel_rfl) (by kernel_rfl) (fun _ _ _ h => h) (yieldsIf_load_mid (by rfl) _ _ rfl _ _ rfl _ _ (fun W hW => (P2.out.below hW).range) hu rfl hi2) (by assumption) ?_
  simp only [Act.put, List.setIfInBounds_toArray, List.set_cons_zero, List.set_cons_succ]
  refine wpAnyH_ready (rs := [3, 7]) (by kernel_rfl) (by simp) ?_
  refine AllReadyH.cons (o := ⟨some 20, .buildSlice 37 3 #[(0, .tmp 17), (1, .tmp 18), (2, .tmp 19)], _, _, _, _⟩) rfl (fun K hK => ?_) (AllReadyH.cons (o := ⟨some 24, .buildSlice 37 2 #[(0, .tmp 22), (1, .tmp 23)], _, _, _, _⟩) rfl (fun K hK => ?_) AllReadyH.nil)
  · obtain ⟨gA, hgA⟩ : ∃ g, g = (w4.drew).heap.size := ⟨_, rfl⟩
    have HGA := Lib.hid hgA
    have HA := Lib.hid (show IdsAt (World.alloc (w4.drew) (.cells (flat [idN 2, idN 1, idN 2]).toArray 31)) (some ⟨gA, 0, none⟩) 3 3 [idN 2, idN 1, idN 2] by rw [hgA]; exact ids_built _ [idN 2, idN 1, idN 2] W_212 3 rfl (by omega))
    clear hgA
    have hS := hS.alloc hS.size (.cells (flat [idN 2, idN 1, idN 2]).toArray 31)
    refine exec_step (exec_three (v := .slice (some ⟨gA, 0, none⟩) 3 3) (.tmp 17) (.tmp 18) (.tmp 19) (.agg (idCells (idN 2))) (.agg (idCells (idN 1))) (.agg (idCells (idN 2))) rfl rfl rfl rfl (by rw [HGA.out]; exact run_212 _)) ?_
    refine hK.out _ _ hS (fun hHeld => ?_)
    clear hK K
    simp only [Act.put, List.setIfInBounds_toArray, List.set_cons_zero, List.set_cons_succ]
    refine wpAnyH_ready (rs := [4, 7]) (by kernel_rfl) (by simp) ?_
    refine AllReadyH.cons (o := ⟨some 21, .call { callee := .value (.func 14), args := #[.tmp 20], argTypes := #[37] }, _, _, _, _⟩) rfl (fun K hK => ?_) (AllReadyH.cons (o := ⟨some 24, .buildSlice 37 2 #[(0, .tmp 22), (1, .tmp 23)], _, _, _, _⟩) rfl (fun K hK => ?_) AllReadyH.nil)
    · go_simp
      go_wp2_with (go_at_call 14; go_must (refine (set_is _ _ HA.out).mono ?_); rintro e x2 ⟨a1, c1, rfl, hids, hb1⟩; have hS := hS.trans (hb1.mono hS.size))
      refine hK.out _ _ hS (fun hHeld => ?_)
      clear hK K
      refine wpAnyH_ready (rs := [7]) (by kernel_rfl) (by simp) ?_
      refine AllReadyH.cons (o := ⟨some 24, .buildSlice 37 2 #[(0, .tmp 22), (1, .tmp 23)], _, _, _, _⟩) rfl (fun K hK => ?_) AllReadyH.nil
      obtain ⟨gB, hgB⟩ : ∃ g, g = (x2).heap.size := ⟨_, rfl⟩
      have HGB := Lib.hid hgB
      have HB := Lib.hid (show IdsAt (World.alloc (x2) (.cells (flat [idN 1, idN 2]).toArray 31)) (some ⟨gB, 0, none⟩) 2 2 [idN 1, idN 2] by rw [hgB]; exact ids_built _ [idN 1, idN 2] W_12 2 rfl (by omega))
      clear hgB
      have HR := Lib.hid (hids.below (Below.alloc (Below.refl _ x2) (Nat.le_refl _) (.cells (flat [idN 1, idN 2]).toArray 31)))
      have hS := hS.alloc hS.size (.cells (flat [idN 1, idN 2]).toArray 31)
      refine exec_step (exec_two (v := .slice (some ⟨gB, 0, none⟩) 2 2) (.tmp 22) (.tmp 23) (.agg (idCells (idN 1))) (.agg (idCells (idN 2))) rfl rfl rfl (by rw [HGB.out]; exact run_12 _)) ?_
      refine hK.out _ _ hS (fun hHeld => ?_)
      clear hK K
      simp only [Act.put, List.setIfInBounds_toArray, List.set_cons_zero, List.set_cons_succ]
      refine wpAnyH_ready (rs := [8]) (by kernel_rfl) (by simp) ?_
      refine AllReadyH.cons (o := ⟨some 25, .call { callee := .value (.func 13), args := #[.tmp 21, .tmp 24], argTypes := #[37, 37] }, _, _, _, _⟩) rfl (fun K hK => ?_) AllReadyH.nil
      go_simp
      go_wp2_with (go_at_call 13; go_must (refine (same_is _ _ _ _ _ HR.out HB.out).mono ?_); rintro e x2 ⟨rfl, hb⟩; have hS := hS.trans (hb.mono hS.size))
      refine hK.out _ _ hS (fun hHeld => ?_)
      clear hK K
      refine wpAnyH_take (i := 9) (oi := ⟨some 26, .move (.tmp 25), _, _, _, _⟩) (v := (.bool true)) rfl (by kernel_rfl) (by kernel_rfl) (by kernel_rfl) (fun _ _ _ h => h) (Or.inl ⟨by rfl, fun W hW => by go_simp⟩) (by assumption) ?_
      simp only [Act.put, List.setIfInBounds_toArray, List.set_cons_zero, List.set_cons_succ]
      refine wpAnyH_take (i := 10) (oi := ⟨some 27, .move (.tmp 4), _, _, _, _⟩) (v := (.int .i64 1)) rfl (by kernel_rfl) (by kernel_rfl) (by kernel_rfl) (fun _ _ _ h => h) (Or.inl ⟨by rfl, fun W hW => by go_simp⟩) (by assumption) ?_
      simp only [Act.put, List.setIfInBounds_toArray, List.set_cons_zero, List.set_cons_succ]
      refine wpAnyH_take (i := 11) (oi := ⟨some 28, .binOp .eql 3 (.tmp 27) (.const (.int .i64 1)) 3, _, _, _, _⟩) (v := (.bool true)) rfl (by kernel_rfl) (by kernel_rfl) (by kernel_rfl) (fun _ _ _ h => h) (Or.inl ⟨by rfl, fun W hW => by go_simp⟩) (by assumption) ?_
      simp only [Act.put, List.setIfInBounds_toArray, List.set_cons_zero, List.set_cons_succ]
      refine wpAnyH_take (i := 12) (oi := ⟨some 29, .pick (.tmp 26) (.tmp 28) (.const (.bool false)), _, _, _, _⟩) (v := (.bool true)) rfl (by kernel_rfl) (by kernel_rfl) (by kernel_rfl) (fun _ _ _ h => h) (Or.inl ⟨by rfl, fun W hW => by go_simp⟩) (by assumption) ?_
      simp only [Act.put, List.setIfInBounds_toArray, List.set_cons_zero, List.set_cons_succ]
      refine wpAnyH_take (i := 13) (oi := ⟨some 30, .move (.tmp 29), _, _, _, _⟩) (v := (.bool true)) rfl (by kernel_rfl) (by kernel_rfl) (by kernel_rfl) (fun _ _ _ h => h) (Or.inl ⟨by rfl, fun W hW => by go_simp⟩) (by assumption) ?_
      simp only [Act.put, List.setIfInBounds_toArray, List.set_cons_zero, List.set_cons_succ]
      refine wpAnyH_take (i := 14) (oi := ⟨some 31, .move (.tmp 5), _, _, _, _⟩) (v := (.bool false)) rfl (by kernel_rfl) (by kernel_rfl) (by kernel_rfl) (fun _ _ _ h => h) (Or.inl ⟨by rfl, fun W hW => by go_simp⟩) (by assumption) ?_
      simp only [Act.put, List.setIfInBounds_toArray, List.set_cons_zero, List.set_cons_succ]
      refine wpAnyH_take (i := 15) (oi := ⟨some 32, .unOp .not 4 (.tmp 31), _, _, _, _⟩) (v := (.bool true)) rfl (by kernel_rfl) (by kernel_rfl) (by kernel_rfl) (fun _ _ _ h => h) (Or.inl ⟨by rfl, fun W hW => by go_simp⟩) (by assumption) ?_
      simp only [Act.put, List.setIfInBounds_toArray, List.set_cons_zero, List.set_cons_succ]
      refine wpAnyH_take (i := 16) (oi := ⟨some 33, .pick (.tmp 30) (.tmp 32) (.const (.bool false)), _, _, _, _⟩) (v := (.bool true)) rfl (by kernel_rfl) (by kernel_rfl) (by kernel_rfl) (fun _ _ _ h => h) (Or.inl ⟨by rfl, fun W hW => by go_simp⟩) (by assumption) ?_
      simp only [Act.put, List.setIfInBounds_toArray, List.set_cons_zero, List.set_cons_succ]
      refine wpAnyH_take (i := 17) (oi := ⟨some 34, .move (.tmp 33), _, _, _, _⟩) (v := (.bool true)) rfl (by kernel_rfl) (by kernel_rfl) (by kernel_rfl) (fun _ _ _ h => h) (Or.inl ⟨by rfl, fun W hW => by go_simp⟩) (by assumption) ?_
      simp only [Act.put, List.setIfInBounds_toArray, List.set_cons_zero, List.set_cons_succ]
      refine wpAnyH_take (i := 18) (oi := ⟨some 35, .load 31 (.tmp 1), _, _, _, _⟩) (v := (.agg (idCells (idN 1)))) rfl (by kernel_rfl) (by kernel_rfl) (by kernel_rfl) (fun _ _ _ h => h) (yieldsIf_load_mid (by rfl) _ _ rfl _ _ rfl _ _ (fun W hW => (P1.out.below hW).range) hu rfl hi1) (by assumption) ?_
      simp only [Act.put, List.setIfInBounds_toArray, List.set_cons_zero, List.set_cons_succ]
      refine wpAnyH_take (i := 19) (oi := ⟨some 36, .load 31 (.tmp 2), _, _, _, _⟩) (v := (.agg (idCells (idN 2)))) rfl (by kernel_rfl) (by kernel_rfl) (by kernel_rfl) (fun _ _ _ h => h) (yieldsIf_load_mid (by rfl) _ _ rfl _ _ rfl _ _ (fun W hW => (P2.out.below hW).range) hu rfl hi2) (by assumption) ?_
      simp only [Act.put, List.setIfInBounds_toArray, List.set_cons_zero, List.set_cons_succ]
      refine wpAnyH_ready (rs := [20]) (by kernel_rfl) (by simp) ?_
      refine AllReadyH.cons (o := ⟨some 37, .call { callee := .value (.func 15), args := #[.tmp 35, .tmp 36], argTypes := #[31, 31] }, _, _, _, _⟩) rfl (fun K hK => ?_) AllReadyH.nil
      go_simp
      go_wp2_with (go_at_call 15; go_must (refine (cmp_is12 _).mono ?_); rintro e x2 ⟨rfl, hb⟩; have hS := hS.trans (hb.mono hS.size))
      refine hK.out _ _ hS (fun hHeld => ?_)
      clear hK K
      refine wpAnyH_take (i := 21) (oi := ⟨some 38, .binOp .eql 3 (.tmp 37) (.const (.int .i64 (-1))) 3, _, _, _, _⟩) (v := (.bool true)) rfl (by kernel_rfl) (by kernel_rfl) (by kernel_rfl) (fun _ _ _ h => h) (Or.inl ⟨by rfl, fun W hW => by go_simp⟩) (by assumption) ?_
      simp only [Act.put, List.setIfInBounds_toArray, List.set_cons_zero, List.set_cons_succ]
      refine wpAnyH_take (i := 22) (oi := ⟨some 39, .pick (.tmp 34) (.tmp 38) (.const (.bool false)), _, _, _, _⟩) (v := (.bool true)) rfl (by kernel_rfl) (by kernel_rfl) (by kernel_rfl) (fun _ _ _ h => h) (Or.inl ⟨by rfl, fun W hW => by go_simp⟩) (by assumption) ?_
      simp only [Act.put, List.setIfInBounds_toArray, List.set_cons_zero, List.set_cons_succ]
      refine wpAnyH_take (i := 23) (oi := ⟨some 40, .move (.tmp 39), _, _, _, _⟩) (v := (.bool true)) rfl (by kernel_rfl) (by kernel_rfl) (by kernel_rfl) (fun _ _ _ h => h) (Or.inl ⟨by rfl, fun W hW => by go_simp⟩) (by assumption) ?_
      simp only [Act.put, List.setIfInBounds_toArray, List.set_cons_zero, List.set_cons_succ]
      refine wpAnyH_take (i := 24) (oi := ⟨some 41, .build 33 #[(0, .const (.int .i64 2))], _, _, _, _⟩) (v := (.agg (keyC k2))) rfl (by kernel_rfl) (by kernel_rfl) (by kernel_rfl) (fun _ _ _ h => h) (Or.inl ⟨by rfl, fun W hW => exec_k2 rfl⟩) (by assumption) ?_
      simp only [Act.put, List.setIfInBounds_toArray, List.set_cons_zero, List.set_cons_succ]
      refine wpAnyH_take (i := 25) (oi := ⟨some 42, .build 33 #[(0, .const (.int .i64 1))], _, _, _, _⟩) (v := (.agg (keyC k1))) rfl (by kernel_rfl) (by kernel_rfl) (by kernel_rfl) (fun _ _ _ h => h) (Or.inl ⟨by rfl, fun W hW => exec_k1 rfl⟩) (by assumption) ?_
      simp only [Act.put, List.setIfInBounds_toArray, List.set_cons_zero, List.set_cons_succ]
      refine wpAnyH_ready (rs := [26]) (by kernel_rfl) (by simp) ?_
      refine AllReadyH.cons (o := ⟨some 43, .call { callee := .value (.func 10), args := #[.tmp 41, .tmp 42], argTypes := #[33, 33] }, _, _, _, _⟩) rfl (fun K hK => ?_) AllReadyH.nil
      go_simp
      go_wp2_with (go_at_call 10; go_must (refine (keys_is21 _).mono ?_); rintro e x2 ⟨rfl, hb⟩; have hS := hS.trans (hb.mono hS.size))
      refine hK.out _ _ hS (fun hHeld => ?_)
      clear hK K
      refine wpAnyH_take (i := 27) (oi := ⟨some 44, .binOp .eql 3 (.tmp 43) (.const (.int .i64 1)) 3, _, _, _, _⟩) (v := (.bool true)) rfl (by kernel_rfl) (by kernel_rfl) (by kernel_rfl) (fun _ _ _ h => h) (Or.inl ⟨by rfl, fun W hW => by go_simp⟩) (by assumption) ?_
      simp only [Act.put, List.setIfInBounds_toArray, List.set_cons_zero, List.set_cons_succ]
      refine wpAnyH_take (i := 28) (oi := ⟨some 45, .pick (.tmp 40) (.tmp 44) (.const (.bool false)), _, _, _, _⟩) (v := (.bool true)) rfl (by kernel_rfl) (by kernel_rfl) (by kernel_rfl) (fun _ _ _ h => h) (Or.inl ⟨by rfl, fun W hW => by go_simp⟩) (by assumption) ?_
      simp only [Act.put, List.setIfInBounds_toArray, List.set_cons_zero, List.set_cons_succ]
      refine wpAnyH_take (i := 29) (oi := ⟨some 0, .assign (.tmp 45), _, _, _, _⟩) (v := (.bool true)) rfl (by kernel_rfl) (by kernel_rfl) (by kernel_rfl) (fun _ _ _ h => h) (Or.inl ⟨by rfl, fun W hW => by go_simp⟩) (by assumption) ?_
      simp only [Act.put, List.setIfInBounds_toArray, List.set_cons_zero]
      refine wpAnyH_done (by kernel_rfl) ?_ _
      go_wp2
      go_ret
      exact ⟨rfl, HBW.out.trans (hS.mono HBW.out.size)⟩
    · obtain ⟨gB, hgB⟩ : ∃ g, g = ((w4.drew.alloc (.cells (flat [idN 2, idN 1, idN 2]).toArray 31))).heap.size := ⟨_, rfl⟩
      have HGB := Lib.hid hgB
      have HB := Lib.hid (show IdsAt (World.alloc ((w4.drew.alloc (.cells (flat [idN 2, idN 1, idN 2]).toArray 31))) (.cells (flat [idN 1, idN 2]).toArray 31)) (some ⟨gB, 0, none⟩) 2 2 [idN 1, idN 2] by rw [hgB]; exact ids_built _ [idN 1, idN 2] W_12 2 rfl (by omega))
      clear hgB
      have HA := Lib.hid (HA.out.below (Below.alloc (Below.refl _ (w4.drew.alloc (.cells (flat [idN 2, idN 1, idN 2]).toArray 31))) (Nat.le_refl _) (.cells (flat [idN 1, idN 2]).toArray 31)))
      have hS := hS.alloc hS.size (.cells (flat [idN 1, idN 2]).toArray 31)
      refine exec_step (exec_two (v := .slice (some ⟨gB, 0, none⟩) 2 2) (.tmp 22) (.tmp 23) (.agg (idCells (idN 1))) (.agg (idCells (idN 2))) rfl rfl rfl (by rw [HGB.out]; exact run_12 _)) ?_
      refine hK.out _ _ hS (fun hHeld => ?_)
      clear hK K
      simp only [Act.put, List.setIfInBounds_toArray, List.set_cons_zero, List.set_cons_succ]
      refine wpAnyH_ready (rs := [4]) (by kernel_rfl) (by simp) ?_
      refine AllReadyH.cons (o := ⟨some 21, .call { callee := .value (.func 14), args := #[.tmp 20], argTypes := #[37] }, _, _, _, _⟩) rfl (fun K hK => ?_) AllReadyH.nil
      go_simp
      go_wp2_with (go_at_call 14; go_must (refine (set_is _ _ HA.out).mono ?_); rintro e x2 ⟨a1, c1, rfl, hids, hb1⟩; have hS := hS.trans (hb1.mono hS.size))
      refine hK.out _ _ hS (fun hHeld => ?_)
      clear hK K
      have HB := Lib.hid (HB.out.below hb1)
      have HR := Lib.hid hids
      refine wpAnyH_ready (rs := [8]) (by kernel_rfl) (by simp) ?_
      refine AllReadyH.cons (o := ⟨some 25, .call { callee := .value (.func 13), args := #[.tmp 21, .tmp 24], argTypes := #[37, 37] }, _, _, _, _⟩) rfl (fun K hK => ?_) AllReadyH.nil
      go_simp
      go_wp2_with (go_at_call 13; go_must (refine (same_is _ _ _ _ _ HR.out HB.out).mono ?_); rintro e x2 ⟨rfl, hb⟩; have hS := hS.trans (hb.mono hS.size))
      refine hK.out _ _ hS (fun hHeld => ?_)
      clear hK K
      refine wpAnyH_take (i := 9) (oi := ⟨some 26, .move (.tmp 25), _, _, _, _⟩) (v := (.bool true)) rfl (by kernel_rfl) (by kernel_rfl) (by kernel_rfl) (fun _ _ _ h => h) (Or.inl ⟨by rfl, fun W hW => by go_simp⟩) (by assumption) ?_
      simp only [Act.put, List.setIfInBounds_toArray, List.set_cons_zero, List.set_cons_succ]
      refine wpAnyH_take (i := 10) (oi := ⟨some 27, .move (.tmp 4), _, _, _, _⟩) (v := (.int .i64 1)) rfl (by kernel_rfl) (by kernel_rfl) (by kernel_rfl) (fun _ _ _ h => h) (Or.inl ⟨by rfl, fun W hW => by go_simp⟩) (by assumption) ?_
      simp only [Act.put, List.setIfInBounds_toArray, List.set_cons_zero, List.set_cons_succ]
      refine wpAnyH_take (i := 11) (oi := ⟨some 28, .binOp .eql 3 (.tmp 27) (.const (.int .i64 1)) 3, _, _, _, _⟩) (v := (.bool true)) rfl (by kernel_rfl) (by kernel_rfl) (by kernel_rfl) (fun _ _ _ h => h) (Or.inl ⟨by rfl, fun W hW => by go_simp⟩) (by assumption) ?_
      simp only [Act.put, List.setIfInBounds_toArray, List.set_cons_zero, List.set_cons_succ]
      refine wpAnyH_take (i := 12) (oi := ⟨some 29, .pick (.tmp 26) (.tmp 28) (.const (.bool false)), _, _, _, _⟩) (v := (.bool true)) rfl (by kernel_rfl) (by kernel_rfl) (by kernel_rfl) (fun _ _ _ h => h) (Or.inl ⟨by rfl, fun W hW => by go_simp⟩) (by assumption) ?_
      simp only [Act.put, List.setIfInBounds_toArray, List.set_cons_zero, List.set_cons_succ]
      refine wpAnyH_take (i := 13) (oi := ⟨some 30, .move (.tmp 29), _, _, _, _⟩) (v := (.bool true)) rfl (by kernel_rfl) (by kernel_rfl) (by kernel_rfl) (fun _ _ _ h => h) (Or.inl ⟨by rfl, fun W hW => by go_simp⟩) (by assumption) ?_
      simp only [Act.put, List.setIfInBounds_toArray, List.set_cons_zero, List.set_cons_succ]
      refine wpAnyH_take (i := 14) (oi := ⟨some 31, .move (.tmp 5), _, _, _, _⟩) (v := (.bool false)) rfl (by kernel_rfl) (by kernel_rfl) (by kernel_rfl) (fun _ _ _ h => h) (Or.inl ⟨by rfl, fun W hW => by go_simp⟩) (by assumption) ?_
      simp only [Act.put, List.setIfInBounds_toArray, List.set_cons_zero, List.set_cons_succ]
      refine wpAnyH_take (i := 15) (oi := ⟨some 32, .unOp .not 4 (.tmp 31), _, _, _, _⟩) (v := (.bool true)) rfl (by kernel_rfl) (by kernel_rfl) (by kernel_rfl) (fun _ _ _ h => h) (Or.inl ⟨by rfl, fun W hW => by go_simp⟩) (by assumption) ?_
      simp only [Act.put, List.setIfInBounds_toArray, List.set_cons_zero, List.set_cons_succ]
      refine wpAnyH_take (i := 16) (oi := ⟨some 33, .pick (.tmp 30) (.tmp 32) (.const (.bool false)), _, _, _, _⟩) (v := (.bool true)) rfl (by kernel_rfl) (by kernel_rfl) (by kernel_rfl) (fun _ _ _ h => h) (Or.inl ⟨by rfl, fun W hW => by go_simp⟩) (by assumption) ?_
      simp only [Act.put, List.setIfInBounds_toArray, List.set_cons_zero, List.set_cons_succ]
      refine wpAnyH_take (i := 17) (oi := ⟨some 34, .move (.tmp 33), _, _, _, _⟩) (v := (.bool true)) rfl (by kernel_rfl) (by kernel_rfl) (by kernel_rfl) (fun _ _ _ h => h) (Or.inl ⟨by rfl, fun W hW => by go_simp⟩) (by assumption) ?_
      simp only [Act.put, List.setIfInBounds_toArray, List.set_cons_zero, List.set_cons_succ]
      refine wpAnyH_take (i := 18) (oi := ⟨some 35, .load 31 (.tmp 1), _, _, _, _⟩) (v := (.agg (idCells (idN 1)))) rfl (by kernel_rfl) (by kernel_rfl) (by kernel_rfl) (fun _ _ _ h => h) (yieldsIf_load_mid (by rfl) _ _ rfl _ _ rfl _ _ (fun W hW => (P1.out.below hW).range) hu rfl hi1) (by assumption) ?_
      simp only [Act.put, List.setIfInBounds_toArray, List.set_cons_zero, List.set_cons_succ]
      refine wpAnyH_take (i := 19) (oi := ⟨some 36, .load 31 (.tmp 2), _, _, _, _⟩) (v := (.agg (idCells (idN 2)))) rfl (by kernel_rfl) (by kernel_rfl) (by kernel_rfl) (fun _ _ _ h => h) (yieldsIf_load_mid (by rfl) _ _ rfl _ _ rfl _ _ (fun W hW => (P2.out.below hW).range) hu rfl hi2) (by assumption) ?_
      simp only [Act.put, List.setIfInBounds_toArray, List.set_cons_zero, List.set_cons_succ]
      refine wpAnyH_ready (rs := [20]) (by kernel_rfl) (by simp) ?_
      refine AllReadyH.cons (o := ⟨some 37, .call { callee := .value (.func 15), args := #[.tmp 35, .tmp 36], argTypes := #[31, 31] }, _, _, _, _⟩) rfl (fun K hK => ?_) AllReadyH.nil
      go_simp
      go_wp2_with (go_at_call 15; go_must (refine (cmp_is12 _).mono ?_); rintro e x2 ⟨rfl, hb⟩; have hS := hS.trans (hb.mono hS.size))
      refine hK.out _ _ hS (fun hHeld => ?_)
      clear hK K
      refine wpAnyH_take (i := 21) (oi := ⟨some 38, .binOp .eql 3 (.tmp 37) (.const (.int .i64 (-1))) 3, _, _, _, _⟩) (v := (.bool true)) rfl (by kernel_rfl) (by kernel_rfl) (by kernel_rfl) (fun _ _ _ h => h) (Or.inl ⟨by rfl, fun W hW => by go_simp⟩) (by assumption) ?_
      simp only [Act.put, List.setIfInBounds_toArray, List.set_cons_zero, List.set_cons_succ]
      refine wpAnyH_take (i := 22) (oi := ⟨some 39, .pick (.tmp 34) (.tmp 38) (.const (.bool false)), _, _, _, _⟩) (v := (.bool true)) rfl (by kernel_rfl) (by kernel_rfl) (by kernel_rfl) (fun _ _ _ h => h) (Or.inl ⟨by rfl, fun W hW => by go_simp⟩) (by assumption) ?_
      simp only [Act.put, List.setIfInBounds_toArray, List.set_cons_zero, List.set_cons_succ]
      refine wpAnyH_take (i := 23) (oi := ⟨some 40, .move (.tmp 39), _, _, _, _⟩) (v := (.bool true)) rfl (by kernel_rfl) (by kernel_rfl) (by kernel_rfl) (fun _ _ _ h => h) (Or.inl ⟨by rfl, fun W hW => by go_simp⟩) (by assumption) ?_
      simp only [Act.put, List.setIfInBounds_toArray, List.set_cons_zero, List.set_cons_succ]
      refine wpAnyH_take (i := 24) (oi := ⟨some 41, .build 33 #[(0, .const (.int .i64 2))], _, _, _, _⟩) (v := (.agg (keyC k2))) rfl (by kernel_rfl) (by kernel_rfl) (by kernel_rfl) (fun _ _ _ h => h) (Or.inl ⟨by rfl, fun W hW => exec_k2 rfl⟩) (by assumption) ?_
      simp only [Act.put, List.setIfInBounds_toArray, List.set_cons_zero, List.set_cons_succ]
      refine wpAnyH_take (i := 25) (oi := ⟨some 42, .build 33 #[(0, .const (.int .i64 1))], _, _, _, _⟩) (v := (.agg (keyC k1))) rfl (by kernel_rfl) (by kernel_rfl) (by kernel_rfl) (fun _ _ _ h => h) (Or.inl ⟨by rfl, fun W hW => exec_k1 rfl⟩) (by assumption) ?_
      simp only [Act.put, List.setIfInBounds_toArray, List.set_cons_zero, List.set_cons_succ]
      refine wpAnyH_ready (rs := [26]) (by kernel_rfl) (by simp) ?_
      refine AllReadyH.cons (o := ⟨some 43, .call { callee := .value (.func 10), args := #[.tmp 41, .tmp 42], argTypes := #[33, 33] }, _, _, _, _⟩) rfl (fun K hK => ?_) AllReadyH.nil
      go_simp
      go_wp2_with (go_at_call 10; go_must (refine (keys_is21 _).mono ?_); rintro e x2 ⟨rfl, hb⟩; have hS := hS.trans (hb.mono hS.size))
      refine hK.out _ _ hS (fun hHeld => ?_)
      clear hK K
      refine wpAnyH_take (i := 27) (oi := ⟨some 44, .binOp .eql 3 (.tmp 43) (.const (.int .i64 1)) 3, _, _, _, _⟩) (v := (.bool true)) rfl (by kernel_rfl) (by kernel_rfl) (by kernel_rfl) (fun _ _ _ h => h) (Or.inl ⟨by rfl, fun W hW => by go_simp⟩) (by assumption) ?_
      simp only [Act.put, List.setIfInBounds_toArray, List.set_cons_zero, List.set_cons_succ]
      refine wpAnyH_take (i := 28) (oi := ⟨some 45, .pick (.tmp 40) (.tmp 44) (.const (.bool false)), _, _, _, _⟩) (v := (.bool true)) rfl (by kernel_rfl) (by kernel_rfl) (by kernel_rfl) (fun _ _ _ h => h) (Or.inl ⟨by rfl, fun W hW => by go_simp⟩) (by assumption) ?_
      simp only [Act.put, List.setIfInBounds_toArray, List.set_cons_zero, List.set_cons_succ]
      refine wpAnyH_take (i := 29) (oi := ⟨some 0, .assign (.tmp 45), _, _, _, _⟩) (v := (.bool true)) rfl (by kernel_rfl) (by kernel_rfl) (by kernel_rfl) (fun _ _ _ h => h) (Or.inl ⟨by rfl, fun W hW => by go_simp⟩) (by assumption) ?_
      simp only [Act.put, List.setIfInBounds_toArray, List.set_cons_zero]
      refine wpAnyH_done (by kernel_rfl) ?_ _
      go_wp2
      go_ret
      exact ⟨rfl, HBW.out.trans (hS.mono HBW.out.size)⟩
  · obtain ⟨gB, hgB⟩ : ∃ g, g = (w4.drew).heap.size := ⟨_, rfl⟩
    have HGB := Lib.hid hgB
    have HB := Lib.hid (show IdsAt (World.alloc (w4.drew) (.cells (flat [idN 1, idN 2]).toArray 31)) (some ⟨gB, 0, none⟩) 2 2 [idN 1, idN 2] by rw [hgB]; exact ids_built _ [idN 1, idN 2] W_12 2 rfl (by omega))
    clear hgB
    have hS := hS.alloc hS.size (.cells (flat [idN 1, idN 2]).toArray 31)
    refine exec_step (exec_two (v := .slice (some ⟨gB, 0, none⟩) 2 2) (.tmp 22) (.tmp 23) (.agg (idCells (idN 1))) (.agg (idCells (idN 2))) rfl rfl rfl (by rw [HGB.out]; exact run_12 _)) ?_
    refine hK.out _ _ hS (fun hHeld => ?_)
    clear hK K
    simp only [Act.put, List.setIfInBounds_toArray, List.set_cons_zero, List.set_cons_succ]
    refine wpAnyH_ready (rs := [3]) (by kernel_rfl) (by simp) ?_
    refine AllReadyH.cons (o := ⟨some 20, .buildSlice 37 3 #[(0, .tmp 17), (1, .tmp 18), (2, .tmp 19)], _, _, _, _⟩) rfl (fun K hK => ?_) AllReadyH.nil
    obtain ⟨gA, hgA⟩ : ∃ g, g = ((w4.drew.alloc (.cells (flat [idN 1, idN 2]).toArray 31))).heap.size := ⟨_, rfl⟩
    have HGA := Lib.hid hgA
    have HA := Lib.hid (show IdsAt (World.alloc ((w4.drew.alloc (.cells (flat [idN 1, idN 2]).toArray 31))) (.cells (flat [idN 2, idN 1, idN 2]).toArray 31)) (some ⟨gA, 0, none⟩) 3 3 [idN 2, idN 1, idN 2] by rw [hgA]; exact ids_built _ [idN 2, idN 1, idN 2] W_212 3 rfl (by omega))
    clear hgA
    have HB := Lib.hid (HB.out.below (Below.alloc (Below.refl _ (w4.drew.alloc (.cells (flat [idN 1, idN 2]).toArray 31))) (Nat.le_refl _) (.cells (flat [idN 2, idN 1, idN 2]).toArray 31)))
    have hS := hS.alloc hS.size (.cells (flat [idN 2, idN 1, idN 2]).toArray 31)
    refine exec_step (exec_three (v := .slice (some ⟨gA, 0, none⟩) 3 3) (.tmp 17) (.tmp 18) (.tmp 19) (.agg (idCells (idN 2))) (.agg (idCells (idN 1))) (.agg (idCells (idN 2))) rfl rfl rfl rfl (by rw [HGA.out]; exact run_212 _)) ?_
    refine hK.out _ _ hS (fun hHeld => ?_)
    clear hK K
    simp only [Act.put, List.setIfInBounds_toArray, List.set_cons_zero, List.set_cons_succ]
    refine wpAnyH_ready (rs := [4]) (by kernel_rfl) (by simp) ?_
    refine AllReadyH.cons (o := ⟨some 21, .call { callee := .value (.func 14), args := #[.tmp 20], argTypes := #[37] }, _, _, _, _⟩) rfl (fun K hK => ?_) AllReadyH.nil
    go_simp
    go_wp2_with (go_at_call 14; go_must (refine (set_is _ _ HA.out).mono ?_); rintro e x2 ⟨a1, c1, rfl, hids, hb1⟩; have hS := hS.trans (hb1.mono hS.size))
    refine hK.out _ _ hS (fun hHeld => ?_)
    clear hK K
    have HB := Lib.hid (HB.out.below hb1)
    have HR := Lib.hid hids
    refine wpAnyH_ready (rs := [8]) (by kernel_rfl) (by simp) ?_
    refine AllReadyH.cons (o := ⟨some 25, .call { callee := .value (.func 13), args := #[.tmp 21, .tmp 24], argTypes := #[37, 37] }, _, _, _, _⟩) rfl (fun K hK => ?_) AllReadyH.nil
    go_simp
    go_wp2_with (go_at_call 13; go_must (refine (same_is _ _ _ _ _ HR.out HB.out).mono ?_); rintro e x2 ⟨rfl, hb⟩; have hS := hS.trans (hb.mono hS.size))
    refine hK.out _ _ hS (fun hHeld => ?_)
    clear hK K
    refine wpAnyH_take (i := 9) (oi := ⟨some 26, .move (.tmp 25), _, _, _, _⟩) (v := (.bool true)) rfl (by kernel_rfl) (by kernel_rfl) (by kernel_rfl) (fun _ _ _ h => h) (Or.inl ⟨by rfl, fun W hW => by go_simp⟩) (by assumption) ?_
    simp only [Act.put, List.setIfInBounds_toArray, List.set_cons_zero, List.set_cons_succ]
    refine wpAnyH_take (i := 10) (oi := ⟨some 27, .move (.tmp 4), _, _, _, _⟩) (v := (.int .i64 1)) rfl (by kernel_rfl) (by kernel_rfl) (by kernel_rfl) (fun _ _ _ h => h) (Or.inl ⟨by rfl, fun W hW => by go_simp⟩) (by assumption) ?_
    simp only [Act.put, List.setIfInBounds_toArray, List.set_cons_zero, List.set_cons_succ]
    refine wpAnyH_take (i := 11) (oi := ⟨some 28, .binOp .eql 3 (.tmp 27) (.const (.int .i64 1)) 3, _, _, _, _⟩) (v := (.bool true)) rfl (by kernel_rfl) (by kernel_rfl) (by kernel_rfl) (fun _ _ _ h => h) (Or.inl ⟨by rfl, fun W hW => by go_simp⟩) (by assumption) ?_
    simp only [Act.put, List.setIfInBounds_toArray, List.set_cons_zero, List.set_cons_succ]
    refine wpAnyH_take (i := 12) (oi := ⟨some 29, .pick (.tmp 26) (.tmp 28) (.const (.bool false)), _, _, _, _⟩) (v := (.bool true)) rfl (by kernel_rfl) (by kernel_rfl) (by kernel_rfl) (fun _ _ _ h => h) (Or.inl ⟨by rfl, fun W hW => by go_simp⟩) (by assumption) ?_
    simp only [Act.put, List.setIfInBounds_toArray, List.set_cons_zero, List.set_cons_succ]
    refine wpAnyH_take (i := 13) (oi := ⟨some 30, .move (.tmp 29), _, _, _, _⟩) (v := (.bool true)) rfl (by kernel_rfl) (by kernel_rfl) (by kernel_rfl) (fun _ _ _ h => h) (Or.inl ⟨by rfl, fun W hW => by go_simp⟩) (by assumption) ?_
    simp only [Act.put, List.setIfInBounds_toArray, List.set_cons_zero, List.set_cons_succ]
    refine wpAnyH_take (i := 14) (oi := ⟨some 31, .move (.tmp 5), _, _, _, _⟩) (v := (.bool false)) rfl (by kernel_rfl) (by kernel_rfl) (by kernel_rfl) (fun _ _ _ h => h) (Or.inl ⟨by rfl, fun W hW => by go_simp⟩) (by assumption) ?_
    simp only [Act.put, List.setIfInBounds_toArray, List.set_cons_zero, List.set_cons_succ]
    refine wpAnyH_take (i := 15) (oi := ⟨some 32, .unOp .not 4 (.tmp 31), _, _, _, _⟩) (v := (.bool true)) rfl (by kernel_rfl) (by kernel_rfl) (by kernel_rfl) (fun _ _ _ h => h) (Or.inl ⟨by rfl, fun W hW => by go_simp⟩) (by assumption) ?_
    simp only [Act.put, List.setIfInBounds_toArray, List.set_cons_zero, List.set_cons_succ]
    refine wpAnyH_take (i := 16) (oi := ⟨some 33, .pick (.tmp 30) (.tmp 32) (.const (.bool false)), _, _, _, _⟩) (v := (.bool true)) rfl (by kernel_rfl) (by kernel_rfl) (by kernel_rfl) (fun _ _ _ h => h) (Or.inl ⟨by rfl, fun W hW => by go_simp⟩) (by assumption) ?_
    simp only [Act.put, List.setIfInBounds_toArray, List.set_cons_zero, List.set_cons_succ]
    refine wpAnyH_take (i := 17) (oi := ⟨some 34, .move (.tmp 33), _, _, _, _⟩) (v := (.bool true)) rfl (by kernel_rfl) (by kernel_rfl) (by kernel_rfl) (fun _ _ _ h => h) (Or.inl ⟨by rfl, fun W hW => by go_simp⟩) (by assumption) ?_
    simp only [Act.put, List.setIfInBounds_toArray, List.set_cons_zero, List.set_cons_succ]
    refine wpAnyH_take (i := 18) (oi := ⟨some 35, .load 31 (.tmp 1), _, _, _, _⟩) (v := (.agg (idCells (idN 1)))) rfl (by kernel_rfl) (by kernel_rfl) (by kernel_rfl) (fun _ _ _ h => h) (yieldsIf_load_mid (by rfl) _ _ rfl _ _ rfl _ _ (fun W hW => (P1.out.below hW).range) hu rfl hi1) (by assumption) ?_
    simp only [Act.put, List.setIfInBounds_toArray, List.set_cons_zero, List.set_cons_succ]
    refine wpAnyH_take (i := 19) (oi := ⟨some 36, .load 31 (.tmp 2), _, _, _, _⟩) (v := (.agg (idCells (idN 2)))) rfl (by kernel_rfl) (by kernel_rfl) (by kernel_rfl) (fun _ _ _ h => h) (yieldsIf_load_mid (by rfl) _ _ rfl _ _ rfl _ _ (fun W hW => (P2.out.below hW).range) hu rfl hi2) (by assumption) ?_
    simp only [Act.put, List.setIfInBounds_toArray, List.set_cons_zero, List.set_cons_succ]
    refine wpAnyH_ready (rs := [20]) (by kernel_rfl) (by simp) ?_
    refine AllReadyH.cons (o := ⟨some 37, .call { callee := .value (.func 15), args := #[.tmp 35, .tmp 36], argTypes := #[31, 31] }, _, _, _, _⟩) rfl (fun K hK => ?_) AllReadyH.nil
    go_simp
    go_wp2_with (go_at_call 15; go_must (refine (cmp_is12 _).mono ?_); rintro e x2 ⟨rfl, hb⟩; have hS := hS.trans (hb.mono hS.size))
    refine hK.out _ _ hS (fun hHeld => ?_)
    clear hK K
    refine wpAnyH_take (i := 21) (oi := ⟨some 38, .binOp .eql 3 (.tmp 37) (.const (.int .i64 (-1))) 3, _, _, _, _⟩) (v := (.bool true)) rfl (by kernel_rfl) (by kernel_rfl) (by kernel_rfl) (fun _ _ _ h => h) (Or.inl ⟨by rfl, fun W hW => by go_simp⟩) (by assumption) ?_
    simp only [Act.put, List.setIfInBounds_toArray, List.set_cons_zero, List.set_cons_succ]
    refine wpAnyH_take (i := 22) (oi := ⟨some 39, .pick (.tmp 34) (.tmp 38) (.const (.bool false)), _, _, _, _⟩) (v := (.bool true)) rfl (by kernel_rfl) (by kernel_rfl) (by kernel_rfl) (fun _ _ _ h => h) (Or.inl ⟨by rfl, fun W hW => by go_simp⟩) (by assumption) ?_
    simp only [Act.put, List.setIfInBounds_toArray, List.set_cons_zero, List.set_cons_succ]
    refine wpAnyH_take (i := 23) (oi := ⟨some 40, .move (.tmp 39), _, _, _, _⟩) (v := (.bool true)) rfl (by kernel_rfl) (by kernel_rfl) (by kernel_rfl) (fun _ _ _ h => h) (Or.inl ⟨by rfl, fun W hW => by go_simp⟩) (by assumption) ?_
    simp only [Act.put, List.setIfInBounds_toArray, List.set_cons_zero, List.set_cons_succ]
    refine wpAnyH_take (i := 24) (oi := ⟨some 41, .build 33 #[(0, .const (.int .i64 2))], _, _, _, _⟩) (v := (.agg (keyC k2))) rfl (by kernel_rfl) (by kernel_rfl) (by kernel_rfl) (fun _ _ _ h => h) (Or.inl ⟨by rfl, fun W hW => exec_k2 rfl⟩) (by assumption) ?_
    simp only [Act.put, List.setIfInBounds_toArray, List.set_cons_zero, List.set_cons_succ]
    refine wpAnyH_take (i := 25) (oi := ⟨some 42, .build 33 #[(0, .const (.int .i64 1))], _, _, _, _⟩) (v := (.agg (keyC k1))) rfl (by kernel_rfl) (by kernel_rfl) (by kernel_rfl) (fun _ _ _ h => h) (Or.inl ⟨by rfl, fun W hW => exec_k1 rfl⟩) (by assumption) ?_
    simp only [Act.put, List.setIfInBounds_toArray, List.set_cons_zero, List.set_cons_succ]
    refine wpAnyH_ready (rs := [26]) (by kernel_rfl) (by simp) ?_
    refine AllReadyH.cons (o := ⟨some 43, .call { callee := .value (.func 10), args := #[.tmp 41, .tmp 42], argTypes := #[33, 33] }, _, _, _, _⟩) rfl (fun K hK => ?_) AllReadyH.nil
    go_simp
    go_wp2_with (go_at_call 10; go_must (refine (keys_is21 _).mono ?_); rintro e x2 ⟨rfl, hb⟩; have hS := hS.trans (hb.mono hS.size))
    refine hK.out _ _ hS (fun hHeld => ?_)
    clear hK K
    refine wpAnyH_take (i := 27) (oi := ⟨some 44, .binOp .eql 3 (.tmp 43) (.const (.int .i64 1)) 3, _, _, _, _⟩) (v := (.bool true)) rfl (by kernel_rfl) (by kernel_rfl) (by kernel_rfl) (fun _ _ _ h => h) (Or.inl ⟨by rfl, fun W hW => by go_simp⟩) (by assumption) ?_
    simp only [Act.put, List.setIfInBounds_toArray, List.set_cons_zero, List.set_cons_succ]
    refine wpAnyH_take (i := 28) (oi := ⟨some 45, .pick (.tmp 40) (.tmp 44) (.const (.bool false)), _, _, _, _⟩) (v := (.bool true)) rfl (by kernel_rfl) (by kernel_rfl) (by kernel_rfl) (fun _ _ _ h => h) (Or.inl ⟨by rfl, fun W hW => by go_simp⟩) (by assumption) ?_
    simp only [Act.put, List.setIfInBounds_toArray, List.set_cons_zero, List.set_cons_succ]
    refine wpAnyH_take (i := 29) (oi := ⟨some 0, .assign (.tmp 45), _, _, _, _⟩) (v := (.bool true)) rfl (by kernel_rfl) (by kernel_rfl) (by kernel_rfl) (fun _ _ _ h => h) (Or.inl ⟨by rfl, fun W hW => by go_simp⟩) (by assumption) ?_
    simp only [Act.put, List.setIfInBounds_toArray, List.set_cons_zero]
    refine wpAnyH_done (by kernel_rfl) ?_ _
    go_wp2
    go_ret
    exact ⟨rfl, HBW.out.trans (hS.mono HBW.out.size)⟩
#print axioms awake_any
end Go.Proofs.Ytglgjhmcdkooiaa
