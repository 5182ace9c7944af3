/-
  The walk of the law OrderCompares.
-/
import Derived.Test.YtiakbbokmllcdaaOrdAwake
namespace Go.Proofs.Ytiakbbokmllcdaa
open Go.RowKit

theorem KeyAt.whole {w : World} {g : Nat} {k : KeyV} (h : KeyAt w g k) : w.rangeAt g 0 (keyL k) := fun j v hj => by
  rw [Nat.zero_add, cell_of_row w g j (keyC k) 25 (0, 0) h.2]
  simpa [keyC] using hj
theorem keys_is (a b : KeyV) (z : Int) (w : World) (ha : a.c.length = 32) (hb : b.c.length = 32) (hz : z = keyF a b) : Calls Try.prog 13 #[.agg (keyC a), .agg (keyC b)] w fun e w' => e = .returned (.int .i64 z) ∧ Below w.heap.size w w' := by
  subst hz; exact keys_any a b w ha hb
theorem refKeys_is (a b : KeyV) (z : Int) (w : World) (ha : a.c.length = 32) (hb : b.c.length = 32) (hz : z = keyF a b) : Calls Try.prog 14 #[.agg (keyC a), .agg (keyC b)] w fun e w' => e = .returned (.int .i64 z) ∧ Below w.heap.size w w' := by
  subst hz; exact refKeys_any a b w ha hb

set_option maxRecDepth 100000 in
set_option maxHeartbeats 2000000 in
theorem compares_any (a b : KeyV) (w : World) (ha : a.c.length = 32) (hb : b.c.length = 32) :
    Calls Try.prog 3 #[.agg (keyC a), .agg (keyC b)] w fun e w' => e = .returned (.bool true) ∧ Below w.heap.size w w' := by
  obtain ⟨hA, hB⟩ := two_keys w a b ha hb
  have hbel : Below w.heap.size w ((w.alloc (.cells (keyC a) 25)).alloc (.cells (keyC b) 25)) := ((Below.refl _ _).alloc (Nat.le_refl _) _).alloc (by simp) _
  have HA := Lib.hid hA
  have HB := Lib.hid hB
  have HAC := Lib.hid ha
  have HBC := Lib.hid hb
  have HBL := Lib.hid hbel
  obtain ⟨z, u, hz⟩ : ∃ z u : Int, z = cmpF a.c b.c ∧ u = keyF a b := ⟨_, _, rfl, rfl⟩
  have HZ := Lib.hid hz
  have hu := Try.underlying23
  have huK := Try.underlying25
  have hi1 : (Try.prog.info? 23).map (·.size) = some (a.c.map B).length := by rw [List.length_map, ha]; exact info_id
  have hi2 : (Try.prog.info? 23).map (·.size) = some (b.c.map B).length := by rw [List.length_map, hb]; exact info_id
  have hk1 : (Try.prog.info? 25).map (·.size) = some (keyL a).length := by rw [keyL_length ha]; kernel_rfl
  have hk2 : (Try.prog.info? 25).map (·.size) = some (keyL b).length := by rw [keyL_length hb]; kernel_rfl
  clear hA hB ha hb hbel hz
  go_enter Try.func3, Try.ntmps3
  go_wp2
  generalize (w.alloc (.cells (keyC a) 25)).alloc (.cells (keyC b) 25) = W0 at HA HB HBL ⊢
  have hS : Below W0.heap.size W0 W0.drew := (Below.refl _ _).drew
  refine wp_region_held_drew (S := fun W => Below W0.heap.size W0 W) (by kernel_rfl) hS (fun hHeld => ?_)
  refine wpAnyH_take (i := 0) (oi := ⟨some 5, .fieldAddr 25 (.tmp 2) 1, _, _, _, _⟩) (v := (.pointer (some ⟨w.heap.size, 1, none⟩))) rfl (by kernel_rfl) (by kernel_rfl) (by kernel_rfl) (fun _ _ _ h => h) (Or.inl ⟨by rfl, fun W hW => by go_simp⟩) (by assumption) ?_
  simp only [Act.put, List.setIfInBounds_toArray, List.set_cons_zero, List.set_cons_succ]
  refine wpAnyH_take (i := 1) (oi := ⟨some 6, .load 23 (.tmp 5), _, _, _, _⟩) (v := _) rfl (by kernel_rfl) (by kernel_rfl) (by kernel_rfl) (fun _ _ _ h => h) (yieldsIf_load_mid (by rfl) _ _ rfl _ _ rfl _ _ (fun W hW => (HA.out.below hW).change) hu rfl hi1) (by assumption) ?_
  simp only [Act.put, List.setIfInBounds_toArray, List.set_cons_zero, List.set_cons_succ]
  refine wpAnyH_take (i := 2) (oi := ⟨some 7, .fieldAddr 25 (.tmp 3) 1, _, _, _, _⟩) (v := (.pointer (some ⟨(w.heap.size + 1), 1, none⟩))) rfl (by kernel_rfl) (by kernel_rfl) (by kernel_rfl) (fun _ _ _ h => h) (Or.inl ⟨by rfl, fun W hW => by go_simp⟩) (by assumption) ?_
  simp only [Act.put, List.setIfInBounds_toArray, List.set_cons_zero, List.set_cons_succ]
  refine wpAnyH_take (i := 3) (oi := ⟨some 8, .load 23 (.tmp 7), _, _, _, _⟩) (v := _) rfl (by kernel_rfl) (by kernel_rfl) (by kernel_rfl) (fun _ _ _ h => h) (yieldsIf_load_mid (by rfl) _ _ rfl _ _ rfl _ _ (fun W hW => (HB.out.below hW).change) hu rfl hi2) (by assumption) ?_
  simp only [Act.put, List.setIfInBounds_toArray, List.set_cons_zero, List.set_cons_succ]
  refine wpAnyH_take (i := 5) (oi := ⟨some 10, .fieldAddr 25 (.tmp 2) 1, _, _, _, _⟩) (v := (.pointer (some ⟨w.heap.size, 1, none⟩))) rfl (by kernel_rfl) (by kernel_rfl) (by kernel_rfl) (fun _ _ _ h => h) (Or.inl ⟨by rfl, fun W hW => by go_simp⟩) (by assumption) ?_
  simp only [Act.put, List.setIfInBounds_toArray, List.set_cons_zero, List.set_cons_succ]
  refine wpAnyH_take (i := 6) (oi := ⟨some 11, .load 23 (.tmp 10), _, _, _, _⟩) (v := _) rfl (by kernel_rfl) (by kernel_rfl) (by kernel_rfl) (fun _ _ _ h => h) (yieldsIf_load_mid (by rfl) _ _ rfl _ _ rfl _ _ (fun W hW => (HA.out.below hW).change) hu rfl hi1) (by assumption) ?_
  simp only [Act.put, List.setIfInBounds_toArray, List.set_cons_zero, List.set_cons_succ]
  refine wpAnyH_take (i := 7) (oi := ⟨some 12, .fieldAddr 25 (.tmp 3) 1, _, _, _, _⟩) (v := (.pointer (some ⟨(w.heap.size + 1), 1, none⟩))) rfl (by kernel_rfl) (by kernel_rfl) (by kernel_rfl) (fun _ _ _ h => h) (Or.inl ⟨by rfl, fun W hW => by go_simp⟩) (by assumption) ?_
  simp only [Act.put, List.setIfInBounds_toArray, List.set_cons_zero, List.set_cons_succ]
  refine wpAnyH_take (i := 8) (oi := ⟨some 13, .load 23 (.tmp 12), _, _, _, _⟩) (v := _) rfl (by kernel_rfl) (by kernel_rfl) (by kernel_rfl) (fun _ _ _ h => h) (yieldsIf_load_mid (by rfl) _ _ rfl _ _ rfl _ _ (fun W hW => (HB.out.below hW).change) hu rfl hi2) (by assumption) ?_
  simp only [Act.put, List.setIfInBounds_toArray, List.set_cons_zero, List.set_cons_succ]
  refine wpAnyH_ready (rs := [4]) (by kernel_rfl) (by simp) ?_
  refine AllReadyH.cons (o := ⟨some 9, .call { callee := .value (.func 11), args := #[.tmp 6, .tmp 8], argTypes := #[23, 23] }, _, _, _, _⟩) rfl (fun K hK => ?_) AllReadyH.nil
  go_simp
  go_wp2_with (go_at_call 11; go_must (refine (cmp_is a.c b.c z _ HAC.out HBC.out HZ.out.1).mono ?_); rintro e x1 ⟨rfl, hb1⟩; have hS := hS.trans (hb1.mono hS.size))
  refine hK.out _ _ hS (fun hHeld => ?_)
  clear hK K
  refine wpAnyH_ready (rs := [9]) (by kernel_rfl) (by simp) ?_
  refine AllReadyH.cons (o := ⟨some 14, .call { callee := .value (.func 12), args := #[.tmp 11, .tmp 13], argTypes := #[23, 23] }, _, _, _, _⟩) rfl (fun K hK => ?_) AllReadyH.nil
  go_simp
  go_wp2_with (go_at_call 12; go_must (refine (refCmp_is a.c b.c z _ HAC.out HBC.out HZ.out.1).mono ?_); rintro e x2 ⟨rfl, hb2⟩; have hS := hS.trans (hb2.mono hS.size))
  refine hK.out _ _ hS (fun hHeld => ?_)
  clear hK K
  refine wpAnyH_take (i := 10) (oi := ⟨some 15, .binOp .eql 3 (.tmp 9) (.tmp 14) 3, _, _, _, _⟩) (v := (.bool true)) rfl (by kernel_rfl) (by kernel_rfl) (by kernel_rfl) (fun _ _ _ h => h) (Or.inl ⟨by rfl, fun W hW => by go_simp⟩) (by assumption) ?_
  simp only [Act.put, List.setIfInBounds_toArray, List.set_cons_zero, List.set_cons_succ]
  refine wpAnyH_take (i := 11) (oi := ⟨some 16, .move (.tmp 15), _, _, _, _⟩) (v := (.bool true)) rfl (by kernel_rfl) (by kernel_rfl) (by kernel_rfl) (fun _ _ _ h => h) (Or.inl ⟨by rfl, fun W hW => by go_simp⟩) (by assumption) ?_
  simp only [Act.put, List.setIfInBounds_toArray, List.set_cons_zero, List.set_cons_succ]
  refine wpAnyH_take (i := 12) (oi := ⟨some 17, .load 25 (.tmp 2), _, _, _, _⟩) (v := (.agg (keyC a))) rfl (by kernel_rfl) (by kernel_rfl) (by kernel_rfl) (fun _ _ _ h => h) (yieldsIf_load_mid (by rfl) _ _ rfl _ _ rfl _ _ (fun W hW => (HA.out.below hW).whole) huK rfl hk1) (by assumption) ?_
  simp only [Act.put, List.setIfInBounds_toArray, List.set_cons_zero, List.set_cons_succ]
  refine wpAnyH_take (i := 13) (oi := ⟨some 18, .load 25 (.tmp 3), _, _, _, _⟩) (v := (.agg (keyC b))) rfl (by kernel_rfl) (by kernel_rfl) (by kernel_rfl) (fun _ _ _ h => h) (yieldsIf_load_mid (by rfl) _ _ rfl _ _ rfl _ _ (fun W hW => (HB.out.below hW).whole) huK rfl hk2) (by assumption) ?_
  simp only [Act.put, List.setIfInBounds_toArray, List.set_cons_zero, List.set_cons_succ]
  refine wpAnyH_take (i := 15) (oi := ⟨some 20, .load 25 (.tmp 2), _, _, _, _⟩) (v := (.agg (keyC a))) rfl (by kernel_rfl) (by kernel_rfl) (by kernel_rfl) (fun _ _ _ h => h) (yieldsIf_load_mid (by rfl) _ _ rfl _ _ rfl _ _ (fun W hW => (HA.out.below hW).whole) huK rfl hk1) (by assumption) ?_
  simp only [Act.put, List.setIfInBounds_toArray, List.set_cons_zero, List.set_cons_succ]
  refine wpAnyH_take (i := 16) (oi := ⟨some 21, .load 25 (.tmp 3), _, _, _, _⟩) (v := (.agg (keyC b))) rfl (by kernel_rfl) (by kernel_rfl) (by kernel_rfl) (fun _ _ _ h => h) (yieldsIf_load_mid (by rfl) _ _ rfl _ _ rfl _ _ (fun W hW => (HB.out.below hW).whole) huK rfl hk2) (by assumption) ?_
  simp only [Act.put, List.setIfInBounds_toArray, List.set_cons_zero, List.set_cons_succ]
  refine wpAnyH_ready (rs := [14]) (by kernel_rfl) (by simp) ?_
  refine AllReadyH.cons (o := ⟨some 19, .call { callee := .value (.func 13), args := #[.tmp 17, .tmp 18], argTypes := #[25, 25] }, _, _, _, _⟩) rfl (fun K hK => ?_) AllReadyH.nil
  go_simp
  go_wp2_with (go_at_call 13; go_must (refine (keys_is a b u _ HAC.out HBC.out HZ.out.2).mono ?_); rintro e x3 ⟨rfl, hb3⟩; have hS := hS.trans (hb3.mono hS.size))
  refine hK.out _ _ hS (fun hHeld => ?_)
  clear hK K
  refine wpAnyH_ready (rs := [17]) (by kernel_rfl) (by simp) ?_
  refine AllReadyH.cons (o := ⟨some 22, .call { callee := .value (.func 14), args := #[.tmp 20, .tmp 21], argTypes := #[25, 25] }, _, _, _, _⟩) rfl (fun K hK => ?_) AllReadyH.nil
  go_simp
  go_wp2_with (go_at_call 14; go_must (refine (refKeys_is a b u _ HAC.out HBC.out HZ.out.2).mono ?_); rintro e x4 ⟨rfl, hb4⟩; have hS := hS.trans (hb4.mono hS.size))
  refine hK.out _ _ hS (fun hHeld => ?_)
  clear hK K
  refine wpAnyH_take (i := 18) (oi := ⟨some 23, .binOp .eql 3 (.tmp 19) (.tmp 22) 3, _, _, _, _⟩) (v := (.bool true)) rfl (by kernel_rfl) (by kernel_rfl) (by kernel_rfl) (fun _ _ _ h => h) (Or.inl ⟨by rfl, fun W hW => by go_simp⟩) (by assumption) ?_
  simp only [Act.put, List.setIfInBounds_toArray, List.set_cons_zero, List.set_cons_succ]
  refine wpAnyH_take (i := 19) (oi := ⟨some 24, .pick (.tmp 16) (.tmp 23) (.const (.bool false)), _, _, _, _⟩) (v := (.bool true)) rfl (by kernel_rfl) (by kernel_rfl) (by kernel_rfl) (fun _ _ _ h => h) (Or.inl ⟨by rfl, fun W hW => by go_simp⟩) (by assumption) ?_
  simp only [Act.put, List.setIfInBounds_toArray, List.set_cons_zero, List.set_cons_succ]
  refine wpAnyH_take (i := 20) (oi := ⟨some 25, .move (.tmp 24), _, _, _, _⟩) (v := (.bool true)) rfl (by kernel_rfl) (by kernel_rfl) (by kernel_rfl) (fun _ _ _ h => h) (Or.inl ⟨by rfl, fun W hW => by go_simp⟩) (by assumption) ?_
  simp only [Act.put, List.setIfInBounds_toArray, List.set_cons_zero, List.set_cons_succ]
  refine wpAnyH_ready (rs := [21]) (by kernel_rfl) (by simp) ?_
  refine AllReadyH.cons (o := ⟨some 26, .call { callee := .value (.func 15), args := #[], argTypes := #[] }, _, _, _, _⟩) rfl (fun K hK => ?_) AllReadyH.nil
  go_simp
  go_wp2_with (go_at_call 15; go_must (refine (awake_any _).mono ?_); rintro e x5 ⟨rfl, hb5⟩; have hS := hS.trans (hb5.mono hS.size))
  refine hK.out _ _ hS (fun hHeld => ?_)
  clear hK K
  refine wpAnyH_take (i := 22) (oi := ⟨some 27, .pick (.tmp 25) (.tmp 26) (.const (.bool false)), _, _, _, _⟩) (v := (.bool true)) rfl (by kernel_rfl) (by kernel_rfl) (by kernel_rfl) (fun _ _ _ h => h) (Or.inl ⟨by rfl, fun W hW => by go_simp⟩) (by assumption) ?_
  simp only [Act.put, List.setIfInBounds_toArray, List.set_cons_zero, List.set_cons_succ]
  refine wpAnyH_take (i := 23) (oi := ⟨some 4, .assign (.tmp 27), _, _, _, _⟩) (v := (.bool true)) rfl (by kernel_rfl) (by kernel_rfl) (by kernel_rfl) (fun _ _ _ h => h) (Or.inl ⟨by rfl, fun W hW => by go_simp⟩) (by assumption) ?_
  simp only [Act.put, List.setIfInBounds_toArray, List.set_cons_zero, List.set_cons_succ]
  refine wpAnyH_done (by kernel_rfl) ?_ _
  go_wp2
  go_ret
  exact ⟨rfl, HBL.out.trans (hS.mono HBL.out.size)⟩
#print axioms compares_any
end Go.Proofs.Ytiakbbokmllcdaa
