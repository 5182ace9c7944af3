/-
  The walk of order.Keys.
-/
import Derived.Test.YtmenhbdapikpeaaOrdKey
import Derived.Deep.RegionHeld
namespace Go.Proofs.Ytmenhbdapikpeaa
open Go.RowKit

theorem cells3 (w : World) (x y z : Int) : (w.alloc (.cells #[.int .i64 x, .int .i64 y, .int .i64 z] 3)).cell? ⟨w.heap.size, 0, none⟩ = some (.int .i64 x) ∧ (w.alloc (.cells #[.int .i64 x, .int .i64 y, .int .i64 z] 3)).cell? ⟨w.heap.size, 1, none⟩ = some (.int .i64 y) ∧ (w.alloc (.cells #[.int .i64 x, .int .i64 y, .int .i64 z] 3)).cell? ⟨w.heap.size, 2, none⟩ = some (.int .i64 z) :=
  ⟨by simp, by simp, by simp⟩

set_option maxRecDepth 100000 in
set_option maxHeartbeats 2000000 in
theorem keys_any (a b : KeyV) (w : World) (ha : a.c.length = 32) (hb : b.c.length = 32) :
    Calls Try.prog 20 #[.agg (keyC a), .agg (keyC b)] w (KeyIs a b w) := by
  obtain ⟨hA, hB⟩ := two_keys w a b ha hb
  have hbel : Below w.heap.size w ((w.alloc (.cells (keyC a) 41)).alloc (.cells (keyC b) 41)) := ((Below.refl _ _).alloc (Nat.le_refl _) _).alloc (by simp) _
  have HA := Lib.hid hA
  have HB := Lib.hid hB
  have HAC := Lib.hid ha
  have HBC := Lib.hid hb
  have HBL := Lib.hid hbel
  have HK := Lib.hid (keyF_or a b)
  have hu := Try.underlying39
  have hi1 : (Try.prog.info? 39).map (·.size) = some (a.c.map B).length := by rw [List.length_map, ha]; exact info_id
  have hi2 : (Try.prog.info? 39).map (·.size) = some (b.c.map B).length := by rw [List.length_map, hb]; exact info_id
  clear hA hB ha hb hbel
  go_enter Try.func20, Try.ntmps20
  go_wp2
  generalize (w.alloc (.cells (keyC a) 41)).alloc (.cells (keyC b) 41) = W0 at HA HB HBL ⊢
  have hS0 : Below W0.heap.size W0 W0.drew := (Below.refl _ _).drew
  refine wp_region_held_drew (S := fun W => Below W0.heap.size W0 W) (by kernel_rfl) hS0 (fun hHeld => ?_)
  refine wpAnyH_take (i := 0) (oi := ⟨some 5, .fieldAddr 41 (.tmp 2) 0, _, _, _, _⟩) (v := (.pointer (some ⟨w.heap.size, 0, none⟩))) rfl (by kernel_rfl) (by kernel_rfl) (by kernel_rfl) (fun _ _ _ h => h) (Or.inl ⟨by rfl, fun W hW => by go_simp⟩) (by assumption) ?_
  simp only [Act.put, List.setIfInBounds_toArray, List.set_cons_zero, List.set_cons_succ]
  refine wpAnyH_take (i := 1) (oi := ⟨some 6, .load 3 (.tmp 5), _, _, _, _⟩) (v := (.int .i64 a.t)) rfl (by kernel_rfl) (by kernel_rfl) (by kernel_rfl) (fun _ _ _ h => h) (Or.inl ⟨by rfl, fun W hW => by have hcell := (HA.out.below hW).time; go_simp⟩) (by assumption) ?_
  simp only [Act.put, List.setIfInBounds_toArray, List.set_cons_zero, List.set_cons_succ]
  refine wpAnyH_take (i := 2) (oi := ⟨some 7, .fieldAddr 41 (.tmp 3) 0, _, _, _, _⟩) (v := (.pointer (some ⟨(w.heap.size + 1), 0, none⟩))) rfl (by kernel_rfl) (by kernel_rfl) (by kernel_rfl) (fun _ _ _ h => h) (Or.inl ⟨by rfl, fun W hW => by go_simp⟩) (by assumption) ?_
  simp only [Act.put, List.setIfInBounds_toArray, List.set_cons_zero, List.set_cons_succ]
  refine wpAnyH_take (i := 3) (oi := ⟨some 8, .load 3 (.tmp 7), _, _, _, _⟩) (v := (.int .i64 b.t)) rfl (by kernel_rfl) (by kernel_rfl) (by kernel_rfl) (fun _ _ _ h => h) (Or.inl ⟨by rfl, fun W hW => by have hcell := (HB.out.below hW).time; go_simp⟩) (by assumption) ?_
  simp only [Act.put, List.setIfInBounds_toArray, List.set_cons_zero, List.set_cons_succ]
  refine wpAnyH_take (i := 5) (oi := ⟨some 10, .fieldAddr 41 (.tmp 2) 1, _, _, _, _⟩) (v := (.pointer (some ⟨w.heap.size, 1, none⟩))) rfl (by kernel_rfl) (by kernel_rfl) (by kernel_rfl) (fun _ _ _ h => h) (Or.inl ⟨by rfl, fun W hW => by go_simp⟩) (by assumption) ?_
  simp only [Act.put, List.setIfInBounds_toArray, List.set_cons_zero, List.set_cons_succ]
  refine wpAnyH_take (i := 6) (oi := ⟨some 11, .load 39 (.tmp 10), _, _, _, _⟩) (v := _) rfl (by kernel_rfl) (by kernel_rfl) (by kernel_rfl) (fun _ _ _ h => h) (yieldsIf_load_mid (by rfl) _ _ rfl _ _ rfl _ _ (fun W hW => (HA.out.below hW).change) hu rfl hi1) (by assumption) ?_
  simp only [Act.put, List.setIfInBounds_toArray, List.set_cons_zero, List.set_cons_succ]
  refine wpAnyH_take (i := 7) (oi := ⟨some 12, .fieldAddr 41 (.tmp 3) 1, _, _, _, _⟩) (v := (.pointer (some ⟨(w.heap.size + 1), 1, none⟩))) rfl (by kernel_rfl) (by kernel_rfl) (by kernel_rfl) (fun _ _ _ h => h) (Or.inl ⟨by rfl, fun W hW => by go_simp⟩) (by assumption) ?_
  simp only [Act.put, List.setIfInBounds_toArray, List.set_cons_zero, List.set_cons_succ]
  refine wpAnyH_take (i := 8) (oi := ⟨some 13, .load 39 (.tmp 12), _, _, _, _⟩) (v := _) rfl (by kernel_rfl) (by kernel_rfl) (by kernel_rfl) (fun _ _ _ h => h) (yieldsIf_load_mid (by rfl) _ _ rfl _ _ rfl _ _ (fun W hW => (HB.out.below hW).change) hu rfl hi2) (by assumption) ?_
  simp only [Act.put, List.setIfInBounds_toArray, List.set_cons_zero, List.set_cons_succ]
  refine wpAnyH_take (i := 10) (oi := ⟨some 15, .fieldAddr 41 (.tmp 2) 2, _, _, _, _⟩) (v := (.pointer (some ⟨w.heap.size, 33, none⟩))) rfl (by kernel_rfl) (by kernel_rfl) (by kernel_rfl) (fun _ _ _ h => h) (Or.inl ⟨by rfl, fun W hW => by go_simp⟩) (by assumption) ?_
  simp only [Act.put, List.setIfInBounds_toArray, List.set_cons_zero, List.set_cons_succ]
  refine wpAnyH_take (i := 11) (oi := ⟨some 16, .load 3 (.tmp 15), _, _, _, _⟩) (v := (.int .i64 a.i)) rfl (by kernel_rfl) (by kernel_rfl) (by kernel_rfl) (fun _ _ _ h => h) (Or.inl ⟨by rfl, fun W hW => by have hcell := (HA.out.below hW).index; go_simp⟩) (by assumption) ?_
  simp only [Act.put, List.setIfInBounds_toArray, List.set_cons_zero, List.set_cons_succ]
  refine wpAnyH_take (i := 12) (oi := ⟨some 17, .fieldAddr 41 (.tmp 3) 2, _, _, _, _⟩) (v := (.pointer (some ⟨(w.heap.size + 1), 33, none⟩))) rfl (by kernel_rfl) (by kernel_rfl) (by kernel_rfl) (fun _ _ _ h => h) (Or.inl ⟨by rfl, fun W hW => by go_simp⟩) (by assumption) ?_
  simp only [Act.put, List.setIfInBounds_toArray, List.set_cons_zero, List.set_cons_succ]
  refine wpAnyH_take (i := 13) (oi := ⟨some 18, .load 3 (.tmp 17), _, _, _, _⟩) (v := (.int .i64 b.i)) rfl (by kernel_rfl) (by kernel_rfl) (by kernel_rfl) (fun _ _ _ h => h) (Or.inl ⟨by rfl, fun W hW => by have hcell := (HB.out.below hW).index; go_simp⟩) (by assumption) ?_
  simp only [Act.put, List.setIfInBounds_toArray, List.set_cons_zero, List.set_cons_succ]
  refine wpAnyH_ready (rs := [4]) (by kernel_rfl) (by simp) ?_
  refine AllReadyH.cons (o := ⟨some 9, .call { callee := .value (.func 32), args := #[.tmp 6, .tmp 8], argTypes := #[3, 3] }, _, _, _, _⟩) rfl (fun K hK => ?_) AllReadyH.nil
  go_simp
  go_wp2_with (go_at_call 32; go_must (refine (cmpInt_any _ _ _).mono ?_); rintro e w1 ⟨rfl, rfl⟩)
  refine hK.out _ _ hS0 (fun hHeld => ?_)
  clear hK K
  refine wpAnyH_ready (rs := [9]) (by kernel_rfl) (by simp) ?_
  refine AllReadyH.cons (o := ⟨some 14, .call { callee := .value (.func 33), args := #[.tmp 11, .tmp 13], argTypes := #[39, 39] }, _, _, _, _⟩) rfl (fun K hK => ?_) AllReadyH.nil
  go_simp
  go_wp2_with (go_at_call 33; go_must (refine (compare_any a.c b.c _ HAC.out HBC.out).mono ?_); rintro e w2 ⟨rfl, hb2⟩; have hS2 := hS0.trans (hb2.mono hS0.size))
  refine hK.out _ _ hS2 (fun hHeld => ?_)
  clear hK K
  refine wpAnyH_ready (rs := [14]) (by kernel_rfl) (by simp) ?_
  refine AllReadyH.cons (o := ⟨some 19, .call { callee := .value (.func 32), args := #[.tmp 16, .tmp 18], argTypes := #[3, 3] }, _, _, _, _⟩) rfl (fun K hK => ?_) AllReadyH.nil
  go_simp
  go_wp2_with (go_at_call 32; go_must (refine (cmpInt_any _ _ _).mono ?_); rintro e w1 ⟨rfl, rfl⟩)
  refine hK.out _ _ hS2 (fun hHeld => ?_)
  clear hK K
  refine wpAnyH_ready (rs := [15]) (by kernel_rfl) (by simp) ?_
  refine AllReadyH.cons (o := ⟨some 20, .buildSlice 27 3 #[(0, .tmp 9), (1, .tmp 14), (2, .tmp 19)], _, _, _, _⟩) rfl (fun K hK => ?_) AllReadyH.nil
  go_simp
  have hS3 := hS2.alloc hS2.size (.cells #[.int .i64 (intF a.t b.t), .int .i64 (cmpF a.c b.c), .int .i64 (intF a.i b.i)] 3); have HC3 := Lib.hid (cells3 w2 (intF a.t b.t) (cmpF a.c b.c) (intF a.i b.i))
  refine hK.out _ _ hS3 (fun hHeld => ?_)
  clear hK K
  refine wpAnyH_ready (rs := [16]) (by kernel_rfl) (by simp) ?_
  refine AllReadyH.cons (o := ⟨some 21, .call { callee := .value (.func 31), args := #[.tmp 20], argTypes := #[27] }, _, _, _, _⟩) rfl (fun K hK => ?_) AllReadyH.nil
  go_simp
  go_wp2_with (go_at_call 31; go_must (refine (or_any _ _ _ _ _ HC3.out.1 HC3.out.2.1 HC3.out.2.2).mono ?_); rintro e w4 ⟨rfl, rfl⟩)
  refine hK.out _ _ hS3 (fun hHeld => ?_)
  clear hK K
  refine wpAnyH_take (i := 17) (oi := ⟨some 4, .assign (.tmp 21), _, _, _, _⟩) (v := (.int .i64 (orF (intF a.t b.t) (cmpF a.c b.c) (intF a.i b.i)))) rfl (by kernel_rfl) (by kernel_rfl) (by kernel_rfl) (fun _ _ _ h => h) (Or.inl ⟨by rfl, fun W hW => by go_simp⟩) (by assumption) ?_
  simp only [Act.put, List.setIfInBounds_toArray, List.set_cons_zero, List.set_cons_succ]
  refine wpAnyH_done (by kernel_rfl) ?_ _
  go_wp2
  go_ret
  exact ⟨by rw [HK.out]; rfl, HBL.out.trans (hS3.mono HBL.out.size)⟩
#print axioms keys_any
end Go.Proofs.Ytmenhbdapikpeaa
