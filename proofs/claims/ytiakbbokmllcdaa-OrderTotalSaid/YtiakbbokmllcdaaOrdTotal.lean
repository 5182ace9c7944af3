/-
  The walk of the law OrderTotal.
-/
import Derived.Test.YtiakbbokmllcdaaKeyEq
namespace Go.Proofs.Ytiakbbokmllcdaa
open Go.RowKit

theorem three_keys (w : World) (a b c : KeyV) (ha : a.c.length = 32) (hb : b.c.length = 32) (hc : c.c.length = 32) :
    KeyAt (((w.alloc (.cells (keyC a) 25)).alloc (.cells (keyC b) 25)).alloc (.cells (keyC c) 25)) w.heap.size a ∧
    KeyAt (((w.alloc (.cells (keyC a) 25)).alloc (.cells (keyC b) 25)).alloc (.cells (keyC c) 25)) (w.heap.size + 1) b ∧
    KeyAt (((w.alloc (.cells (keyC a) 25)).alloc (.cells (keyC b) 25)).alloc (.cells (keyC c) 25)) (w.heap.size + 1 + 1) c := by
  obtain ⟨h1, h2⟩ := two_keys w a b ha hb
  have hbel := (Below.refl ((w.alloc (.cells (keyC a) 25)).alloc (.cells (keyC b) 25)).heap.size ((w.alloc (.cells (keyC a) 25)).alloc (.cells (keyC b) 25))).alloc (Nat.le_refl _) (.cells (keyC c) 25)
  refine ⟨h1.below hbel, h2.below hbel, hc, ?_⟩
  have := heap_alloc_new ((w.alloc (.cells (keyC a) 25)).alloc (.cells (keyC b) 25)) (.cells (keyC c) 25)
  simpa using this

set_option maxRecDepth 100000 in
set_option maxHeartbeats 2000000 in
theorem total_0 (a b c : KeyV) (y : Int) (z : Int) (w : World) (ha : a.c.length = 32) (hb : b.c.length = 32) (hc : c.c.length = 32) (hx : (1 : Int) = keyF a b) (hy : (y : Int) = keyF b c) (hz : (z : Int) = keyF a c) (hv : (-1 : Int) = keyF b a) (hq : false = decide (keyF a b = 0)) :
    Calls Try.prog 8 #[.agg (keyC a), .agg (keyC b), .agg (keyC c)] w fun e w' => e = .returned (.bool true) ∧ Below w.heap.size w w' := by
  obtain ⟨hA, hB, hC⟩ := three_keys w a b c ha hb hc
  have hbel : Below w.heap.size w (((w.alloc (.cells (keyC a) 25)).alloc (.cells (keyC b) 25)).alloc (.cells (keyC c) 25)) := (((Below.refl _ _).alloc (Nat.le_refl _) _).alloc (by simp) _).alloc (by simp; omega) _
  have HA := Lib.hid hA
  have HB := Lib.hid hB
  have HC := Lib.hid hC
  have HA1 := Lib.hid ha
  have HB1 := Lib.hid hb
  have HC1 := Lib.hid hc
  have HBL := Lib.hid hbel
  have HX := Lib.hid hx
  have HY := Lib.hid hy
  have HZ := Lib.hid hz
  have HV := Lib.hid hv
  have HQ := Lib.hid hq
  have huK := Try.underlying25
  have hka : (Try.prog.info? 25).map (·.size) = some (keyL a).length := by rw [keyL_length ha]; kernel_rfl
  have hkb : (Try.prog.info? 25).map (·.size) = some (keyL b).length := by rw [keyL_length hb]; kernel_rfl
  have hkc : (Try.prog.info? 25).map (·.size) = some (keyL c).length := by rw [keyL_length hc]; kernel_rfl
  clear hA hB hC ha hb hc hbel hx hy hz hv hq
  go_enter Try.func8, Try.ntmps8
  go_wp2
  generalize ((w.alloc (.cells (keyC a) 25)).alloc (.cells (keyC b) 25)).alloc (.cells (keyC c) 25) = W0 at HA HB HC HBL ⊢
  have hS : Below W0.heap.size W0 W0.drew := (Below.refl _ _).drew
  refine wp_region_held_drew (S := fun W => Below W0.heap.size W0 W) (by kernel_rfl) hS (fun hHeld => ?_)
  refine wpAnyH_take (i := 0) (oi := ⟨some 10, .load 25 (.tmp 3), _, _, _, _⟩) (v := (.agg (keyC a))) rfl (by kernel_rfl) (by kernel_rfl) (by kernel_rfl) (fun _ _ _ h => h) (yieldsIf_load_mid (by rfl) _ _ rfl _ _ rfl _ _ (fun W hW => (HA.out.below hW).whole) huK rfl hka) (by assumption) ?_
  simp only [Act.put, List.setIfInBounds_toArray, List.set_cons_zero, List.set_cons_succ]
  refine wpAnyH_take (i := 1) (oi := ⟨some 11, .load 25 (.tmp 4), _, _, _, _⟩) (v := (.agg (keyC b))) rfl (by kernel_rfl) (by kernel_rfl) (by kernel_rfl) (fun _ _ _ h => h) (yieldsIf_load_mid (by rfl) _ _ rfl _ _ rfl _ _ (fun W hW => (HB.out.below hW).whole) huK rfl hkb) (by assumption) ?_
  simp only [Act.put, List.setIfInBounds_toArray, List.set_cons_zero, List.set_cons_succ]
  refine wpAnyH_take (i := 3) (oi := ⟨some 13, .load 25 (.tmp 4), _, _, _, _⟩) (v := (.agg (keyC b))) rfl (by kernel_rfl) (by kernel_rfl) (by kernel_rfl) (fun _ _ _ h => h) (yieldsIf_load_mid (by rfl) _ _ rfl _ _ rfl _ _ (fun W hW => (HB.out.below hW).whole) huK rfl hkb) (by assumption) ?_
  simp only [Act.put, List.setIfInBounds_toArray, List.set_cons_zero, List.set_cons_succ]
  refine wpAnyH_take (i := 4) (oi := ⟨some 14, .load 25 (.tmp 5), _, _, _, _⟩) (v := (.agg (keyC c))) rfl (by kernel_rfl) (by kernel_rfl) (by kernel_rfl) (fun _ _ _ h => h) (yieldsIf_load_mid (by rfl) _ _ rfl _ _ rfl _ _ (fun W hW => (HC.out.below hW).whole) huK rfl hkc) (by assumption) ?_
  simp only [Act.put, List.setIfInBounds_toArray, List.set_cons_zero, List.set_cons_succ]
  refine wpAnyH_take (i := 6) (oi := ⟨some 16, .load 25 (.tmp 3), _, _, _, _⟩) (v := (.agg (keyC a))) rfl (by kernel_rfl) (by kernel_rfl) (by kernel_rfl) (fun _ _ _ h => h) (yieldsIf_load_mid (by rfl) _ _ rfl _ _ rfl _ _ (fun W hW => (HA.out.below hW).whole) huK rfl hka) (by assumption) ?_
  simp only [Act.put, List.setIfInBounds_toArray, List.set_cons_zero, List.set_cons_succ]
  refine wpAnyH_take (i := 7) (oi := ⟨some 17, .load 25 (.tmp 5), _, _, _, _⟩) (v := (.agg (keyC c))) rfl (by kernel_rfl) (by kernel_rfl) (by kernel_rfl) (fun _ _ _ h => h) (yieldsIf_load_mid (by rfl) _ _ rfl _ _ rfl _ _ (fun W hW => (HC.out.below hW).whole) huK rfl hkc) (by assumption) ?_
  simp only [Act.put, List.setIfInBounds_toArray, List.set_cons_zero, List.set_cons_succ]
  refine wpAnyH_ready (rs := [2]) (by kernel_rfl) (by simp) ?_
  refine AllReadyH.cons (o := ⟨some 12, .call { callee := .value (.func 13), args := #[.tmp 10, .tmp 11], argTypes := #[25, 25] }, _, _, _, _⟩) rfl (fun K hK => ?_) AllReadyH.nil
  go_simp
  go_wp2_with (go_at_call 13; go_must (refine (keys_is a b (1) _ HA1.out HB1.out HX.out).mono ?_); rintro e x1 ⟨rfl, hb1⟩; have hS := hS.trans (hb1.mono hS.size))
  refine hK.out _ _ hS (fun hHeld => ?_)
  clear hK K
  refine wpAnyH_ready (rs := [5]) (by kernel_rfl) (by simp) ?_
  refine AllReadyH.cons (o := ⟨some 15, .call { callee := .value (.func 13), args := #[.tmp 13, .tmp 14], argTypes := #[25, 25] }, _, _, _, _⟩) rfl (fun K hK => ?_) AllReadyH.nil
  go_simp
  go_wp2_with (go_at_call 13; go_must (refine (keys_is b c (y) _ HB1.out HC1.out HY.out).mono ?_); rintro e x2 ⟨rfl, hb2⟩; have hS := hS.trans (hb2.mono hS.size))
  refine hK.out _ _ hS (fun hHeld => ?_)
  clear hK K
  refine wpAnyH_ready (rs := [8]) (by kernel_rfl) (by simp) ?_
  refine AllReadyH.cons (o := ⟨some 18, .call { callee := .value (.func 13), args := #[.tmp 16, .tmp 17], argTypes := #[25, 25] }, _, _, _, _⟩) rfl (fun K hK => ?_) AllReadyH.nil
  go_simp
  go_wp2_with (go_at_call 13; go_must (refine (keys_is a c (z) _ HA1.out HC1.out HZ.out).mono ?_); rintro e x3 ⟨rfl, hb3⟩; have hS := hS.trans (hb3.mono hS.size))
  refine hK.out _ _ hS (fun hHeld => ?_)
  clear hK K
  refine wpAnyH_take (i := 9) (oi := ⟨some 7, .assign (.tmp 12), _, _, _, _⟩) (v := (.int .i64 (1))) rfl (by kernel_rfl) (by kernel_rfl) (by kernel_rfl) (fun _ _ _ h => h) (Or.inl ⟨by rfl, fun W hW => by go_simp⟩) (by assumption) ?_
  simp only [Act.put, List.setIfInBounds_toArray, List.set_cons_zero, List.set_cons_succ]
  refine wpAnyH_take (i := 10) (oi := ⟨some 8, .assign (.tmp 15), _, _, _, _⟩) (v := (.int .i64 (y))) rfl (by kernel_rfl) (by kernel_rfl) (by kernel_rfl) (fun _ _ _ h => h) (Or.inl ⟨by rfl, fun W hW => by go_simp⟩) (by assumption) ?_
  simp only [Act.put, List.setIfInBounds_toArray, List.set_cons_zero, List.set_cons_succ]
  refine wpAnyH_take (i := 11) (oi := ⟨some 9, .assign (.tmp 18), _, _, _, _⟩) (v := (.int .i64 (z))) rfl (by kernel_rfl) (by kernel_rfl) (by kernel_rfl) (fun _ _ _ h => h) (Or.inl ⟨by rfl, fun W hW => by go_simp⟩) (by assumption) ?_
  simp only [Act.put, List.setIfInBounds_toArray, List.set_cons_zero, List.set_cons_succ]
  refine wpAnyH_done (by kernel_rfl) ?_ _
  clear hka hkb hkc
  have HA2 := Lib.hid (HA.out.below hS)
  have HB2 := Lib.hid (HB.out.below hS)
  go_wp2_with (first
    | ((with_reducible show wpList _ _ _ (⟨some 20, _, _, _, _, _⟩ :: _) _ _); refine load_key (wanted_plain rfl) _ rfl _ b rfl HB2.out ?_)
    | ((with_reducible show wpList _ _ _ (⟨some 21, _, _, _, _, _⟩ :: _) _ _); refine load_key (wanted_plain rfl) _ rfl _ a rfl HA2.out ?_)
    | (go_at_call 13; (with_reducible refine (keys_is b a (-1) _ HB1.out HA1.out HV.out).mono ?_); rintro e x4 ⟨rfl, hb4⟩; have HA3 := Lib.hid (HA2.out.below hb4); have HB3 := Lib.hid (HB2.out.below hb4); have hS := hS.trans (hb4.mono hS.size))
    | ((with_reducible show wpList _ _ _ (⟨some 28, _, _, _, _, _⟩ :: _) _ _); refine load_key (by rfl) _ rfl _ a rfl HA3.out ?_)
    | ((with_reducible show wpList _ _ _ (⟨some 29, _, _, _, _, _⟩ :: _) _ _); refine load_key (by rfl) _ rfl _ b rfl HB3.out ?_)
    | ((with_reducible show wpList _ _ _ (⟨some 30, _, _, _, _, _⟩ :: _) _ _); refine eql_keys (by rfl) _ _ _ rfl a b HA1.out HB1.out rfl rfl false HQ.out ?_)
    | (go_at_call 15; (with_reducible refine (awake_any _).mono ?_); rintro e x5 ⟨rfl, hb5⟩; have hS := hS.trans (hb5.mono hS.size)))
  go_ret
  exact ⟨rfl, HBL.out.trans (hS.mono HBL.out.size)⟩
#print axioms total_0

set_option maxRecDepth 100000 in
set_option maxHeartbeats 2000000 in
theorem total_1 (a b c : KeyV) (z : Int) (w : World) (ha : a.c.length = 32) (hb : b.c.length = 32) (hc : c.c.length = 32) (hx : (-1 : Int) = keyF a b) (hy : (1 : Int) = keyF b c) (hz : (z : Int) = keyF a c) (hv : (1 : Int) = keyF b a) (hq : false = decide (keyF a b = 0)) :
    Calls Try.prog 8 #[.agg (keyC a), .agg (keyC b), .agg (keyC c)] w fun e w' => e = .returned (.bool true) ∧ Below w.heap.size w w' := by
  obtain ⟨hA, hB, hC⟩ := three_keys w a b c ha hb hc
  have hbel : Below w.heap.size w (((w.alloc (.cells (keyC a) 25)).alloc (.cells (keyC b) 25)).alloc (.cells (keyC c) 25)) := (((Below.refl _ _).alloc (Nat.le_refl _) _).alloc (by simp) _).alloc (by simp; omega) _
  have HA := Lib.hid hA
  have HB := Lib.hid hB
  have HC := Lib.hid hC
  have HA1 := Lib.hid ha
  have HB1 := Lib.hid hb
  have HC1 := Lib.hid hc
  have HBL := Lib.hid hbel
  have HX := Lib.hid hx
  have HY := Lib.hid hy
  have HZ := Lib.hid hz
  have HV := Lib.hid hv
  have HQ := Lib.hid hq
  have huK := Try.underlying25
  have hka : (Try.prog.info? 25).map (·.size) = some (keyL a).length := by rw [keyL_length ha]; kernel_rfl
  have hkb : (Try.prog.info? 25).map (·.size) = some (keyL b).length := by rw [keyL_length hb]; kernel_rfl
  have hkc : (Try.prog.info? 25).map (·.size) = some (keyL c).length := by rw [keyL_length hc]; kernel_rfl
  clear hA hB hC ha hb hc hbel hx hy hz hv hq
  go_enter Try.func8, Try.ntmps8
  go_wp2
  generalize ((w.alloc (.cells (keyC a) 25)).alloc (.cells (keyC b) 25)).alloc (.cells (keyC c) 25) = W0 at HA HB HC HBL ⊢
  have hS : Below W0.heap.size W0 W0.drew := (Below.refl _ _).drew
  refine wp_region_held_drew (S := fun W => Below W0.heap.size W0 W) (by kernel_rfl) hS (fun hHeld => ?_)
  refine wpAnyH_take (i := 0) (oi := ⟨some 10, .load 25 (.tmp 3), _, _, _, _⟩) (v := (.agg (keyC a))) rfl (by kernel_rfl) (by kernel_rfl) (by kernel_rfl) (fun _ _ _ h => h) (yieldsIf_load_mid (by rfl) _ _ rfl _ _ rfl _ _ (fun W hW => (HA.out.below hW).whole) huK rfl hka) (by assumption) ?_
  simp only [Act.put, List.setIfInBounds_toArray, List.set_cons_zero, List.set_cons_succ]
  refine wpAnyH_take (i := 1) (oi := ⟨some 11, .load 25 (.tmp 4), _, _, _, _⟩) (v := (.agg (keyC b))) rfl (by kernel_rfl) (by kernel_rfl) (by kernel_rfl) (fun _ _ _ h => h) (yieldsIf_load_mid (by rfl) _ _ rfl _ _ rfl _ _ (fun W hW => (HB.out.below hW).whole) huK rfl hkb) (by assumption) ?_
  simp only [Act.put, List.setIfInBounds_toArray, List.set_cons_zero, List.set_cons_succ]
  refine wpAnyH_take (i := 3) (oi := ⟨some 13, .load 25 (.tmp 4), _, _, _, _⟩) (v := (.agg (keyC b))) rfl (by kernel_rfl) (by kernel_rfl) (by kernel_rfl) (fun _ _ _ h => h) (yieldsIf_load_mid (by rfl) _ _ rfl _ _ rfl _ _ (fun W hW => (HB.out.below hW).whole) huK rfl hkb) (by assumption) ?_
  simp only [Act.put, List.setIfInBounds_toArray, List.set_cons_zero, List.set_cons_succ]
  refine wpAnyH_take (i := 4) (oi := ⟨some 14, .load 25 (.tmp 5), _, _, _, _⟩) (v := (.agg (keyC c))) rfl (by kernel_rfl) (by kernel_rfl) (by kernel_rfl) (fun _ _ _ h => h) (yieldsIf_load_mid (by rfl) _ _ rfl _ _ rfl _ _ (fun W hW => (HC.out.below hW).whole) huK rfl hkc) (by assumption) ?_
  simp only [Act.put, List.setIfInBounds_toArray, List.set_cons_zero, List.set_cons_succ]
  refine wpAnyH_take (i := 6) (oi := ⟨some 16, .load 25 (.tmp 3), _, _, _, _⟩) (v := (.agg (keyC a))) rfl (by kernel_rfl) (by kernel_rfl) (by kernel_rfl) (fun _ _ _ h => h) (yieldsIf_load_mid (by rfl) _ _ rfl _ _ rfl _ _ (fun W hW => (HA.out.below hW).whole) huK rfl hka) (by assumption) ?_
  simp only [Act.put, List.setIfInBounds_toArray, List.set_cons_zero, List.set_cons_succ]
  refine wpAnyH_take (i := 7) (oi := ⟨some 17, .load 25 (.tmp 5), _, _, _, _⟩) (v := (.agg (keyC c))) rfl (by kernel_rfl) (by kernel_rfl) (by kernel_rfl) (fun _ _ _ h => h) (yieldsIf_load_mid (by rfl) _ _ rfl _ _ rfl _ _ (fun W hW => (HC.out.below hW).whole) huK rfl hkc) (by assumption) ?_
  simp only [Act.put, List.setIfInBounds_toArray, List.set_cons_zero, List.set_cons_succ]
  refine wpAnyH_ready (rs := [2]) (by kernel_rfl) (by simp) ?_
  refine AllReadyH.cons (o := ⟨some 12, .call { callee := .value (.func 13), args := #[.tmp 10, .tmp 11], argTypes := #[25, 25] }, _, _, _, _⟩) rfl (fun K hK => ?_) AllReadyH.nil
  go_simp
  go_wp2_with (go_at_call 13; go_must (refine (keys_is a b (-1) _ HA1.out HB1.out HX.out).mono ?_); rintro e x1 ⟨rfl, hb1⟩; have hS := hS.trans (hb1.mono hS.size))
  refine hK.out _ _ hS (fun hHeld => ?_)
  clear hK K
  refine wpAnyH_ready (rs := [5]) (by kernel_rfl) (by simp) ?_
  refine AllReadyH.cons (o := ⟨some 15, .call { callee := .value (.func 13), args := #[.tmp 13, .tmp 14], argTypes := #[25, 25] }, _, _, _, _⟩) rfl (fun K hK => ?_) AllReadyH.nil
  go_simp
  go_wp2_with (go_at_call 13; go_must (refine (keys_is b c (1) _ HB1.out HC1.out HY.out).mono ?_); rintro e x2 ⟨rfl, hb2⟩; have hS := hS.trans (hb2.mono hS.size))
  refine hK.out _ _ hS (fun hHeld => ?_)
  clear hK K
  refine wpAnyH_ready (rs := [8]) (by kernel_rfl) (by simp) ?_
  refine AllReadyH.cons (o := ⟨some 18, .call { callee := .value (.func 13), args := #[.tmp 16, .tmp 17], argTypes := #[25, 25] }, _, _, _, _⟩) rfl (fun K hK => ?_) AllReadyH.nil
  go_simp
  go_wp2_with (go_at_call 13; go_must (refine (keys_is a c (z) _ HA1.out HC1.out HZ.out).mono ?_); rintro e x3 ⟨rfl, hb3⟩; have hS := hS.trans (hb3.mono hS.size))
  refine hK.out _ _ hS (fun hHeld => ?_)
  clear hK K
  refine wpAnyH_take (i := 9) (oi := ⟨some 7, .assign (.tmp 12), _, _, _, _⟩) (v := (.int .i64 (-1))) rfl (by kernel_rfl) (by kernel_rfl) (by kernel_rfl) (fun _ _ _ h => h) (Or.inl ⟨by rfl, fun W hW => by go_simp⟩) (by assumption) ?_
  simp only [Act.put, List.setIfInBounds_toArray, List.set_cons_zero, List.set_cons_succ]
  refine wpAnyH_take (i := 10) (oi := ⟨some 8, .assign (.tmp 15), _, _, _, _⟩) (v := (.int .i64 (1))) rfl (by kernel_rfl) (by kernel_rfl) (by kernel_rfl) (fun _ _ _ h => h) (Or.inl ⟨by rfl, fun W hW => by go_simp⟩) (by assumption) ?_
  simp only [Act.put, List.setIfInBounds_toArray, List.set_cons_zero, List.set_cons_succ]
  refine wpAnyH_take (i := 11) (oi := ⟨some 9, .assign (.tmp 18), _, _, _, _⟩) (v := (.int .i64 (z))) rfl (by kernel_rfl) (by kernel_rfl) (by kernel_rfl) (fun _ _ _ h => h) (Or.inl ⟨by rfl, fun W hW => by go_simp⟩) (by assumption) ?_
  simp only [Act.put, List.setIfInBounds_toArray, List.set_cons_zero, List.set_cons_succ]
  refine wpAnyH_done (by kernel_rfl) ?_ _
  clear hka hkb hkc
  have HA2 := Lib.hid (HA.out.below hS)
  have HB2 := Lib.hid (HB.out.below hS)
  go_wp2_with (first
    | ((with_reducible show wpList _ _ _ (⟨some 20, _, _, _, _, _⟩ :: _) _ _); refine load_key (wanted_plain rfl) _ rfl _ b rfl HB2.out ?_)
    | ((with_reducible show wpList _ _ _ (⟨some 21, _, _, _, _, _⟩ :: _) _ _); refine load_key (wanted_plain rfl) _ rfl _ a rfl HA2.out ?_)
    | (go_at_call 13; (with_reducible refine (keys_is b a (1) _ HB1.out HA1.out HV.out).mono ?_); rintro e x4 ⟨rfl, hb4⟩; have HA3 := Lib.hid (HA2.out.below hb4); have HB3 := Lib.hid (HB2.out.below hb4); have hS := hS.trans (hb4.mono hS.size))
    | ((with_reducible show wpList _ _ _ (⟨some 28, _, _, _, _, _⟩ :: _) _ _); refine load_key (by rfl) _ rfl _ a rfl HA3.out ?_)
    | ((with_reducible show wpList _ _ _ (⟨some 29, _, _, _, _, _⟩ :: _) _ _); refine load_key (by rfl) _ rfl _ b rfl HB3.out ?_)
    | ((with_reducible show wpList _ _ _ (⟨some 30, _, _, _, _, _⟩ :: _) _ _); refine eql_keys (by rfl) _ _ _ rfl a b HA1.out HB1.out rfl rfl false HQ.out ?_)
    | (go_at_call 15; (with_reducible refine (awake_any _).mono ?_); rintro e x5 ⟨rfl, hb5⟩; have hS := hS.trans (hb5.mono hS.size)))
  go_ret
  exact ⟨rfl, HBL.out.trans (hS.mono HBL.out.size)⟩
#print axioms total_1

set_option maxRecDepth 100000 in
set_option maxHeartbeats 2000000 in
theorem total_2 (a b c : KeyV) (z : Int) (w : World) (ha : a.c.length = 32) (hb : b.c.length = 32) (hc : c.c.length = 32) (hx : (0 : Int) = keyF a b) (hy : (1 : Int) = keyF b c) (hz : (z : Int) = keyF a c) (hv : (0 : Int) = keyF b a) (hq : true = decide (keyF a b = 0)) :
    Calls Try.prog 8 #[.agg (keyC a), .agg (keyC b), .agg (keyC c)] w fun e w' => e = .returned (.bool true) ∧ Below w.heap.size w w' := by
  obtain ⟨hA, hB, hC⟩ := three_keys w a b c ha hb hc
  have hbel : Below w.heap.size w (((w.alloc (.cells (keyC a) 25)).alloc (.cells (keyC b) 25)).alloc (.cells (keyC c) 25)) := (((Below.refl _ _).alloc (Nat.le_refl _) _).alloc (by simp) _).alloc (by simp; omega) _
  have HA := Lib.hid hA
  have HB := Lib.hid hB
  have HC := Lib.hid hC
  have HA1 := Lib.hid ha
  have HB1 := Lib.hid hb
  have HC1 := Lib.hid hc
  have HBL := Lib.hid hbel
  have HX := Lib.hid hx
  have HY := Lib.hid hy
  have HZ := Lib.hid hz
  have HV := Lib.hid hv
  have HQ := Lib.hid hq
  have huK := Try.underlying25
  have hka : (Try.prog.info? 25).map (·.size) = some (keyL a).length := by rw [keyL_length ha]; kernel_rfl
  have hkb : (Try.prog.info? 25).map (·.size) = some (keyL b).length := by rw [keyL_length hb]; kernel_rfl
  have hkc : (Try.prog.info? 25).map (·.size) = some (keyL c).length := by rw [keyL_length hc]; kernel_rfl
  clear hA hB hC ha hb hc hbel hx hy hz hv hq
  go_enter Try.func8, Try.ntmps8
  go_wp2
  generalize ((w.alloc (.cells (keyC a) 25)).alloc (.cells (keyC b) 25)).alloc (.cells (keyC c) 25) = W0 at HA HB HC HBL ⊢
  have hS : Below W0.heap.size W0 W0.drew := (Below.refl _ _).drew
  refine wp_region_held_drew (S := fun W => Below W0.heap.size W0 W) (by kernel_rfl) hS (fun hHeld => ?_)
  refine wpAnyH_take (i := 0) (oi := ⟨some 10, .load 25 (.tmp 3), _, _, _, _⟩) (v := (.agg (keyC a))) rfl (by kernel_rfl) (by kernel_rfl) (by kernel_rfl) (fun _ _ _ h => h) (yieldsIf_load_mid (by rfl) _ _ rfl _ _ rfl _ _ (fun W hW => (HA.out.below hW).whole) huK rfl hka) (by assumption) ?_
  simp only [Act.put, List.setIfInBounds_toArray, List.set_cons_zero, List.set_cons_succ]
  refine wpAnyH_take (i := 1) (oi := ⟨some 11, .load 25 (.tmp 4), _, _, _, _⟩) (v := (.agg (keyC b))) rfl (by kernel_rfl) (by kernel_rfl) (by kernel_rfl) (fun _ _ _ h => h) (yieldsIf_load_mid (by rfl) _ _ rfl _ _ rfl _ _ (fun W hW => (HB.out.below hW).whole) huK rfl hkb) (by assumption) ?_
  simp only [Act.put, List.setIfInBounds_toArray, List.set_cons_zero, List.set_cons_succ]
  refine wpAnyH_take (i := 3) (oi := ⟨some 13, .load 25 (.tmp 4), _, _, _, _⟩) (v := (.agg (keyC b))) rfl (by kernel_rfl) (by kernel_rfl) (by kernel_rfl) (fun _ _ _ h => h) (yieldsIf_load_mid (by rfl) _ _ rfl _ _ rfl _ _ (fun W hW => (HB.out.below hW).whole) huK rfl hkb) (by assumption) ?_
  simp only [Act.put, List.setIfInBounds_toArray, List.set_cons_zero, List.set_cons_succ]
  refine wpAnyH_take (i := 4) (oi := ⟨some 14, .load 25 (.tmp 5), _, _, _, _⟩) (v := (.agg (keyC c))) rfl (by kernel_rfl) (by kernel_rfl) (by kernel_rfl) (fun _ _ _ h => h) (yieldsIf_load_mid (by rfl) _ _ rfl _ _ rfl _ _ (fun W hW => (HC.out.below hW).whole) huK rfl hkc) (by assumption) ?_
  simp only [Act.put, List.setIfInBounds_toArray, List.set_cons_zero, List.set_cons_succ]
  refine wpAnyH_take (i := 6) (oi := ⟨some 16, .load 25 (.tmp 3), _, _, _, _⟩) (v := (.agg (keyC a))) rfl (by kernel_rfl) (by kernel_rfl) (by kernel_rfl) (fun _ _ _ h => h) (yieldsIf_load_mid (by rfl) _ _ rfl _ _ rfl _ _ (fun W hW => (HA.out.below hW).whole) huK rfl hka) (by assumption) ?_
  simp only [Act.put, List.setIfInBounds_toArray, List.set_cons_zero, List.set_cons_succ]
  refine wpAnyH_take (i := 7) (oi := ⟨some 17, .load 25 (.tmp 5), _, _, _, _⟩) (v := (.agg (keyC c))) rfl (by kernel_rfl) (by kernel_rfl) (by kernel_rfl) (fun _ _ _ h => h) (yieldsIf_load_mid (by rfl) _ _ rfl _ _ rfl _ _ (fun W hW => (HC.out.below hW).whole) huK rfl hkc) (by assumption) ?_
  simp only [Act.put, List.setIfInBounds_toArray, List.set_cons_zero, List.set_cons_succ]
  refine wpAnyH_ready (rs := [2]) (by kernel_rfl) (by simp) ?_
  refine AllReadyH.cons (o := ⟨some 12, .call { callee := .value (.func 13), args := #[.tmp 10, .tmp 11], argTypes := #[25, 25] }, _, _, _, _⟩) rfl (fun K hK => ?_) AllReadyH.nil
  go_simp
  go_wp2_with (go_at_call 13; go_must (refine (keys_is a b (0) _ HA1.out HB1.out HX.out).mono ?_); rintro e x1 ⟨rfl, hb1⟩; have hS := hS.trans (hb1.mono hS.size))
  refine hK.out _ _ hS (fun hHeld => ?_)
  clear hK K
  refine wpAnyH_ready (rs := [5]) (by kernel_rfl) (by simp) ?_
  refine AllReadyH.cons (o := ⟨some 15, .call { callee := .value (.func 13), args := #[.tmp 13, .tmp 14], argTypes := #[25, 25] }, _, _, _, _⟩) rfl (fun K hK => ?_) AllReadyH.nil
  go_simp
  go_wp2_with (go_at_call 13; go_must (refine (keys_is b c (1) _ HB1.out HC1.out HY.out).mono ?_); rintro e x2 ⟨rfl, hb2⟩; have hS := hS.trans (hb2.mono hS.size))
  refine hK.out _ _ hS (fun hHeld => ?_)
  clear hK K
  refine wpAnyH_ready (rs := [8]) (by kernel_rfl) (by simp) ?_
  refine AllReadyH.cons (o := ⟨some 18, .call { callee := .value (.func 13), args := #[.tmp 16, .tmp 17], argTypes := #[25, 25] }, _, _, _, _⟩) rfl (fun K hK => ?_) AllReadyH.nil
  go_simp
  go_wp2_with (go_at_call 13; go_must (refine (keys_is a c (z) _ HA1.out HC1.out HZ.out).mono ?_); rintro e x3 ⟨rfl, hb3⟩; have hS := hS.trans (hb3.mono hS.size))
  refine hK.out _ _ hS (fun hHeld => ?_)
  clear hK K
  refine wpAnyH_take (i := 9) (oi := ⟨some 7, .assign (.tmp 12), _, _, _, _⟩) (v := (.int .i64 (0))) rfl (by kernel_rfl) (by kernel_rfl) (by kernel_rfl) (fun _ _ _ h => h) (Or.inl ⟨by rfl, fun W hW => by go_simp⟩) (by assumption) ?_
  simp only [Act.put, List.setIfInBounds_toArray, List.set_cons_zero, List.set_cons_succ]
  refine wpAnyH_take (i := 10) (oi := ⟨some 8, .assign (.tmp 15), _, _, _, _⟩) (v := (.int .i64 (1))) rfl (by kernel_rfl) (by kernel_rfl) (by kernel_rfl) (fun _ _ _ h => h) (Or.inl ⟨by rfl, fun W hW => by go_simp⟩) (by assumption) ?_
  simp only [Act.put, List.setIfInBounds_toArray, List.set_cons_zero, List.set_cons_succ]
  refine wpAnyH_take (i := 11) (oi := ⟨some 9, .assign (.tmp 18), _, _, _, _⟩) (v := (.int .i64 (z))) rfl (by kernel_rfl) (by kernel_rfl) (by kernel_rfl) (fun _ _ _ h => h) (Or.inl ⟨by rfl, fun W hW => by go_simp⟩) (by assumption) ?_
  simp only [Act.put, List.setIfInBounds_toArray, List.set_cons_zero, List.set_cons_succ]
  refine wpAnyH_done (by kernel_rfl) ?_ _
  clear hka hkb hkc
  have HA2 := Lib.hid (HA.out.below hS)
  have HB2 := Lib.hid (HB.out.below hS)
  go_wp2_with (first
    | ((with_reducible show wpList _ _ _ (⟨some 20, _, _, _, _, _⟩ :: _) _ _); refine load_key (wanted_plain rfl) _ rfl _ b rfl HB2.out ?_)
    | ((with_reducible show wpList _ _ _ (⟨some 21, _, _, _, _, _⟩ :: _) _ _); refine load_key (wanted_plain rfl) _ rfl _ a rfl HA2.out ?_)
    | (go_at_call 13; (with_reducible refine (keys_is b a (0) _ HB1.out HA1.out HV.out).mono ?_); rintro e x4 ⟨rfl, hb4⟩; have HA3 := Lib.hid (HA2.out.below hb4); have HB3 := Lib.hid (HB2.out.below hb4); have hS := hS.trans (hb4.mono hS.size))
    | ((with_reducible show wpList _ _ _ (⟨some 28, _, _, _, _, _⟩ :: _) _ _); refine load_key (by rfl) _ rfl _ a rfl HA3.out ?_)
    | ((with_reducible show wpList _ _ _ (⟨some 29, _, _, _, _, _⟩ :: _) _ _); refine load_key (by rfl) _ rfl _ b rfl HB3.out ?_)
    | ((with_reducible show wpList _ _ _ (⟨some 30, _, _, _, _, _⟩ :: _) _ _); refine eql_keys (by rfl) _ _ _ rfl a b HA1.out HB1.out rfl rfl true HQ.out ?_)
    | (go_at_call 15; (with_reducible refine (awake_any _).mono ?_); rintro e x5 ⟨rfl, hb5⟩; have hS := hS.trans (hb5.mono hS.size)))
  go_ret
  exact ⟨rfl, HBL.out.trans (hS.mono HBL.out.size)⟩
#print axioms total_2

set_option maxRecDepth 100000 in
set_option maxHeartbeats 2000000 in
theorem total_3 (a b c : KeyV) (w : World) (ha : a.c.length = 32) (hb : b.c.length = 32) (hc : c.c.length = 32) (hx : (-1 : Int) = keyF a b) (hy : (-1 : Int) = keyF b c) (hz : (-1 : Int) = keyF a c) (hv : (1 : Int) = keyF b a) (hq : false = decide (keyF a b = 0)) :
    Calls Try.prog 8 #[.agg (keyC a), .agg (keyC b), .agg (keyC c)] w fun e w' => e = .returned (.bool true) ∧ Below w.heap.size w w' := by
  obtain ⟨hA, hB, hC⟩ := three_keys w a b c ha hb hc
  have hbel : Below w.heap.size w (((w.alloc (.cells (keyC a) 25)).alloc (.cells (keyC b) 25)).alloc (.cells (keyC c) 25)) := (((Below.refl _ _).alloc (Nat.le_refl _) _).alloc (by simp) _).alloc (by simp; omega) _
  have HA := Lib.hid hA
  have HB := Lib.hid hB
  have HC := Lib.hid hC
  have HA1 := Lib.hid ha
  have HB1 := Lib.hid hb
  have HC1 := Lib.hid hc
  have HBL := Lib.hid hbel
  have HX := Lib.hid hx
  have HY := Lib.hid hy
  have HZ := Lib.hid hz
  have HV := Lib.hid hv
  have HQ := Lib.hid hq
  have huK := Try.underlying25
  have hka : (Try.prog.info? 25).map (·.size) = some (keyL a).length := by rw [keyL_length ha]; kernel_rfl
  have hkb : (Try.prog.info? 25).map (·.size) = some (keyL b).length := by rw [keyL_length hb]; kernel_rfl
  have hkc : (Try.prog.info? 25).map (·.size) = some (keyL c).length := by rw [keyL_length hc]; kernel_rfl
  clear hA hB hC ha hb hc hbel hx hy hz hv hq
  go_enter Try.func8, Try.ntmps8
  go_wp2
  generalize ((w.alloc (.cells (keyC a) 25)).alloc (.cells (keyC b) 25)).alloc (.cells (keyC c) 25) = W0 at HA HB HC HBL ⊢
  have hS : Below W0.heap.size W0 W0.drew := (Below.refl _ _).drew
  refine wp_region_held_drew (S := fun W => Below W0.heap.size W0 W) (by kernel_rfl) hS (fun hHeld => ?_)
  refine wpAnyH_take (i := 0) (oi := ⟨some 10, .load 25 (.tmp 3), _, _, _, _⟩) (v := (.agg (keyC a))) rfl (by kernel_rfl) (by kernel_rfl) (by kernel_rfl) (fun _ _ _ h => h) (yieldsIf_load_mid (by rfl) _ _ rfl _ _ rfl _ _ (fun W hW => (HA.out.below hW).whole) huK rfl hka) (by assumption) ?_
  simp only [Act.put, List.setIfInBounds_toArray, List.set_cons_zero, List.set_cons_succ]
  refine wpAnyH_take (i := 1) (oi := ⟨some 11, .load 25 (.tmp 4), _, _, _, _⟩) (v := (.agg (keyC b))) rfl (by kernel_rfl) (by kernel_rfl) (by kernel_rfl) (fun _ _ _ h => h) (yieldsIf_load_mid (by rfl) _ _ rfl _ _ rfl _ _ (fun W hW => (HB.out.below hW).whole) huK rfl hkb) (by assumption) ?_
  simp only [Act.put, List.setIfInBounds_toArray, List.set_cons_zero, List.set_cons_succ]
  refine wpAnyH_take (i := 3) (oi := ⟨some 13, .load 25 (.tmp 4), _, _, _, _⟩) (v := (.agg (keyC b))) rfl (by kernel_rfl) (by kernel_rfl) (by kernel_rfl) (fun _ _ _ h => h) (yieldsIf_load_mid (by rfl) _ _ rfl _ _ rfl _ _ (fun W hW => (HB.out.below hW).whole) huK rfl hkb) (by assumption) ?_
  simp only [Act.put, List.setIfInBounds_toArray, List.set_cons_zero, List.set_cons_succ]
  refine wpAnyH_take (i := 4) (oi := ⟨some 14, .load 25 (.tmp 5), _, _, _, _⟩) (v := (.agg (keyC c))) rfl (by kernel_rfl) (by kernel_rfl) (by kernel_rfl) (fun _ _ _ h => h) (yieldsIf_load_mid (by rfl) _ _ rfl _ _ rfl _ _ (fun W hW => (HC.out.below hW).whole) huK rfl hkc) (by assumption) ?_
  simp only [Act.put, List.setIfInBounds_toArray, List.set_cons_zero, List.set_cons_succ]
  refine wpAnyH_take (i := 6) (oi := ⟨some 16, .load 25 (.tmp 3), _, _, _, _⟩) (v := (.agg (keyC a))) rfl (by kernel_rfl) (by kernel_rfl) (by kernel_rfl) (fun _ _ _ h => h) (yieldsIf_load_mid (by rfl) _ _ rfl _ _ rfl _ _ (fun W hW => (HA.out.below hW).whole) huK rfl hka) (by assumption) ?_
  simp only [Act.put, List.setIfInBounds_toArray, List.set_cons_zero, List.set_cons_succ]
  refine wpAnyH_take (i := 7) (oi := ⟨some 17, .load 25 (.tmp 5), _, _, _, _⟩) (v := (.agg (keyC c))) rfl (by kernel_rfl) (by kernel_rfl) (by kernel_rfl) (fun _ _ _ h => h) (yieldsIf_load_mid (by rfl) _ _ rfl _ _ rfl _ _ (fun W hW => (HC.out.below hW).whole) huK rfl hkc) (by assumption) ?_
  simp only [Act.put, List.setIfInBounds_toArray, List.set_cons_zero, List.set_cons_succ]
  refine wpAnyH_ready (rs := [2]) (by kernel_rfl) (by simp) ?_
  refine AllReadyH.cons (o := ⟨some 12, .call { callee := .value (.func 13), args := #[.tmp 10, .tmp 11], argTypes := #[25, 25] }, _, _, _, _⟩) rfl (fun K hK => ?_) AllReadyH.nil
  go_simp
  go_wp2_with (go_at_call 13; go_must (refine (keys_is a b (-1) _ HA1.out HB1.out HX.out).mono ?_); rintro e x1 ⟨rfl, hb1⟩; have hS := hS.trans (hb1.mono hS.size))
  refine hK.out _ _ hS (fun hHeld => ?_)
  clear hK K
  refine wpAnyH_ready (rs := [5]) (by kernel_rfl) (by simp) ?_
  refine AllReadyH.cons (o := ⟨some 15, .call { callee := .value (.func 13), args := #[.tmp 13, .tmp 14], argTypes := #[25, 25] }, _, _, _, _⟩) rfl (fun K hK => ?_) AllReadyH.nil
  go_simp
  go_wp2_with (go_at_call 13; go_must (refine (keys_is b c (-1) _ HB1.out HC1.out HY.out).mono ?_); rintro e x2 ⟨rfl, hb2⟩; have hS := hS.trans (hb2.mono hS.size))
  refine hK.out _ _ hS (fun hHeld => ?_)
  clear hK K
  refine wpAnyH_ready (rs := [8]) (by kernel_rfl) (by simp) ?_
  refine AllReadyH.cons (o := ⟨some 18, .call { callee := .value (.func 13), args := #[.tmp 16, .tmp 17], argTypes := #[25, 25] }, _, _, _, _⟩) rfl (fun K hK => ?_) AllReadyH.nil
  go_simp
  go_wp2_with (go_at_call 13; go_must (refine (keys_is a c (-1) _ HA1.out HC1.out HZ.out).mono ?_); rintro e x3 ⟨rfl, hb3⟩; have hS := hS.trans (hb3.mono hS.size))
  refine hK.out _ _ hS (fun hHeld => ?_)
  clear hK K
  refine wpAnyH_take (i := 9) (oi := ⟨some 7, .assign (.tmp 12), _, _, _, _⟩) (v := (.int .i64 (-1))) rfl (by kernel_rfl) (by kernel_rfl) (by kernel_rfl) (fun _ _ _ h => h) (Or.inl ⟨by rfl, fun W hW => by go_simp⟩) (by assumption) ?_
  simp only [Act.put, List.setIfInBounds_toArray, List.set_cons_zero, List.set_cons_succ]
  refine wpAnyH_take (i := 10) (oi := ⟨some 8, .assign (.tmp 15), _, _, _, _⟩) (v := (.int .i64 (-1))) rfl (by kernel_rfl) (by kernel_rfl) (by kernel_rfl) (fun _ _ _ h => h) (Or.inl ⟨by rfl, fun W hW => by go_simp⟩) (by assumption) ?_
  simp only [Act.put, List.setIfInBounds_toArray, List.set_cons_zero, List.set_cons_succ]
  refine wpAnyH_take (i := 11) (oi := ⟨some 9, .assign (.tmp 18), _, _, _, _⟩) (v := (.int .i64 (-1))) rfl (by kernel_rfl) (by kernel_rfl) (by kernel_rfl) (fun _ _ _ h => h) (Or.inl ⟨by rfl, fun W hW => by go_simp⟩) (by assumption) ?_
  simp only [Act.put, List.setIfInBounds_toArray, List.set_cons_zero, List.set_cons_succ]
  refine wpAnyH_done (by kernel_rfl) ?_ _
  clear hka hkb hkc
  have HA2 := Lib.hid (HA.out.below hS)
  have HB2 := Lib.hid (HB.out.below hS)
  go_wp2_with (first
    | ((with_reducible show wpList _ _ _ (⟨some 20, _, _, _, _, _⟩ :: _) _ _); refine load_key (wanted_plain rfl) _ rfl _ b rfl HB2.out ?_)
    | ((with_reducible show wpList _ _ _ (⟨some 21, _, _, _, _, _⟩ :: _) _ _); refine load_key (wanted_plain rfl) _ rfl _ a rfl HA2.out ?_)
    | (go_at_call 13; (with_reducible refine (keys_is b a (1) _ HB1.out HA1.out HV.out).mono ?_); rintro e x4 ⟨rfl, hb4⟩; have HA3 := Lib.hid (HA2.out.below hb4); have HB3 := Lib.hid (HB2.out.below hb4); have hS := hS.trans (hb4.mono hS.size))
    | ((with_reducible show wpList _ _ _ (⟨some 28, _, _, _, _, _⟩ :: _) _ _); refine load_key (by rfl) _ rfl _ a rfl HA3.out ?_)
    | ((with_reducible show wpList _ _ _ (⟨some 29, _, _, _, _, _⟩ :: _) _ _); refine load_key (by rfl) _ rfl _ b rfl HB3.out ?_)
    | ((with_reducible show wpList _ _ _ (⟨some 30, _, _, _, _, _⟩ :: _) _ _); refine eql_keys (by rfl) _ _ _ rfl a b HA1.out HB1.out rfl rfl false HQ.out ?_)
    | (go_at_call 15; (with_reducible refine (awake_any _).mono ?_); rintro e x5 ⟨rfl, hb5⟩; have hS := hS.trans (hb5.mono hS.size)))
  go_ret
  exact ⟨rfl, HBL.out.trans (hS.mono HBL.out.size)⟩
#print axioms total_3

set_option maxRecDepth 100000 in
set_option maxHeartbeats 2000000 in
theorem total_4 (a b c : KeyV) (w : World) (ha : a.c.length = 32) (hb : b.c.length = 32) (hc : c.c.length = 32) (hx : (-1 : Int) = keyF a b) (hy : (0 : Int) = keyF b c) (hz : (-1 : Int) = keyF a c) (hv : (1 : Int) = keyF b a) (hq : false = decide (keyF a b = 0)) :
    Calls Try.prog 8 #[.agg (keyC a), .agg (keyC b), .agg (keyC c)] w fun e w' => e = .returned (.bool true) ∧ Below w.heap.size w w' := by
  obtain ⟨hA, hB, hC⟩ := three_keys w a b c ha hb hc
  have hbel : Below w.heap.size w (((w.alloc (.cells (keyC a) 25)).alloc (.cells (keyC b) 25)).alloc (.cells (keyC c) 25)) := (((Below.refl _ _).alloc (Nat.le_refl _) _).alloc (by simp) _).alloc (by simp; omega) _
  have HA := Lib.hid hA
  have HB := Lib.hid hB
  have HC := Lib.hid hC
  have HA1 := Lib.hid ha
  have HB1 := Lib.hid hb
  have HC1 := Lib.hid hc
  have HBL := Lib.hid hbel
  have HX := Lib.hid hx
  have HY := Lib.hid hy
  have HZ := Lib.hid hz
  have HV := Lib.hid hv
  have HQ := Lib.hid hq
  have huK := Try.underlying25
  have hka : (Try.prog.info? 25).map (·.size) = some (keyL a).length := by rw [keyL_length ha]; kernel_rfl
  have hkb : (Try.prog.info? 25).map (·.size) = some (keyL b).length := by rw [keyL_length hb]; kernel_rfl
  have hkc : (Try.prog.info? 25).map (·.size) = some (keyL c).length := by rw [keyL_length hc]; kernel_rfl
  clear hA hB hC ha hb hc hbel hx hy hz hv hq
  go_enter Try.func8, Try.ntmps8
  go_wp2
  generalize ((w.alloc (.cells (keyC a) 25)).alloc (.cells (keyC b) 25)).alloc (.cells (keyC c) 25) = W0 at HA HB HC HBL ⊢
  have hS : Below W0.heap.size W0 W0.drew := (Below.refl _ _).drew
  refine wp_region_held_drew (S := fun W => Below W0.heap.size W0 W) (by kernel_rfl) hS (fun hHeld => ?_)
  refine wpAnyH_take (i := 0) (oi := ⟨some 10, .load 25 (.tmp 3), _, _, _, _⟩) (v := (.agg (keyC a))) rfl (by kernel_rfl) (by kernel_rfl) (by kernel_rfl) (fun _ _ _ h => h) (yieldsIf_load_mid (by rfl) _ _ rfl _ _ rfl _ _ (fun W hW => (HA.out.below hW).whole) huK rfl hka) (by assumption) ?_
  simp only [Act.put, List.setIfInBounds_toArray, List.set_cons_zero, List.set_cons_succ]
  refine wpAnyH_take (i := 1) (oi := ⟨some 11, .load 25 (.tmp 4), _, _, _, _⟩) (v := (.agg (keyC b))) rfl (by kernel_rfl) (by kernel_rfl) (by kernel_rfl) (fun _ _ _ h => h) (yieldsIf_load_mid (by rfl) _ _ rfl _ _ rfl _ _ (fun W hW => (HB.out.below hW).whole) huK rfl hkb) (by assumption) ?_
  simp only [Act.put, List.setIfInBounds_toArray, List.set_cons_zero, List.set_cons_succ]
  refine wpAnyH_take (i := 3) (oi := ⟨some 13, .load 25 (.tmp 4), _, _, _, _⟩) (v := (.agg (keyC b))) rfl (by kernel_rfl) (by kernel_rfl) (by kernel_rfl) (fun _ _ _ h => h) (yieldsIf_load_mid (by rfl) _ _ rfl _ _ rfl _ _ (fun W hW => (HB.out.below hW).whole) huK rfl hkb) (by assumption) ?_
  simp only [Act.put, List.setIfInBounds_toArray, List.set_cons_zero, List.set_cons_succ]
  refine wpAnyH_take (i := 4) (oi := ⟨some 14, .load 25 (.tmp 5), _, _, _, _⟩) (v := (.agg (keyC c))) rfl (by kernel_rfl) (by kernel_rfl) (by kernel_rfl) (fun _ _ _ h => h) (yieldsIf_load_mid (by rfl) _ _ rfl _ _ rfl _ _ (fun W hW => (HC.out.below hW).whole) huK rfl hkc) (by assumption) ?_
  simp only [Act.put, List.setIfInBounds_toArray, List.set_cons_zero, List.set_cons_succ]
  refine wpAnyH_take (i := 6) (oi := ⟨some 16, .load 25 (.tmp 3), _, _, _, _⟩) (v := (.agg (keyC a))) rfl (by kernel_rfl) (by kernel_rfl) (by kernel_rfl) (fun _ _ _ h => h) (yieldsIf_load_mid (by rfl) _ _ rfl _ _ rfl _ _ (fun W hW => (HA.out.below hW).whole) huK rfl hka) (by assumption) ?_
  simp only [Act.put, List.setIfInBounds_toArray, List.set_cons_zero, List.set_cons_succ]
  refine wpAnyH_take (i := 7) (oi := ⟨some 17, .load 25 (.tmp 5), _, _, _, _⟩) (v := (.agg (keyC c))) rfl (by kernel_rfl) (by kernel_rfl) (by kernel_rfl) (fun _ _ _ h => h) (yieldsIf_load_mid (by rfl) _ _ rfl _ _ rfl _ _ (fun W hW => (HC.out.below hW).whole) huK rfl hkc) (by assumption) ?_
  simp only [Act.put, List.setIfInBounds_toArray, List.set_cons_zero, List.set_cons_succ]
  refine wpAnyH_ready (rs := [2]) (by kernel_rfl) (by simp) ?_
  refine AllReadyH.cons (o := ⟨some 12, .call { callee := .value (.func 13), args := #[.tmp 10, .tmp 11], argTypes := #[25, 25] }, _, _, _, _⟩) rfl (fun K hK => ?_) AllReadyH.nil
  go_simp
  go_wp2_with (go_at_call 13; go_must (refine (keys_is a b (-1) _ HA1.out HB1.out HX.out).mono ?_); rintro e x1 ⟨rfl, hb1⟩; have hS := hS.trans (hb1.mono hS.size))
  refine hK.out _ _ hS (fun hHeld => ?_)
  clear hK K
  refine wpAnyH_ready (rs := [5]) (by kernel_rfl) (by simp) ?_
  refine AllReadyH.cons (o := ⟨some 15, .call { callee := .value (.func 13), args := #[.tmp 13, .tmp 14], argTypes := #[25, 25] }, _, _, _, _⟩) rfl (fun K hK => ?_) AllReadyH.nil
  go_simp
  go_wp2_with (go_at_call 13; go_must (refine (keys_is b c (0) _ HB1.out HC1.out HY.out).mono ?_); rintro e x2 ⟨rfl, hb2⟩; have hS := hS.trans (hb2.mono hS.size))
  refine hK.out _ _ hS (fun hHeld => ?_)
  clear hK K
  refine wpAnyH_ready (rs := [8]) (by kernel_rfl) (by simp) ?_
  refine AllReadyH.cons (o := ⟨some 18, .call { callee := .value (.func 13), args := #[.tmp 16, .tmp 17], argTypes := #[25, 25] }, _, _, _, _⟩) rfl (fun K hK => ?_) AllReadyH.nil
  go_simp
  go_wp2_with (go_at_call 13; go_must (refine (keys_is a c (-1) _ HA1.out HC1.out HZ.out).mono ?_); rintro e x3 ⟨rfl, hb3⟩; have hS := hS.trans (hb3.mono hS.size))
  refine hK.out _ _ hS (fun hHeld => ?_)
  clear hK K
  refine wpAnyH_take (i := 9) (oi := ⟨some 7, .assign (.tmp 12), _, _, _, _⟩) (v := (.int .i64 (-1))) rfl (by kernel_rfl) (by kernel_rfl) (by kernel_rfl) (fun _ _ _ h => h) (Or.inl ⟨by rfl, fun W hW => by go_simp⟩) (by assumption) ?_
  simp only [Act.put, List.setIfInBounds_toArray, List.set_cons_zero, List.set_cons_succ]
  refine wpAnyH_take (i := 10) (oi := ⟨some 8, .assign (.tmp 15), _, _, _, _⟩) (v := (.int .i64 (0))) rfl (by kernel_rfl) (by kernel_rfl) (by kernel_rfl) (fun _ _ _ h => h) (Or.inl ⟨by rfl, fun W hW => by go_simp⟩) (by assumption) ?_
  simp only [Act.put, List.setIfInBounds_toArray, List.set_cons_zero, List.set_cons_succ]
  refine wpAnyH_take (i := 11) (oi := ⟨some 9, .assign (.tmp 18), _, _, _, _⟩) (v := (.int .i64 (-1))) rfl (by kernel_rfl) (by kernel_rfl) (by kernel_rfl) (fun _ _ _ h => h) (Or.inl ⟨by rfl, fun W hW => by go_simp⟩) (by assumption) ?_
  simp only [Act.put, List.setIfInBounds_toArray, List.set_cons_zero, List.set_cons_succ]
  refine wpAnyH_done (by kernel_rfl) ?_ _
  clear hka hkb hkc
  have HA2 := Lib.hid (HA.out.below hS)
  have HB2 := Lib.hid (HB.out.below hS)
  go_wp2_with (first
    | ((with_reducible show wpList _ _ _ (⟨some 20, _, _, _, _, _⟩ :: _) _ _); refine load_key (wanted_plain rfl) _ rfl _ b rfl HB2.out ?_)
    | ((with_reducible show wpList _ _ _ (⟨some 21, _, _, _, _, _⟩ :: _) _ _); refine load_key (wanted_plain rfl) _ rfl _ a rfl HA2.out ?_)
    | (go_at_call 13; (with_reducible refine (keys_is b a (1) _ HB1.out HA1.out HV.out).mono ?_); rintro e x4 ⟨rfl, hb4⟩; have HA3 := Lib.hid (HA2.out.below hb4); have HB3 := Lib.hid (HB2.out.below hb4); have hS := hS.trans (hb4.mono hS.size))
    | ((with_reducible show wpList _ _ _ (⟨some 28, _, _, _, _, _⟩ :: _) _ _); refine load_key (by rfl) _ rfl _ a rfl HA3.out ?_)
    | ((with_reducible show wpList _ _ _ (⟨some 29, _, _, _, _, _⟩ :: _) _ _); refine load_key (by rfl) _ rfl _ b rfl HB3.out ?_)
    | ((with_reducible show wpList _ _ _ (⟨some 30, _, _, _, _, _⟩ :: _) _ _); refine eql_keys (by rfl) _ _ _ rfl a b HA1.out HB1.out rfl rfl false HQ.out ?_)
    | (go_at_call 15; (with_reducible refine (awake_any _).mono ?_); rintro e x5 ⟨rfl, hb5⟩; have hS := hS.trans (hb5.mono hS.size)))
  go_ret
  exact ⟨rfl, HBL.out.trans (hS.mono HBL.out.size)⟩
#print axioms total_4

set_option maxRecDepth 100000 in
set_option maxHeartbeats 2000000 in
theorem total_5 (a b c : KeyV) (w : World) (ha : a.c.length = 32) (hb : b.c.length = 32) (hc : c.c.length = 32) (hx : (0 : Int) = keyF a b) (hy : (-1 : Int) = keyF b c) (hz : (-1 : Int) = keyF a c) (hv : (0 : Int) = keyF b a) (hq : true = decide (keyF a b = 0)) :
    Calls Try.prog 8 #[.agg (keyC a), .agg (keyC b), .agg (keyC c)] w fun e w' => e = .returned (.bool true) ∧ Below w.heap.size w w' := by
  obtain ⟨hA, hB, hC⟩ := three_keys w a b c ha hb hc
  have hbel : Below w.heap.size w (((w.alloc (.cells (keyC a) 25)).alloc (.cells (keyC b) 25)).alloc (.cells (keyC c) 25)) := (((Below.refl _ _).alloc (Nat.le_refl _) _).alloc (by simp) _).alloc (by simp; omega) _
  have HA := Lib.hid hA
  have HB := Lib.hid hB
  have HC := Lib.hid hC
  have HA1 := Lib.hid ha
  have HB1 := Lib.hid hb
  have HC1 := Lib.hid hc
  have HBL := Lib.hid hbel
  have HX := Lib.hid hx
  have HY := Lib.hid hy
  have HZ := Lib.hid hz
  have HV := Lib.hid hv
  have HQ := Lib.hid hq
  have huK := Try.underlying25
  have hka : (Try.prog.info? 25).map (·.size) = some (keyL a).length := by rw [keyL_length ha]; kernel_rfl
  have hkb : (Try.prog.info? 25).map (·.size) = some (keyL b).length := by rw [keyL_length hb]; kernel_rfl
  have hkc : (Try.prog.info? 25).map (·.size) = some (keyL c).length := by rw [keyL_length hc]; kernel_rfl
  clear hA hB hC ha hb hc hbel hx hy hz hv hq
  go_enter Try.func8, Try.ntmps8
  go_wp2
  generalize ((w.alloc (.cells (keyC a) 25)).alloc (.cells (keyC b) 25)).alloc (.cells (keyC c) 25) = W0 at HA HB HC HBL ⊢
  have hS : Below W0.heap.size W0 W0.drew := (Below.refl _ _).drew
  refine wp_region_held_drew (S := fun W => Below W0.heap.size W0 W) (by kernel_rfl) hS (fun hHeld => ?_)
  refine wpAnyH_take (i := 0) (oi := ⟨some 10, .load 25 (.tmp 3), _, _, _, _⟩) (v := (.agg (keyC a))) rfl (by kernel_rfl) (by kernel_rfl) (by kernel_rfl) (fun _ _ _ h => h) (yieldsIf_load_mid (by rfl) _ _ rfl _ _ rfl _ _ (fun W hW => (HA.out.below hW).whole) huK rfl hka) (by assumption) ?_
  simp only [Act.put, List.setIfInBounds_toArray, List.set_cons_zero, List.set_cons_succ]
  refine wpAnyH_take (i := 1) (oi := ⟨some 11, .load 25 (.tmp 4), _, _, _, _⟩) (v := (.agg (keyC b))) rfl (by kernel_rfl) (by kernel_rfl) (by kernel_rfl) (fun _ _ _ h => h) (yieldsIf_load_mid (by rfl) _ _ rfl _ _ rfl _ _ (fun W hW => (HB.out.below hW).whole) huK rfl hkb) (by assumption) ?_
  simp only [Act.put, List.setIfInBounds_toArray, List.set_cons_zero, List.set_cons_succ]
  refine wpAnyH_take (i := 3) (oi := ⟨some 13, .load 25 (.tmp 4), _, _, _, _⟩) (v := (.agg (keyC b))) rfl (by kernel_rfl) (by kernel_rfl) (by kernel_rfl) (fun _ _ _ h => h) (yieldsIf_load_mid (by rfl) _ _ rfl _ _ rfl _ _ (fun W hW => (HB.out.below hW).whole) huK rfl hkb) (by assumption) ?_
  simp only [Act.put, List.setIfInBounds_toArray, List.set_cons_zero, List.set_cons_succ]
  refine wpAnyH_take (i := 4) (oi := ⟨some 14, .load 25 (.tmp 5), _, _, _, _⟩) (v := (.agg (keyC c))) rfl (by kernel_rfl) (by kernel_rfl) (by kernel_rfl) (fun _ _ _ h => h) (yieldsIf_load_mid (by rfl) _ _ rfl _ _ rfl _ _ (fun W hW => (HC.out.below hW).whole) huK rfl hkc) (by assumption) ?_
  simp only [Act.put, List.setIfInBounds_toArray, List.set_cons_zero, List.set_cons_succ]
  refine wpAnyH_take (i := 6) (oi := ⟨some 16, .load 25 (.tmp 3), _, _, _, _⟩) (v := (.agg (keyC a))) rfl (by kernel_rfl) (by kernel_rfl) (by kernel_rfl) (fun _ _ _ h => h) (yieldsIf_load_mid (by rfl) _ _ rfl _ _ rfl _ _ (fun W hW => (HA.out.below hW).whole) huK rfl hka) (by assumption) ?_
  simp only [Act.put, List.setIfInBounds_toArray, List.set_cons_zero, List.set_cons_succ]
  refine wpAnyH_take (i := 7) (oi := ⟨some 17, .load 25 (.tmp 5), _, _, _, _⟩) (v := (.agg (keyC c))) rfl (by kernel_rfl) (by kernel_rfl) (by kernel_rfl) (fun _ _ _ h => h) (yieldsIf_load_mid (by rfl) _ _ rfl _ _ rfl _ _ (fun W hW => (HC.out.below hW).whole) huK rfl hkc) (by assumption) ?_
  simp only [Act.put, List.setIfInBounds_toArray, List.set_cons_zero, List.set_cons_succ]
  refine wpAnyH_ready (rs := [2]) (by kernel_rfl) (by simp) ?_
  refine AllReadyH.cons (o := ⟨some 12, .call { callee := .value (.func 13), args := #[.tmp 10, .tmp 11], argTypes := #[25, 25] }, _, _, _, _⟩) rfl (fun K hK => ?_) AllReadyH.nil
  go_simp
  go_wp2_with (go_at_call 13; go_must (refine (keys_is a b (0) _ HA1.out HB1.out HX.out).mono ?_); rintro e x1 ⟨rfl, hb1⟩; have hS := hS.trans (hb1.mono hS.size))
  refine hK.out _ _ hS (fun hHeld => ?_)
  clear hK K
  refine wpAnyH_ready (rs := [5]) (by kernel_rfl) (by simp) ?_
  refine AllReadyH.cons (o := ⟨some 15, .call { callee := .value (.func 13), args := #[.tmp 13, .tmp 14], argTypes := #[25, 25] }, _, _, _, _⟩) rfl (fun K hK => ?_) AllReadyH.nil
  go_simp
  go_wp2_with (go_at_call 13; go_must (refine (keys_is b c (-1) _ HB1.out HC1.out HY.out).mono ?_); rintro e x2 ⟨rfl, hb2⟩; have hS := hS.trans (hb2.mono hS.size))
  refine hK.out _ _ hS (fun hHeld => ?_)
  clear hK K
  refine wpAnyH_ready (rs := [8]) (by kernel_rfl) (by simp) ?_
  refine AllReadyH.cons (o := ⟨some 18, .call { callee := .value (.func 13), args := #[.tmp 16, .tmp 17], argTypes := #[25, 25] }, _, _, _, _⟩) rfl (fun K hK => ?_) AllReadyH.nil
  go_simp
  go_wp2_with (go_at_call 13; go_must (refine (keys_is a c (-1) _ HA1.out HC1.out HZ.out).mono ?_); rintro e x3 ⟨rfl, hb3⟩; have hS := hS.trans (hb3.mono hS.size))
  refine hK.out _ _ hS (fun hHeld => ?_)
  clear hK K
  refine wpAnyH_take (i := 9) (oi := ⟨some 7, .assign (.tmp 12), _, _, _, _⟩) (v := (.int .i64 (0))) rfl (by kernel_rfl) (by kernel_rfl) (by kernel_rfl) (fun _ _ _ h => h) (Or.inl ⟨by rfl, fun W hW => by go_simp⟩) (by assumption) ?_
  simp only [Act.put, List.setIfInBounds_toArray, List.set_cons_zero, List.set_cons_succ]
  refine wpAnyH_take (i := 10) (oi := ⟨some 8, .assign (.tmp 15), _, _, _, _⟩) (v := (.int .i64 (-1))) rfl (by kernel_rfl) (by kernel_rfl) (by kernel_rfl) (fun _ _ _ h => h) (Or.inl ⟨by rfl, fun W hW => by go_simp⟩) (by assumption) ?_
  simp only [Act.put, List.setIfInBounds_toArray, List.set_cons_zero, List.set_cons_succ]
  refine wpAnyH_take (i := 11) (oi := ⟨some 9, .assign (.tmp 18), _, _, _, _⟩) (v := (.int .i64 (-1))) rfl (by kernel_rfl) (by kernel_rfl) (by kernel_rfl) (fun _ _ _ h => h) (Or.inl ⟨by rfl, fun W hW => by go_simp⟩) (by assumption) ?_
  simp only [Act.put, List.setIfInBounds_toArray, List.set_cons_zero, List.set_cons_succ]
  refine wpAnyH_done (by kernel_rfl) ?_ _
  clear hka hkb hkc
  have HA2 := Lib.hid (HA.out.below hS)
  have HB2 := Lib.hid (HB.out.below hS)
  go_wp2_with (first
    | ((with_reducible show wpList _ _ _ (⟨some 20, _, _, _, _, _⟩ :: _) _ _); refine load_key (wanted_plain rfl) _ rfl _ b rfl HB2.out ?_)
    | ((with_reducible show wpList _ _ _ (⟨some 21, _, _, _, _, _⟩ :: _) _ _); refine load_key (wanted_plain rfl) _ rfl _ a rfl HA2.out ?_)
    | (go_at_call 13; (with_reducible refine (keys_is b a (0) _ HB1.out HA1.out HV.out).mono ?_); rintro e x4 ⟨rfl, hb4⟩; have HA3 := Lib.hid (HA2.out.below hb4); have HB3 := Lib.hid (HB2.out.below hb4); have hS := hS.trans (hb4.mono hS.size))
    | ((with_reducible show wpList _ _ _ (⟨some 28, _, _, _, _, _⟩ :: _) _ _); refine load_key (by rfl) _ rfl _ a rfl HA3.out ?_)
    | ((with_reducible show wpList _ _ _ (⟨some 29, _, _, _, _, _⟩ :: _) _ _); refine load_key (by rfl) _ rfl _ b rfl HB3.out ?_)
    | ((with_reducible show wpList _ _ _ (⟨some 30, _, _, _, _, _⟩ :: _) _ _); refine eql_keys (by rfl) _ _ _ rfl a b HA1.out HB1.out rfl rfl true HQ.out ?_)
    | (go_at_call 15; (with_reducible refine (awake_any _).mono ?_); rintro e x5 ⟨rfl, hb5⟩; have hS := hS.trans (hb5.mono hS.size)))
  go_ret
  exact ⟨rfl, HBL.out.trans (hS.mono HBL.out.size)⟩
#print axioms total_5

set_option maxRecDepth 100000 in
set_option maxHeartbeats 2000000 in
theorem total_6 (a b c : KeyV) (w : World) (ha : a.c.length = 32) (hb : b.c.length = 32) (hc : c.c.length = 32) (hx : (0 : Int) = keyF a b) (hy : (0 : Int) = keyF b c) (hz : (0 : Int) = keyF a c) (hv : (0 : Int) = keyF b a) (hq : true = decide (keyF a b = 0)) :
    Calls Try.prog 8 #[.agg (keyC a), .agg (keyC b), .agg (keyC c)] w fun e w' => e = .returned (.bool true) ∧ Below w.heap.size w w' := by
  obtain ⟨hA, hB, hC⟩ := three_keys w a b c ha hb hc
  have hbel : Below w.heap.size w (((w.alloc (.cells (keyC a) 25)).alloc (.cells (keyC b) 25)).alloc (.cells (keyC c) 25)) := (((Below.refl _ _).alloc (Nat.le_refl _) _).alloc (by simp) _).alloc (by simp; omega) _
  have HA := Lib.hid hA
  have HB := Lib.hid hB
  have HC := Lib.hid hC
  have HA1 := Lib.hid ha
  have HB1 := Lib.hid hb
  have HC1 := Lib.hid hc
  have HBL := Lib.hid hbel
  have HX := Lib.hid hx
  have HY := Lib.hid hy
  have HZ := Lib.hid hz
  have HV := Lib.hid hv
  have HQ := Lib.hid hq
  have huK := Try.underlying25
  have hka : (Try.prog.info? 25).map (·.size) = some (keyL a).length := by rw [keyL_length ha]; kernel_rfl
  have hkb : (Try.prog.info? 25).map (·.size) = some (keyL b).length := by rw [keyL_length hb]; kernel_rfl
  have hkc : (Try.prog.info? 25).map (·.size) = some (keyL c).length := by rw [keyL_length hc]; kernel_rfl
  clear hA hB hC ha hb hc hbel hx hy hz hv hq
  go_enter Try.func8, Try.ntmps8
  go_wp2
  generalize ((w.alloc (.cells (keyC a) 25)).alloc (.cells (keyC b) 25)).alloc (.cells (keyC c) 25) = W0 at HA HB HC HBL ⊢
  have hS : Below W0.heap.size W0 W0.drew := (Below.refl _ _).drew
  refine wp_region_held_drew (S := fun W => Below W0.heap.size W0 W) (by kernel_rfl) hS (fun hHeld => ?_)
  refine wpAnyH_take (i := 0) (oi := ⟨some 10, .load 25 (.tmp 3), _, _, _, _⟩) (v := (.agg (keyC a))) rfl (by kernel_rfl) (by kernel_rfl) (by kernel_rfl) (fun _ _ _ h => h) (yieldsIf_load_mid (by rfl) _ _ rfl _ _ rfl _ _ (fun W hW => (HA.out.below hW).whole) huK rfl hka) (by assumption) ?_
  simp only [Act.put, List.setIfInBounds_toArray, List.set_cons_zero, List.set_cons_succ]
  refine wpAnyH_take (i := 1) (oi := ⟨some 11, .load 25 (.tmp 4), _, _, _, _⟩) (v := (.agg (keyC b))) rfl (by kernel_rfl) (by kernel_rfl) (by kernel_rfl) (fun _ _ _ h => h) (yieldsIf_load_mid (by rfl) _ _ rfl _ _ rfl _ _ (fun W hW => (HB.out.below hW).whole) huK rfl hkb) (by assumption) ?_
  simp only [Act.put, List.setIfInBounds_toArray, List.set_cons_zero, List.set_cons_succ]
  refine wpAnyH_take (i := 3) (oi := ⟨some 13, .load 25 (.tmp 4), _, _, _, _⟩) (v := (.agg (keyC b))) rfl (by kernel_rfl) (by kernel_rfl) (by kernel_rfl) (fun _ _ _ h => h) (yieldsIf_load_mid (by rfl) _ _ rfl _ _ rfl _ _ (fun W hW => (HB.out.below hW).whole) huK rfl hkb) (by assumption) ?_
  simp only [Act.put, List.setIfInBounds_toArray, List.set_cons_zero, List.set_cons_succ]
  refine wpAnyH_take (i := 4) (oi := ⟨some 14, .load 25 (.tmp 5), _, _, _, _⟩) (v := (.agg (keyC c))) rfl (by kernel_rfl) (by kernel_rfl) (by kernel_rfl) (fun _ _ _ h => h) (yieldsIf_load_mid (by rfl) _ _ rfl _ _ rfl _ _ (fun W hW => (HC.out.below hW).whole) huK rfl hkc) (by assumption) ?_
  simp only [Act.put, List.setIfInBounds_toArray, List.set_cons_zero, List.set_cons_succ]
  refine wpAnyH_take (i := 6) (oi := ⟨some 16, .load 25 (.tmp 3), _, _, _, _⟩) (v := (.agg (keyC a))) rfl (by kernel_rfl) (by kernel_rfl) (by kernel_rfl) (fun _ _ _ h => h) (yieldsIf_load_mid (by rfl) _ _ rfl _ _ rfl _ _ (fun W hW => (HA.out.below hW).whole) huK rfl hka) (by assumption) ?_
  simp only [Act.put, List.setIfInBounds_toArray, List.set_cons_zero, List.set_cons_succ]
  refine wpAnyH_take (i := 7) (oi := ⟨some 17, .load 25 (.tmp 5), _, _, _, _⟩) (v := (.agg (keyC c))) rfl (by kernel_rfl) (by kernel_rfl) (by kernel_rfl) (fun _ _ _ h => h) (yieldsIf_load_mid (by rfl) _ _ rfl _ _ rfl _ _ (fun W hW => (HC.out.below hW).whole) huK rfl hkc) (by assumption) ?_
  simp only [Act.put, List.setIfInBounds_toArray, List.set_cons_zero, List.set_cons_succ]
  refine wpAnyH_ready (rs := [2]) (by kernel_rfl) (by simp) ?_
  refine AllReadyH.cons (o := ⟨some 12, .call { callee := .value (.func 13), args := #[.tmp 10, .tmp 11], argTypes := #[25, 25] }, _, _, _, _⟩) rfl (fun K hK => ?_) AllReadyH.nil
  go_simp
  go_wp2_with (go_at_call 13; go_must (refine (keys_is a b (0) _ HA1.out HB1.out HX.out).mono ?_); rintro e x1 ⟨rfl, hb1⟩; have hS := hS.trans (hb1.mono hS.size))
  refine hK.out _ _ hS (fun hHeld => ?_)
  clear hK K
  refine wpAnyH_ready (rs := [5]) (by kernel_rfl) (by simp) ?_
  refine AllReadyH.cons (o := ⟨some 15, .call { callee := .value (.func 13), args := #[.tmp 13, .tmp 14], argTypes := #[25, 25] }, _, _, _, _⟩) rfl (fun K hK => ?_) AllReadyH.nil
  go_simp
  go_wp2_with (go_at_call 13; go_must (refine (keys_is b c (0) _ HB1.out HC1.out HY.out).mono ?_); rintro e x2 ⟨rfl, hb2⟩; have hS := hS.trans (hb2.mono hS.size))
  refine hK.out _ _ hS (fun hHeld => ?_)
  clear hK K
  refine wpAnyH_ready (rs := [8]) (by kernel_rfl) (by simp) ?_
  refine AllReadyH.cons (o := ⟨some 18, .call { callee := .value (.func 13), args := #[.tmp 16, .tmp 17], argTypes := #[25, 25] }, _, _, _, _⟩) rfl (fun K hK => ?_) AllReadyH.nil
  go_simp
  go_wp2_with (go_at_call 13; go_must (refine (keys_is a c (0) _ HA1.out HC1.out HZ.out).mono ?_); rintro e x3 ⟨rfl, hb3⟩; have hS := hS.trans (hb3.mono hS.size))
  refine hK.out _ _ hS (fun hHeld => ?_)
  clear hK K
  refine wpAnyH_take (i := 9) (oi := ⟨some 7, .assign (.tmp 12), _, _, _, _⟩) (v := (.int .i64 (0))) rfl (by kernel_rfl) (by kernel_rfl) (by kernel_rfl) (fun _ _ _ h => h) (Or.inl ⟨by rfl, fun W hW => by go_simp⟩) (by assumption) ?_
  simp only [Act.put, List.setIfInBounds_toArray, List.set_cons_zero, List.set_cons_succ]
  refine wpAnyH_take (i := 10) (oi := ⟨some 8, .assign (.tmp 15), _, _, _, _⟩) (v := (.int .i64 (0))) rfl (by kernel_rfl) (by kernel_rfl) (by kernel_rfl) (fun _ _ _ h => h) (Or.inl ⟨by rfl, fun W hW => by go_simp⟩) (by assumption) ?_
  simp only [Act.put, List.setIfInBounds_toArray, List.set_cons_zero, List.set_cons_succ]
  refine wpAnyH_take (i := 11) (oi := ⟨some 9, .assign (.tmp 18), _, _, _, _⟩) (v := (.int .i64 (0))) rfl (by kernel_rfl) (by kernel_rfl) (by kernel_rfl) (fun _ _ _ h => h) (Or.inl ⟨by rfl, fun W hW => by go_simp⟩) (by assumption) ?_
  simp only [Act.put, List.setIfInBounds_toArray, List.set_cons_zero, List.set_cons_succ]
  refine wpAnyH_done (by kernel_rfl) ?_ _
  clear hka hkb hkc
  have HA2 := Lib.hid (HA.out.below hS)
  have HB2 := Lib.hid (HB.out.below hS)
  go_wp2_with (first
    | ((with_reducible show wpList _ _ _ (⟨some 20, _, _, _, _, _⟩ :: _) _ _); refine load_key (wanted_plain rfl) _ rfl _ b rfl HB2.out ?_)
    | ((with_reducible show wpList _ _ _ (⟨some 21, _, _, _, _, _⟩ :: _) _ _); refine load_key (wanted_plain rfl) _ rfl _ a rfl HA2.out ?_)
    | (go_at_call 13; (with_reducible refine (keys_is b a (0) _ HB1.out HA1.out HV.out).mono ?_); rintro e x4 ⟨rfl, hb4⟩; have HA3 := Lib.hid (HA2.out.below hb4); have HB3 := Lib.hid (HB2.out.below hb4); have hS := hS.trans (hb4.mono hS.size))
    | ((with_reducible show wpList _ _ _ (⟨some 28, _, _, _, _, _⟩ :: _) _ _); refine load_key (by rfl) _ rfl _ a rfl HA3.out ?_)
    | ((with_reducible show wpList _ _ _ (⟨some 29, _, _, _, _, _⟩ :: _) _ _); refine load_key (by rfl) _ rfl _ b rfl HB3.out ?_)
    | ((with_reducible show wpList _ _ _ (⟨some 30, _, _, _, _, _⟩ :: _) _ _); refine eql_keys (by rfl) _ _ _ rfl a b HA1.out HB1.out rfl rfl true HQ.out ?_)
    | (go_at_call 15; (with_reducible refine (awake_any _).mono ?_); rintro e x5 ⟨rfl, hb5⟩; have hS := hS.trans (hb5.mono hS.size)))
  go_ret
  exact ⟨rfl, HBL.out.trans (hS.mono HBL.out.size)⟩
#print axioms total_6

theorem total_any (a b c : KeyV) (w : World) (ha : a.c.length = 32) (hb : b.c.length = 32) (hc : c.c.length = 32) :
    Calls Try.prog 8 #[.agg (keyC a), .agg (keyC b), .agg (keyC c)] w fun e w' => e = .returned (.bool true) ∧ Below w.heap.size w w' := by
  have hr1 := keyF_range a b
  have hr2 := keyF_range b c
  have hv := keyF_anti a b
  have ht : keyF a b ≤ 0 → keyF b c ≤ 0 → keyF a c ≤ 0 ∧ (keyF a c = 0 → keyF a b = 0 ∧ keyF b c = 0) := keyF_trans
  have he : keyF a b = 0 → keyF b c = 0 → keyF a c = 0 := fun h1 h2 => by rw [keyF_eq h1, keyF_eq h2]; exact keyF_self c
  have hr3 := keyF_range a c
  rcases hr1 with h1 | h1 | h1
  · have d1 : false = decide (keyF a b = 0) := by rw [h1]; rfl
    rcases hr2 with h2 | h2 | h2
    · exact total_3 a b c w ha hb hc h1.symm h2.symm (by have := ht (by omega) (by omega); omega) (by omega) d1
    · exact total_4 a b c w ha hb hc h1.symm h2.symm (by have := ht (by omega) (by omega); omega) (by omega) d1
    · exact total_1 a b c _ w ha hb hc h1.symm h2.symm rfl (by omega) d1
  · have d1 : true = decide (keyF a b = 0) := by rw [h1]; rfl
    rcases hr2 with h2 | h2 | h2
    · exact total_5 a b c w ha hb hc h1.symm h2.symm (by have := ht (by omega) (by omega); omega) (by omega) d1
    · exact total_6 a b c w ha hb hc h1.symm h2.symm (by have := he h1 h2; omega) (by omega) d1
    · exact total_2 a b c _ w ha hb hc h1.symm h2.symm rfl (by omega) d1
  · have d1 : false = decide (keyF a b = 0) := by rw [h1]; rfl
    exact total_0 a b c _ _ w ha hb hc h1.symm rfl rfl (by omega) d1
#print axioms total_any
end Go.Proofs.Ytiakbbokmllcdaa
