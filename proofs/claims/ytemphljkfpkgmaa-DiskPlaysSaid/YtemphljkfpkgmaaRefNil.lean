/-
  The reference's calls on a disk that was not made.
-/
import Derived.Test.YtemphljkfpkgmaaRefEnd
namespace Go.Proofs.Ytemphljkfpkgmaa
open Go.RowKit

set_option maxRecDepth 100000 in
set_option maxHeartbeats 1000000 in
theorem refReady_nil (V : RVal) (S : DS) (a b : Nm) (w : World) (hm : V.made = false) :
    Calls Try.prog 34 #[.agg (refC V S), .string (strB a), .string (strB b)] w fun e w' => e = .returned (.int .i64 1) ∧ Below w.heap.size w w' := by
  go_enter Try.func34, Try.ntmps34
  go_wp2_with (refine box_row rfl 31 (.tmp 0) (refL V S) rfl rfl ?_; intro w1 hr1 hb1 _; obtain ⟨k0, k1, k2, k3, k4, k5, k6, k7, k8, k9⟩ := RBox.cells hr1; rw [hm] at k0; have HB := Lib.hid hb1; clear hb1)
  go_ret
  exact ⟨rfl, HB.out⟩
/-- It hands the disk back, and a number. -/
def NilEnd (w : World) (V : RVal) (S : DS) (e : Ending) (w' : World) : Prop := e = .returned (.tuple #[.agg (refC V S), .int .i64 1]) ∧ Below w.heap.size w w'
set_option maxRecDepth 100000 in
set_option maxHeartbeats 1000000 in
theorem refAppend_nil (V : RVal) (S : DS) (s : Nm) (a : Option Addr) (n c : Nat) (w : World) (hm : V.made = false) :
    Calls Try.prog 17 #[.agg (refC V S), .string (strB s), .slice a n c] w (NilEnd w V S) := by
  go_enter Try.func17, Try.ntmps17
  go_wp2_with (first
    | (refine box_row rfl 31 (.tmp 0) (refL V S) rfl rfl ?_; intro w1 hr1 hb1 hs1; have HB1 := Lib.hid hb1; have HR1 := Lib.hid hr1; have HS1 := Lib.hid hs1; clear hb1 hr1 hs1)
    | (refine alloc_row rfl 31 zeroD rfl zero_disk ?_; intro w2 hr2 hb2 hs2; have HB2 := Lib.hid (HB1.out.trans (hb2.mono HB1.out.size)); have HR2 := Lib.hid (RBox.below HR1.out hb2); have HZ2 := Lib.hid hr2; have HNE := Lib.hid (show w1.heap.size ≠ w.heap.size by have := HS1.out; omega); have HW1 := Lib.hid HB1.out.size; clear hr2 hb2 hs2)
    | (refine load_row rfl 31 _ rfl w.heap.size _ (refL V S) _ rfl HR3.out Try.underlying31 rfl infoD ?_)
    | (refine load_row rfl 31 _ rfl w.heap.size _ (refL V S) _ rfl HR2.out Try.underlying31 rfl infoD ?_)
    | (go_at_call 34; (with_reducible refine (refReady_nil V S s s _ hm).mono ?_); rintro e w3 ⟨rfl, hb3⟩; have HB3 := Lib.hid (HB2.out.trans (hb3.mono HB2.out.size)); have HR3 := Lib.hid (RBox.below HR2.out hb3); have HZ3 := Lib.hid (RowAt.below HZ2.out hb3); clear hb3)
    | (refine store_row rfl 31 _ _ rfl w1.heap.size _ zeroD (refL V S) rfl rfl HZ3.out rfl infoD (refL_one _ _) ?_; intro w9 hr9 hg9 _; have HB9 := Lib.hid (HB3.out.grown hg9 HB3.out.size (fun k hk => by cases hk; exact HW1.out))))
  exact bodyPost_ret (results_ref2 rfl _ _ w1.heap.size V S rfl hr9) rfl ⟨rfl, HB9.out⟩
set_option maxRecDepth 100000 in
set_option maxHeartbeats 1000000 in
theorem refSync_nil (V : RVal) (S : DS) (s : Nm) (w : World) (hm : V.made = false) :
    Calls Try.prog 19 #[.agg (refC V S), .string (strB s)] w (NilEnd w V S) := by
  go_enter Try.func19, Try.ntmps19
  go_wp2_with (first
    | (refine box_row rfl 31 (.tmp 0) (refL V S) rfl rfl ?_; intro w1 hr1 hb1 hs1; have HB1 := Lib.hid hb1; have HR1 := Lib.hid hr1; have HS1 := Lib.hid hs1; clear hb1 hr1 hs1)
    | (refine alloc_row rfl 31 zeroD rfl zero_disk ?_; intro w2 hr2 hb2 hs2; have HB2 := Lib.hid (HB1.out.trans (hb2.mono HB1.out.size)); have HR2 := Lib.hid (RBox.below HR1.out hb2); have HZ2 := Lib.hid hr2; have HNE := Lib.hid (show w1.heap.size ≠ w.heap.size by have := HS1.out; omega); have HW1 := Lib.hid HB1.out.size; clear hr2 hb2 hs2)
    | (refine load_row rfl 31 _ rfl w.heap.size _ (refL V S) _ rfl HR3.out Try.underlying31 rfl infoD ?_)
    | (refine load_row rfl 31 _ rfl w.heap.size _ (refL V S) _ rfl HR2.out Try.underlying31 rfl infoD ?_)
    | (go_at_call 34; (with_reducible refine (refReady_nil V S s s _ hm).mono ?_); rintro e w3 ⟨rfl, hb3⟩; have HB3 := Lib.hid (HB2.out.trans (hb3.mono HB2.out.size)); have HR3 := Lib.hid (RBox.below HR2.out hb3); have HZ3 := Lib.hid (RowAt.below HZ2.out hb3); clear hb3)
    | (refine store_row rfl 31 _ _ rfl w1.heap.size _ zeroD (refL V S) rfl rfl HZ3.out rfl infoD (refL_one _ _) ?_; intro w9 hr9 hg9 _; have HB9 := Lib.hid (HB3.out.grown hg9 HB3.out.size (fun k hk => by cases hk; exact HW1.out))))
  exact bodyPost_ret (results_ref2 rfl _ _ w1.heap.size V S rfl hr9) rfl ⟨rfl, HB9.out⟩
set_option maxRecDepth 100000 in
set_option maxHeartbeats 1000000 in
theorem refTurn_nil (V : RVal) (S : DS) (s : Nm) (t : Nm) (w : World) (hm : V.made = false) :
    Calls Try.prog 21 #[.agg (refC V S), .string (strB s), .string (strB t), .bool false] w (NilEnd w V S) := by
  go_enter Try.func21, Try.ntmps21
  go_wp2_with (first
    | (refine box_row rfl 31 (.tmp 0) (refL V S) rfl rfl ?_; intro w1 hr1 hb1 hs1; have HB1 := Lib.hid hb1; have HR1 := Lib.hid hr1; have HS1 := Lib.hid hs1; clear hb1 hr1 hs1)
    | (refine alloc_row rfl 31 zeroD rfl zero_disk ?_; intro w2 hr2 hb2 hs2; have HB2 := Lib.hid (HB1.out.trans (hb2.mono HB1.out.size)); have HR2 := Lib.hid (RBox.below HR1.out hb2); have HZ2 := Lib.hid hr2; have HNE := Lib.hid (show w1.heap.size ≠ w.heap.size by have := HS1.out; omega); have HW1 := Lib.hid HB1.out.size; clear hr2 hb2 hs2)
    | (refine load_row rfl 31 _ rfl w.heap.size _ (refL V S) _ rfl HR3.out Try.underlying31 rfl infoD ?_)
    | (refine load_row rfl 31 _ rfl w.heap.size _ (refL V S) _ rfl HR2.out Try.underlying31 rfl infoD ?_)
    | (go_at_call 34; (with_reducible refine (refReady_nil V S s t _ hm).mono ?_); rintro e w3 ⟨rfl, hb3⟩; have HB3 := Lib.hid (HB2.out.trans (hb3.mono HB2.out.size)); have HR3 := Lib.hid (RBox.below HR2.out hb3); have HZ3 := Lib.hid (RowAt.below HZ2.out hb3); clear hb3)
    | (refine store_row rfl 31 _ _ rfl w1.heap.size _ zeroD (refL V S) rfl rfl HZ3.out rfl infoD (refL_one _ _) ?_; intro w9 hr9 hg9 _; have HB9 := Lib.hid (HB3.out.grown hg9 HB3.out.size (fun k hk => by cases hk; exact HW1.out))))
  exact bodyPost_ret (results_ref2 rfl _ _ w1.heap.size V S rfl hr9) rfl ⟨rfl, HB9.out⟩
set_option maxRecDepth 100000 in
set_option maxHeartbeats 1000000 in
theorem refDrop_nil (V : RVal) (S : DS) (s : Nm) (t : Nm) (w : World) (hm : V.made = false) :
    Calls Try.prog 21 #[.agg (refC V S), .string (strB s), .string (strB t), .bool true] w (NilEnd w V S) := by
  go_enter Try.func21, Try.ntmps21
  go_wp2_with (first
    | (refine box_row rfl 31 (.tmp 0) (refL V S) rfl rfl ?_; intro w1 hr1 hb1 hs1; have HB1 := Lib.hid hb1; have HR1 := Lib.hid hr1; have HS1 := Lib.hid hs1; clear hb1 hr1 hs1)
    | (refine alloc_row rfl 31 zeroD rfl zero_disk ?_; intro w2 hr2 hb2 hs2; have HB2 := Lib.hid (HB1.out.trans (hb2.mono HB1.out.size)); have HR2 := Lib.hid (RBox.below HR1.out hb2); have HZ2 := Lib.hid hr2; have HNE := Lib.hid (show w1.heap.size ≠ w.heap.size by have := HS1.out; omega); have HW1 := Lib.hid HB1.out.size; clear hr2 hb2 hs2)
    | (refine load_row rfl 31 _ rfl w.heap.size _ (refL V S) _ rfl HR3.out Try.underlying31 rfl infoD ?_)
    | (refine load_row rfl 31 _ rfl w.heap.size _ (refL V S) _ rfl HR2.out Try.underlying31 rfl infoD ?_)
    | (go_at_call 34; (with_reducible refine (refReady_nil V S s s _ hm).mono ?_); rintro e w3 ⟨rfl, hb3⟩; have HB3 := Lib.hid (HB2.out.trans (hb3.mono HB2.out.size)); have HR3 := Lib.hid (RBox.below HR2.out hb3); have HZ3 := Lib.hid (RowAt.below HZ2.out hb3); clear hb3)
    | (refine store_row rfl 31 _ _ rfl w1.heap.size _ zeroD (refL V S) rfl rfl HZ3.out rfl infoD (refL_one _ _) ?_; intro w9 hr9 hg9 _; have HB9 := Lib.hid (HB3.out.grown hg9 HB3.out.size (fun k hk => by cases hk; exact HW1.out))))
  exact bodyPost_ret (results_ref2 rfl _ _ w1.heap.size V S rfl hr9) rfl ⟨rfl, HB9.out⟩
set_option maxRecDepth 100000 in
set_option maxHeartbeats 1000000 in
theorem refRead_nil (V : RVal) (S : DS) (s : Nm) (w : World) (hm : V.made = false) :
    Calls Try.prog 24 #[.agg (refC V S), .string (strB s)] w fun e w' => e = .returned (.tuple #[.slice none 0 0, .int .i64 1]) ∧ Below w.heap.size w w' := by
  go_enter Try.func24, Try.ntmps24
  go_wp2_with (first
    | (refine box_row rfl 31 (.tmp 0) (refL V S) rfl rfl ?_; intro w1 hr1 hb1 hs1; have HB1 := Lib.hid hb1; have HR1 := Lib.hid hr1; have HR2 := Lib.hid hr1; have HB2 := Lib.hid hb1; clear hb1 hr1 hs1)
    | (refine load_row rfl 31 _ rfl w.heap.size _ (refL V S) _ rfl HR2.out Try.underlying31 rfl infoD ?_)
    | (go_at_call 34; (with_reducible refine (refReady_nil V S s s _ hm).mono ?_); rintro e w3 ⟨rfl, hb3⟩; have HB3 := Lib.hid (HB2.out.trans (hb3.mono HB2.out.size)); have HR3 := Lib.hid (RBox.below HR2.out hb3); clear hb3))
  go_ret2
  exact ⟨rfl, HB3.out⟩
set_option maxRecDepth 100000 in
set_option maxHeartbeats 1000000 in
theorem refCrash_nil (V : RVal) (S : DS) (a : Option Addr) (n c : Nat) (w : World) (hm : V.made = false) :
    Calls Try.prog 27 #[.agg (refC V S), .slice a n c] w fun e w' => e = .returned (.agg (refC V S)) ∧ Below w.heap.size w w' := by
  go_enter Try.func27, Try.ntmps27
  go_wp2_with (first
    | (refine box_row rfl 31 (.tmp 0) (refL V S) rfl rfl ?_; intro w1 hr1 hb1 hs1; have HB1 := Lib.hid hb1; have HR1 := Lib.hid hr1; have HS1 := Lib.hid hs1; clear hb1 hr1 hs1)
    | (refine alloc_row rfl 31 zeroD rfl zero_disk ?_; intro w2 hr2 hb2 hs2; have HB2 := Lib.hid (HB1.out.trans (hb2.mono HB1.out.size)); have HR2 := Lib.hid (RBox.below HR1.out hb2); have HZ2 := Lib.hid hr2; have HNE := Lib.hid (show w1.heap.size ≠ w.heap.size by have := HS1.out; omega); have HW1 := Lib.hid HB1.out.size; have k0 := (RBox.cells HR2.out).1; rw [hm] at k0; clear hr2 hb2 hs2)
    | (refine load_row rfl 31 _ rfl w.heap.size _ (refL V S) _ rfl HR2.out Try.underlying31 rfl infoD ?_)
    | (refine store_row rfl 31 _ _ rfl w1.heap.size _ zeroD (refL V S) rfl rfl HZ2.out rfl infoD (refL_one _ _) ?_; intro w9 hr9 hg9 _; have HB9 := Lib.hid (HB2.out.grown hg9 HB2.out.size (fun k hk => by cases hk; exact HW1.out))))
  exact bodyPost_ret (results_ref1 rfl _ _ w1.heap.size V S rfl hr9) rfl ⟨rfl, HB9.out⟩
#print axioms refCrash_nil
end Go.Proofs.Ytemphljkfpkgmaa
