/-
 The walk of (Refs).clone: refs in new memory.
-/
import Derived.Test.YthihmlojdopmfaaDoorRfPut
import Derived.Test.YthihmlojdopmfaaDoorGrp1
namespace Go.Proofs.YthihmlojdopmfaaDoor
open Go.RowKit

theorem wl_store_rf {S : RfS} {h a : List UInt8} (ha : a.length = 32) {w : World} {g : Nat} {us : List Value} (hR : RowAt w g REf us) (hl : us.length = 36) {ops : Array Oper} {rest : List Oper} {o : Oper} {ac : Act} {Q : Exit → Act → World → Prop} (hgd : o.guard = none) (x y : Operand) (ho : o.op = .store REf x y)
  (hx : ac.eval x = .pointer (some ⟨g, 0, none⟩)) (hy : ac.eval y = .agg (rfC S h a))
  (hQ : ∀ W, RowAt W g REf (rfL S h a) → w.grownBy W (some g) → wpList Tryd.prog ops Q rest (ac.put o.dst undef) W) : wpList Tryd.prog ops Q (o :: rest) ac w := by
 have hs : (rfC S h a).size = 36 := by unfold rfC; rw [List.size_toArray]; exact rfL_len ha
 have hk : (Tryd.prog.info? REf).map (·.size) = some (rfC S h a).size := by rw [hs]; kernel_rfl
 refine wpList_store_row hgd REf x y ho g (rfC S h a) hx hy REf us.toArray hR hk (by rw [hs]; simpa using hl) ?_ (hQ _ (setRow_heap _ _ us.toArray (rfC S h a) _ _ hR) ?_)
 ·rw [Array.all_eq_true_iff_forall_mem]
  intro v hv
  exact rfL_one S h a v (by simpa [rfC] using hv)
 ·refine ⟨rfl, rfl, rfl, by simp [World.setRow], fun k hk hne => ?_⟩
  unfold World.setRow
  rw [Array.getElem?_modify, if_neg (fun e => hne (by rw [e]))]
theorem Holds.grownOut {w w' : World} {base g : Nat} {T : TypeId} {cs : List Value} {Hs : List Hold} (H : Holds w base Hs) (hg : w.grownBy w' (some g)) (hE : ∀ x ∈ Hs, x.E ≠ T) (hR : RowAt w g T cs) : Holds w' base Hs :=
 ⟨fun x hx => World.ownsRow.kept (H.own x hx) hg (.inr (row_ne hR (H.own x hx) (hE x hx).symm).symm), H.two⟩
theorem len36 {S : RfS} {h a : List UInt8} (ha : a.length = 32) : (rfL S h a).length = 36 := rfL_len ha
def RfFew (S : RfS) : Prop := S.nb ≤ 100000 ∧ S.ng ≤ 100000 ∧ S.nl ≤ 100000

set_option maxRecDepth 100000 in
set_option maxHeartbeats 8000000 in
theorem clone_any (S : RfS) (r : RefsV) (w : World) (h : RfIn w S r) (hn : RfFew S) :
  Calls Tryd.prog 52 #[.agg (rfC S r.head r.at_)] w fun e w' => ∃ S', e = .returned (.agg (rfC S' r.head r.at_)) ∧ RfOwn w' w.heap.size S' r ∧ Below w.heap.size w w' := by
 have HAT := Lib.hid h.at_
 have HCB := Lib.hid (fun W (hW : Below w.heap.size w W) => cloneN_any S.ab S.nb S.cb r.br W (h.below hW).br (Nat.le_trans hn.1 (by decide)))
 have HCG := Lib.hid (fun W (hW : Below w.heap.size w W) => cloneN_any S.ag S.ng S.cg r.tg W (h.below hW).tg (Nat.le_trans hn.2.1 (by decide)))
 have HCL := Lib.hid (fun W (hW : Below w.heap.size w W) => cloneE_any S.al S.nl S.cl r.log W (h.below hW).log (Nat.le_trans hn.2.2 (by decide)))
 obtain ⟨w1, hw1⟩ : ∃ w1, w1 = w.alloc (.cells (rfC S r.head r.at_) REf) := ⟨_, rfl⟩
 obtain ⟨w0, hw0⟩ : ∃ w0, w0 = w1.alloc (.cells (rfC noS [] zId) REf) := ⟨_, rfl⟩
 have hz1 : w1.heap.size = w.heap.size + 1 := by rw [hw1]; simp
 have hb1 : Below w.heap.size w w1 := by rw [hw1]; exact (Below.refl _ _).alloc (Nat.le_refl _) _
 have hb0 : Below w1.heap.size w1 w0 := by rw [hw0]; exact (Below.refl _ _).alloc (Nat.le_refl _) _
 have HB0 : Hid (Below w.heap.size w w0.drew) := Lib.hid (hb1.trans (hb0.mono (by omega))).drew
 have hr1 : RowAt w1 w.heap.size REf (rfL S r.head r.at_) := by rw [hw1]; exact heap_alloc_new w _
 have HR0 : Hid (RowAt w0.drew w.heap.size REf (rfL S r.head r.at_)) := Lib.hid (hr1.below (w' := w0.drew) hb0.drew)
 have HZ0 : Hid (RowAt w0.drew (w.heap.size + 1) REf (rfL noS [] zId)) := Lib.hid (show w0.heap[w.heap.size + 1]? = _ by rw [hw0, ← hz1]; exact heap_alloc_new w1 _)
 have HW1 := Lib.hid hw1
 have HW0 := Lib.hid hw0
 clear h hn hw1 hw0 hz1 hb1 hb0 hr1
 go_enter Tryd.func52, Tryd.ntmps52
 go_wp2
 rw [← HW1.out]
 show Code.wp _ _ _ _ (w1.alloc (.cells (rfC noS [] zId) REf))
 rw [← HW0.out]
 refine wp_region_held_drew (S := fun _ => True) (by kernel_rfl) trivial (fun hHeld => ?_)
 refine tk 0 (mo 3 (.fieldAddr 35 (.tmp 1) 0)) (.pointer (some ⟨w.heap.size, 0, none⟩)) rfl ?_
 refine tk 3 (mo 6 (.fieldAddr 35 (.tmp 1) 1)) (.pointer (some ⟨w.heap.size, 1, none⟩)) rfl ?_
 refine tk 6 (mo 9 (.fieldAddr 35 (.tmp 1) 4)) (.pointer (some ⟨w.heap.size, 35, none⟩)) rfl ?_
 refine rdH [1, 4, 7] ?_
 refine AllReadyH.cons (o := ⟨some 4, .load 33 (.tmp 3), _, _, _, _⟩) rfl (fun K hK => ?_) (AllReadyH.cons (o := ⟨some 7, .load 33 (.tmp 6), _, _, _, _⟩) rfl (fun K hK => ?_) (AllReadyH.cons (o := ⟨some 10, .load 25 (.tmp 9), _, _, _, _⟩) rfl (fun K hK => ?_) AllReadyH.nil))
 ·have hcell := rf_br HR0.out
  go_simp
  clear hcell
  refine hK.out _ _ trivial (fun hHeld => ?_)
  clear hK K
  refine rdH [2, 4, 7] ?_
  refine AllReadyH.cons (o := ⟨some 5, .call { callee := .value (.func 72), args := #[(.tmp 4)], argTypes := #[33] }, _, _, _, _⟩) rfl (fun K hK => ?_) (AllReadyH.cons (o := ⟨some 7, .load 33 (.tmp 6), _, _, _, _⟩) rfl (fun K hK => ?_) (AllReadyH.cons (o := ⟨some 10, .load 25 (.tmp 9), _, _, _, _⟩) rfl (fun K hK => ?_) AllReadyH.nil))
  ·go_simp
   refine (HCB.out _ HB0.out).mono ?_
   rintro e w2 ⟨a2, c2, rfl, ho2, hb2⟩
   have HH2 := Lib.hid (Holds.add (base := w.heap.size) (h := hG rnK NEf (.slice a2 S.nb c2) r.br) Holds.nil ho2.1 hb2 HB0.out.size)
   have HK2 := Lib.hid ho2.2
   have HR2 := Lib.hid (HR0.out.below hb2)
   have HZ2 := Lib.hid (HZ0.out.below hb2)
   have HB2 := thn HB0 hb2
   clear ho2 hb2
   refine hK.out _ _ trivial (fun hHeld => ?_)
   clear hK K
   refine rdH [4, 7] ?_
   refine AllReadyH.cons (o := ⟨some 7, .load 33 (.tmp 6), _, _, _, _⟩) rfl (fun K hK => ?_) (AllReadyH.cons (o := ⟨some 10, .load 25 (.tmp 9), _, _, _, _⟩) rfl (fun K hK => ?_) AllReadyH.nil)
   ·have hcell := rf_tg HR2.out
    go_simp
    clear hcell
    refine hK.out _ _ trivial (fun hHeld => ?_)
    clear hK K
    refine rdH [5, 7] ?_
    refine AllReadyH.cons (o := ⟨some 8, .call { callee := .value (.func 72), args := #[(.tmp 7)], argTypes := #[33] }, _, _, _, _⟩) rfl (fun K hK => ?_) (AllReadyH.cons (o := ⟨some 10, .load 25 (.tmp 9), _, _, _, _⟩) rfl (fun K hK => ?_) AllReadyH.nil)
    ·go_simp
     refine (HCG.out _ HB2.out).mono ?_
     rintro e w5 ⟨a5, c5, rfl, ho5, hb5⟩
     have HH5 := Lib.hid (Holds.add (base := w.heap.size) (h := hG rnK NEf (.slice a5 S.ng c5) r.tg) HH2.out ho5.1 hb5 HB2.out.size)
     have HK5 := Lib.hid ho5.2
     have HR5 := Lib.hid (HR2.out.below hb5)
     have HZ5 := Lib.hid (HZ2.out.below hb5)
     have HB5 := thn HB2 hb5
     clear ho5 hb5
     refine hK.out _ _ trivial (fun hHeld => ?_)
     clear hK K
     refine rdH [7] ?_
     refine AllReadyH.cons (o := ⟨some 10, .load 25 (.tmp 9), _, _, _, _⟩) rfl (fun K hK => ?_) AllReadyH.nil
     have hcell := rf_log HAT.out HR5.out
     go_simp
     clear hcell
     refine hK.out _ _ trivial (fun hHeld => ?_)
     clear hK K
     refine tk 9 (mo 12 (.fieldAddr 35 (.tmp 1) 0)) (.pointer (some ⟨w.heap.size, 0, none⟩)) rfl ?_
     refine rdH [8] ?_
     refine AllReadyH.cons (o := ⟨some 11, .call { callee := .value (.func 73), args := #[(.tmp 10)], argTypes := #[25] }, _, _, _, _⟩) rfl (fun K hK => ?_) AllReadyH.nil
     go_simp
     refine (HCL.out _ HB5.out).mono ?_
     rintro e w8 ⟨a8, c8, rfl, ho8, hb8⟩
     have HH8 := Lib.hid (Holds.add (base := w.heap.size) (h := hG enK EEf (.slice a8 S.nl c8) r.log) HH5.out ho8.1 hb8 HB5.out.size)
     have HK8 := Lib.hid ho8.2
     have HR8 := Lib.hid (HR5.out.below hb8)
     have HZ8 := Lib.hid (HZ5.out.below hb8)
     have HB8 := thn HB5 hb8
     clear ho8 hb8
     refine hK.out _ _ trivial (fun hHeld => ?_)
     clear hK K
     have HO8 := Lib.hid (Holds.perm HH8.out (List.reverse_perm _).symm)
     have NEr3 : ∀ x ∈ [hG rnK NEf (.slice a2 S.nb c2) r.br, hG rnK NEf (.slice a5 S.ng c5) r.tg, hG enK EEf (.slice a8 S.nl c8) r.log], x.E ≠ REf := fun x hx => by simp only [List.mem_cons, List.not_mem_nil, or_false] at hx; rcases hx with rfl | rfl | rfl <;> first | exact NErf | exact EErf
     refine rdH [10] ?_
     refine AllReadyH.cons (o := ⟨none, .store 33 (.tmp 12) (.tmp 5), _, _, _, _⟩) rfl (fun K hK => ?_) AllReadyH.nil
     have hcell := rf_br HR8.out
     have hfz := HR8.out.free 0
     go_simp
     clear hcell hfz
     have HR18 : Hid (RowAt (w8.setCell ⟨w.heap.size, 0, none⟩ (.slice a2 S.nb c2)) w.heap.size REf (rfL { S with ab := a2, cb := c2 } r.head r.at_)) := Lib.hid (HR8.out.set 0 (.slice a2 S.nb c2))
     have HO18 := Lib.hid (holds_setBox HO8.out HR8.out NEr3 0 (.slice a2 S.nb c2))
     have HZ18 := Lib.hid (HZ8.out.other (a := ⟨w.heap.size, 0, none⟩) (Nat.succ_ne_self _) (.slice a2 S.nb c2))
     have HB18 := Lib.hid (HB8.out.setCell (p := ⟨w.heap.size, 0, none⟩) (Nat.le_refl _) (.slice a2 S.nb c2))
     generalize w8.setCell ⟨w.heap.size, 0, none⟩ (.slice a2 S.nb c2) = w18 at HR18 HO18 HZ18 HB18 ⊢
     refine hK.out _ _ trivial (fun hHeld => ?_)
     clear hK K
     refine tk 11 (mo 13 (.fieldAddr 35 (.tmp 1) 1)) (.pointer (some ⟨w.heap.size, 1, none⟩)) rfl ?_
     refine rdH [12] ?_
     refine AllReadyH.cons (o := ⟨none, .store 33 (.tmp 13) (.tmp 8), _, _, _, _⟩) rfl (fun K hK => ?_) AllReadyH.nil
     have hcell := rf_tg HR18.out
     have hfz := HR18.out.free 1
     go_simp
     clear hcell hfz
     have HR19 : Hid (RowAt (w18.setCell ⟨w.heap.size, 1, none⟩ (.slice a5 S.ng c5)) w.heap.size REf (rfL { S with ab := a2, cb := c2, ag := a5, cg := c5 } r.head r.at_)) := Lib.hid (HR18.out.set 1 (.slice a5 S.ng c5))
     have HO19 := Lib.hid (holds_setBox HO18.out HR18.out NEr3 1 (.slice a5 S.ng c5))
     have HZ19 := Lib.hid (HZ18.out.other (a := ⟨w.heap.size, 1, none⟩) (Nat.succ_ne_self _) (.slice a5 S.ng c5))
     have HB19 := Lib.hid (HB18.out.setCell (p := ⟨w.heap.size, 1, none⟩) (Nat.le_refl _) (.slice a5 S.ng c5))
     generalize w18.setCell ⟨w.heap.size, 1, none⟩ (.slice a5 S.ng c5) = w19 at HR19 HO19 HZ19 HB19 ⊢
     refine hK.out _ _ trivial (fun hHeld => ?_)
     clear hK K
     refine tk 13 (mo 14 (.fieldAddr 35 (.tmp 1) 4)) (.pointer (some ⟨w.heap.size, 35, none⟩)) rfl ?_
     refine rdH [14] ?_
     refine AllReadyH.cons (o := ⟨none, .store 25 (.tmp 14) (.tmp 11), _, _, _, _⟩) rfl (fun K hK => ?_) AllReadyH.nil
     have hcell := rf_log HAT.out HR19.out
     have hfz := HR19.out.free 35
     go_simp
     clear hcell hfz
     have hrow := HR19.out.set 35 (.slice a8 S.nl c8)
     rw [rfL_log ({ S with ab := a2, cb := c2, ag := a5, cg := c5 }) r.head r.at_ HAT.out] at hrow
     have HR20 : Hid (RowAt (w19.setCell ⟨w.heap.size, 35, none⟩ (.slice a8 S.nl c8)) w.heap.size REf (rfL { S with ab := a2, cb := c2, ag := a5, cg := c5, al := a8, cl := c8 } r.head r.at_)) := Lib.hid hrow
     have HO20 := Lib.hid (holds_setBox HO19.out HR19.out NEr3 35 (.slice a8 S.nl c8))
     have HZ20 := Lib.hid (HZ19.out.other (a := ⟨w.heap.size, 35, none⟩) (Nat.succ_ne_self _) (.slice a8 S.nl c8))
     have HB20 := Lib.hid (HB19.out.setCell (p := ⟨w.heap.size, 35, none⟩) (Nat.le_refl _) (.slice a8 S.nl c8))
     generalize w19.setCell ⟨w.heap.size, 35, none⟩ (.slice a8 S.nl c8) = w20 at HR20 HO20 HZ20 HB20 ⊢
     refine hK.out _ _ trivial (fun hHeld => ?_)
     clear hK K
     refine wpAnyH_done (by kernel_rfl) ?_ _
     go_wp2_with (first
      | ((with_reducible refine atS 15 ?_); go_must (refine wl_ex rfl (exec_loadRf _ rfl _ { S with ab := a2, cb := c2, ag := a5, cg := c5, al := a8, cl := c8 } r.head r.at_ HAT.out rfl HR20.out) ?_))
      | ((with_reducible refine atT 2 ?_); go_must (refine wl_store_rf (S := { S with ab := a2, cb := c2, ag := a5, cg := c5, al := a8, cl := c8 }) (h := r.head) (a := r.at_) HAT.out HZ20.out (len36 rfl) rfl _ _ rfl rfl rfl ?_); intro w21 hr21 hg21; have HR21 := Lib.hid hr21; have HG21 := Lib.hid hg21; clear hr21 hg21))
     refine bodyPost_ret (results_row rfl _ _ (w.heap.size + 1) REf (rfL { S with ab := a2, cb := c2, ag := a5, cg := c5, al := a8, cl := c8 } r.head r.at_) _ rfl HR21.out Tryd.underlying35 rfl (size36 HAT.out)) rfl ?_
     refine ⟨{ S with ab := a2, cb := c2, ag := a5, cg := c5, al := a8, cl := c8 }, rfl, ⟨HO20.out.grownOut HG21.out NEr3 HZ20.out, HK2.out, HK5.out, HK8.out, HAT.out⟩, HB20.out.grown HG21.out HB20.out.size (fun k hk => by cases hk; omega)⟩
    ·have hcell := rf_log HAT.out HR2.out
     go_simp
     clear hcell
     refine hK.out _ _ trivial (fun hHeld => ?_)
     clear hK K
     refine tk 9 (mo 12 (.fieldAddr 35 (.tmp 1) 0)) (.pointer (some ⟨w.heap.size, 0, none⟩)) rfl ?_
     refine rdH [5] ?_
     refine AllReadyH.cons (o := ⟨some 8, .call { callee := .value (.func 72), args := #[(.tmp 7)], argTypes := #[33] }, _, _, _, _⟩) rfl (fun K hK => ?_) AllReadyH.nil
     go_simp
     refine (HCG.out _ HB2.out).mono ?_
     rintro e w5 ⟨a5, c5, rfl, ho5, hb5⟩
     have HH5 := Lib.hid (Holds.add (base := w.heap.size) (h := hG rnK NEf (.slice a5 S.ng c5) r.tg) HH2.out ho5.1 hb5 HB2.out.size)
     have HK5 := Lib.hid ho5.2
     have HR5 := Lib.hid (HR2.out.below hb5)
     have HZ5 := Lib.hid (HZ2.out.below hb5)
     have HB5 := thn HB2 hb5
     clear ho5 hb5
     refine hK.out _ _ trivial (fun hHeld => ?_)
     clear hK K
     refine rdH [8] ?_
     refine AllReadyH.cons (o := ⟨some 11, .call { callee := .value (.func 73), args := #[(.tmp 10)], argTypes := #[25] }, _, _, _, _⟩) rfl (fun K hK => ?_) AllReadyH.nil
     go_simp
     refine (HCL.out _ HB5.out).mono ?_
     rintro e w8 ⟨a8, c8, rfl, ho8, hb8⟩
     have HH8 := Lib.hid (Holds.add (base := w.heap.size) (h := hG enK EEf (.slice a8 S.nl c8) r.log) HH5.out ho8.1 hb8 HB5.out.size)
     have HK8 := Lib.hid ho8.2
     have HR8 := Lib.hid (HR5.out.below hb8)
     have HZ8 := Lib.hid (HZ5.out.below hb8)
     have HB8 := thn HB5 hb8
     clear ho8 hb8
     refine hK.out _ _ trivial (fun hHeld => ?_)
     clear hK K
     have HO8 := Lib.hid (Holds.perm HH8.out (List.reverse_perm _).symm)
     have NEr3 : ∀ x ∈ [hG rnK NEf (.slice a2 S.nb c2) r.br, hG rnK NEf (.slice a5 S.ng c5) r.tg, hG enK EEf (.slice a8 S.nl c8) r.log], x.E ≠ REf := fun x hx => by simp only [List.mem_cons, List.not_mem_nil, or_false] at hx; rcases hx with rfl | rfl | rfl <;> first | exact NErf | exact EErf
     refine rdH [10] ?_
     refine AllReadyH.cons (o := ⟨none, .store 33 (.tmp 12) (.tmp 5), _, _, _, _⟩) rfl (fun K hK => ?_) AllReadyH.nil
     have hcell := rf_br HR8.out
     have hfz := HR8.out.free 0
     go_simp
     clear hcell hfz
     have HR18 : Hid (RowAt (w8.setCell ⟨w.heap.size, 0, none⟩ (.slice a2 S.nb c2)) w.heap.size REf (rfL { S with ab := a2, cb := c2 } r.head r.at_)) := Lib.hid (HR8.out.set 0 (.slice a2 S.nb c2))
     have HO18 := Lib.hid (holds_setBox HO8.out HR8.out NEr3 0 (.slice a2 S.nb c2))
     have HZ18 := Lib.hid (HZ8.out.other (a := ⟨w.heap.size, 0, none⟩) (Nat.succ_ne_self _) (.slice a2 S.nb c2))
     have HB18 := Lib.hid (HB8.out.setCell (p := ⟨w.heap.size, 0, none⟩) (Nat.le_refl _) (.slice a2 S.nb c2))
     generalize w8.setCell ⟨w.heap.size, 0, none⟩ (.slice a2 S.nb c2) = w18 at HR18 HO18 HZ18 HB18 ⊢
     refine hK.out _ _ trivial (fun hHeld => ?_)
     clear hK K
     refine tk 11 (mo 13 (.fieldAddr 35 (.tmp 1) 1)) (.pointer (some ⟨w.heap.size, 1, none⟩)) rfl ?_
     refine rdH [12] ?_
     refine AllReadyH.cons (o := ⟨none, .store 33 (.tmp 13) (.tmp 8), _, _, _, _⟩) rfl (fun K hK => ?_) AllReadyH.nil
     have hcell := rf_tg HR18.out
     have hfz := HR18.out.free 1
     go_simp
     clear hcell hfz
     have HR19 : Hid (RowAt (w18.setCell ⟨w.heap.size, 1, none⟩ (.slice a5 S.ng c5)) w.heap.size REf (rfL { S with ab := a2, cb := c2, ag := a5, cg := c5 } r.head r.at_)) := Lib.hid (HR18.out.set 1 (.slice a5 S.ng c5))
     have HO19 := Lib.hid (holds_setBox HO18.out HR18.out NEr3 1 (.slice a5 S.ng c5))
     have HZ19 := Lib.hid (HZ18.out.other (a := ⟨w.heap.size, 1, none⟩) (Nat.succ_ne_self _) (.slice a5 S.ng c5))
     have HB19 := Lib.hid (HB18.out.setCell (p := ⟨w.heap.size, 1, none⟩) (Nat.le_refl _) (.slice a5 S.ng c5))
     generalize w18.setCell ⟨w.heap.size, 1, none⟩ (.slice a5 S.ng c5) = w19 at HR19 HO19 HZ19 HB19 ⊢
     refine hK.out _ _ trivial (fun hHeld => ?_)
     clear hK K
     refine tk 13 (mo 14 (.fieldAddr 35 (.tmp 1) 4)) (.pointer (some ⟨w.heap.size, 35, none⟩)) rfl ?_
     refine rdH [14] ?_
     refine AllReadyH.cons (o := ⟨none, .store 25 (.tmp 14) (.tmp 11), _, _, _, _⟩) rfl (fun K hK => ?_) AllReadyH.nil
     have hcell := rf_log HAT.out HR19.out
     have hfz := HR19.out.free 35
     go_simp
     clear hcell hfz
     have hrow := HR19.out.set 35 (.slice a8 S.nl c8)
     rw [rfL_log ({ S with ab := a2, cb := c2, ag := a5, cg := c5 }) r.head r.at_ HAT.out] at hrow
     have HR20 : Hid (RowAt (w19.setCell ⟨w.heap.size, 35, none⟩ (.slice a8 S.nl c8)) w.heap.size REf (rfL { S with ab := a2, cb := c2, ag := a5, cg := c5, al := a8, cl := c8 } r.head r.at_)) := Lib.hid hrow
     have HO20 := Lib.hid (holds_setBox HO19.out HR19.out NEr3 35 (.slice a8 S.nl c8))
     have HZ20 := Lib.hid (HZ19.out.other (a := ⟨w.heap.size, 35, none⟩) (Nat.succ_ne_self _) (.slice a8 S.nl c8))
     have HB20 := Lib.hid (HB19.out.setCell (p := ⟨w.heap.size, 35, none⟩) (Nat.le_refl _) (.slice a8 S.nl c8))
     generalize w19.setCell ⟨w.heap.size, 35, none⟩ (.slice a8 S.nl c8) = w20 at HR20 HO20 HZ20 HB20 ⊢
     refine hK.out _ _ trivial (fun hHeld => ?_)
     clear hK K
     refine wpAnyH_done (by kernel_rfl) ?_ _
     go_wp2_with (first
      | ((with_reducible refine atS 15 ?_); go_must (refine wl_ex rfl (exec_loadRf _ rfl _ { S with ab := a2, cb := c2, ag := a5, cg := c5, al := a8, cl := c8 } r.head r.at_ HAT.out rfl HR20.out) ?_))
      | ((with_reducible refine atT 2 ?_); go_must (refine wl_store_rf (S := { S with ab := a2, cb := c2, ag := a5, cg := c5, al := a8, cl := c8 }) (h := r.head) (a := r.at_) HAT.out HZ20.out (len36 rfl) rfl _ _ rfl rfl rfl ?_); intro w21 hr21 hg21; have HR21 := Lib.hid hr21; have HG21 := Lib.hid hg21; clear hr21 hg21))
     refine bodyPost_ret (results_row rfl _ _ (w.heap.size + 1) REf (rfL { S with ab := a2, cb := c2, ag := a5, cg := c5, al := a8, cl := c8 } r.head r.at_) _ rfl HR21.out Tryd.underlying35 rfl (size36 HAT.out)) rfl ?_
     refine ⟨{ S with ab := a2, cb := c2, ag := a5, cg := c5, al := a8, cl := c8 }, rfl, ⟨HO20.out.grownOut HG21.out NEr3 HZ20.out, HK2.out, HK5.out, HK8.out, HAT.out⟩, HB20.out.grown HG21.out HB20.out.size (fun k hk => by cases hk; omega)⟩
   ·have hcell := rf_log HAT.out HR2.out
    go_simp
    clear hcell
    refine hK.out _ _ trivial (fun hHeld => ?_)
    clear hK K
    refine rdH [4] ?_
    refine AllReadyH.cons (o := ⟨some 7, .load 33 (.tmp 6), _, _, _, _⟩) rfl (fun K hK => ?_) AllReadyH.nil
    have hcell := rf_tg HR2.out
    go_simp
    clear hcell
    refine hK.out _ _ trivial (fun hHeld => ?_)
    clear hK K
    refine tk 9 (mo 12 (.fieldAddr 35 (.tmp 1) 0)) (.pointer (some ⟨w.heap.size, 0, none⟩)) rfl ?_
    refine rdH [5] ?_
    refine AllReadyH.cons (o := ⟨some 8, .call { callee := .value (.func 72), args := #[(.tmp 7)], argTypes := #[33] }, _, _, _, _⟩) rfl (fun K hK => ?_) AllReadyH.nil
    go_simp
    refine (HCG.out _ HB2.out).mono ?_
    rintro e w5 ⟨a5, c5, rfl, ho5, hb5⟩
    have HH5 := Lib.hid (Holds.add (base := w.heap.size) (h := hG rnK NEf (.slice a5 S.ng c5) r.tg) HH2.out ho5.1 hb5 HB2.out.size)
    have HK5 := Lib.hid ho5.2
    have HR5 := Lib.hid (HR2.out.below hb5)
    have HZ5 := Lib.hid (HZ2.out.below hb5)
    have HB5 := thn HB2 hb5
    clear ho5 hb5
    refine hK.out _ _ trivial (fun hHeld => ?_)
    clear hK K
    refine rdH [8] ?_
    refine AllReadyH.cons (o := ⟨some 11, .call { callee := .value (.func 73), args := #[(.tmp 10)], argTypes := #[25] }, _, _, _, _⟩) rfl (fun K hK => ?_) AllReadyH.nil
    go_simp
    refine (HCL.out _ HB5.out).mono ?_
    rintro e w8 ⟨a8, c8, rfl, ho8, hb8⟩
    have HH8 := Lib.hid (Holds.add (base := w.heap.size) (h := hG enK EEf (.slice a8 S.nl c8) r.log) HH5.out ho8.1 hb8 HB5.out.size)
    have HK8 := Lib.hid ho8.2
    have HR8 := Lib.hid (HR5.out.below hb8)
    have HZ8 := Lib.hid (HZ5.out.below hb8)
    have HB8 := thn HB5 hb8
    clear ho8 hb8
    refine hK.out _ _ trivial (fun hHeld => ?_)
    clear hK K
    have HO8 := Lib.hid (Holds.perm HH8.out (List.reverse_perm _).symm)
    have NEr3 : ∀ x ∈ [hG rnK NEf (.slice a2 S.nb c2) r.br, hG rnK NEf (.slice a5 S.ng c5) r.tg, hG enK EEf (.slice a8 S.nl c8) r.log], x.E ≠ REf := fun x hx => by simp only [List.mem_cons, List.not_mem_nil, or_false] at hx; rcases hx with rfl | rfl | rfl <;> first | exact NErf | exact EErf
    refine rdH [10] ?_
    refine AllReadyH.cons (o := ⟨none, .store 33 (.tmp 12) (.tmp 5), _, _, _, _⟩) rfl (fun K hK => ?_) AllReadyH.nil
    have hcell := rf_br HR8.out
    have hfz := HR8.out.free 0
    go_simp
    clear hcell hfz
    have HR18 : Hid (RowAt (w8.setCell ⟨w.heap.size, 0, none⟩ (.slice a2 S.nb c2)) w.heap.size REf (rfL { S with ab := a2, cb := c2 } r.head r.at_)) := Lib.hid (HR8.out.set 0 (.slice a2 S.nb c2))
    have HO18 := Lib.hid (holds_setBox HO8.out HR8.out NEr3 0 (.slice a2 S.nb c2))
    have HZ18 := Lib.hid (HZ8.out.other (a := ⟨w.heap.size, 0, none⟩) (Nat.succ_ne_self _) (.slice a2 S.nb c2))
    have HB18 := Lib.hid (HB8.out.setCell (p := ⟨w.heap.size, 0, none⟩) (Nat.le_refl _) (.slice a2 S.nb c2))
    generalize w8.setCell ⟨w.heap.size, 0, none⟩ (.slice a2 S.nb c2) = w18 at HR18 HO18 HZ18 HB18 ⊢
    refine hK.out _ _ trivial (fun hHeld => ?_)
    clear hK K
    refine tk 11 (mo 13 (.fieldAddr 35 (.tmp 1) 1)) (.pointer (some ⟨w.heap.size, 1, none⟩)) rfl ?_
    refine rdH [12] ?_
    refine AllReadyH.cons (o := ⟨none, .store 33 (.tmp 13) (.tmp 8), _, _, _, _⟩) rfl (fun K hK => ?_) AllReadyH.nil
    have hcell := rf_tg HR18.out
    have hfz := HR18.out.free 1
    go_simp
    clear hcell hfz
    have HR19 : Hid (RowAt (w18.setCell ⟨w.heap.size, 1, none⟩ (.slice a5 S.ng c5)) w.heap.size REf (rfL { S with ab := a2, cb := c2, ag := a5, cg := c5 } r.head r.at_)) := Lib.hid (HR18.out.set 1 (.slice a5 S.ng c5))
    have HO19 := Lib.hid (holds_setBox HO18.out HR18.out NEr3 1 (.slice a5 S.ng c5))
    have HZ19 := Lib.hid (HZ18.out.other (a := ⟨w.heap.size, 1, none⟩) (Nat.succ_ne_self _) (.slice a5 S.ng c5))
    have HB19 := Lib.hid (HB18.out.setCell (p := ⟨w.heap.size, 1, none⟩) (Nat.le_refl _) (.slice a5 S.ng c5))
    generalize w18.setCell ⟨w.heap.size, 1, none⟩ (.slice a5 S.ng c5) = w19 at HR19 HO19 HZ19 HB19 ⊢
    refine hK.out _ _ trivial (fun hHeld => ?_)
    clear hK K
    refine tk 13 (mo 14 (.fieldAddr 35 (.tmp 1) 4)) (.pointer (some ⟨w.heap.size, 35, none⟩)) rfl ?_
    refine rdH [14] ?_
    refine AllReadyH.cons (o := ⟨none, .store 25 (.tmp 14) (.tmp 11), _, _, _, _⟩) rfl (fun K hK => ?_) AllReadyH.nil
    have hcell := rf_log HAT.out HR19.out
    have hfz := HR19.out.free 35
    go_simp
    clear hcell hfz
    have hrow := HR19.out.set 35 (.slice a8 S.nl c8)
    rw [rfL_log ({ S with ab := a2, cb := c2, ag := a5, cg := c5 }) r.head r.at_ HAT.out] at hrow
    have HR20 : Hid (RowAt (w19.setCell ⟨w.heap.size, 35, none⟩ (.slice a8 S.nl c8)) w.heap.size REf (rfL { S with ab := a2, cb := c2, ag := a5, cg := c5, al := a8, cl := c8 } r.head r.at_)) := Lib.hid hrow
    have HO20 := Lib.hid (holds_setBox HO19.out HR19.out NEr3 35 (.slice a8 S.nl c8))
    have HZ20 := Lib.hid (HZ19.out.other (a := ⟨w.heap.size, 35, none⟩) (Nat.succ_ne_self _) (.slice a8 S.nl c8))
    have HB20 := Lib.hid (HB19.out.setCell (p := ⟨w.heap.size, 35, none⟩) (Nat.le_refl _) (.slice a8 S.nl c8))
    generalize w19.setCell ⟨w.heap.size, 35, none⟩ (.slice a8 S.nl c8) = w20 at HR20 HO20 HZ20 HB20 ⊢
    refine hK.out _ _ trivial (fun hHeld => ?_)
    clear hK K
    refine wpAnyH_done (by kernel_rfl) ?_ _
    go_wp2_with (first
     | ((with_reducible refine atS 15 ?_); go_must (refine wl_ex rfl (exec_loadRf _ rfl _ { S with ab := a2, cb := c2, ag := a5, cg := c5, al := a8, cl := c8 } r.head r.at_ HAT.out rfl HR20.out) ?_))
     | ((with_reducible refine atT 2 ?_); go_must (refine wl_store_rf (S := { S with ab := a2, cb := c2, ag := a5, cg := c5, al := a8, cl := c8 }) (h := r.head) (a := r.at_) HAT.out HZ20.out (len36 rfl) rfl _ _ rfl rfl rfl ?_); intro w21 hr21 hg21; have HR21 := Lib.hid hr21; have HG21 := Lib.hid hg21; clear hr21 hg21))
    refine bodyPost_ret (results_row rfl _ _ (w.heap.size + 1) REf (rfL { S with ab := a2, cb := c2, ag := a5, cg := c5, al := a8, cl := c8 } r.head r.at_) _ rfl HR21.out Tryd.underlying35 rfl (size36 HAT.out)) rfl ?_
    refine ⟨{ S with ab := a2, cb := c2, ag := a5, cg := c5, al := a8, cl := c8 }, rfl, ⟨HO20.out.grownOut HG21.out NEr3 HZ20.out, HK2.out, HK5.out, HK8.out, HAT.out⟩, HB20.out.grown HG21.out HB20.out.size (fun k hk => by cases hk; omega)⟩
  ·have hcell := rf_tg HR0.out
   go_simp
   clear hcell
   refine hK.out _ _ trivial (fun hHeld => ?_)
   clear hK K
   refine rdH [2, 7] ?_
   refine AllReadyH.cons (o := ⟨some 5, .call { callee := .value (.func 72), args := #[(.tmp 4)], argTypes := #[33] }, _, _, _, _⟩) rfl (fun K hK => ?_) (AllReadyH.cons (o := ⟨some 10, .load 25 (.tmp 9), _, _, _, _⟩) rfl (fun K hK => ?_) AllReadyH.nil)
   ·go_simp
    refine (HCB.out _ HB0.out).mono ?_
    rintro e w2 ⟨a2, c2, rfl, ho2, hb2⟩
    have HH2 := Lib.hid (Holds.add (base := w.heap.size) (h := hG rnK NEf (.slice a2 S.nb c2) r.br) Holds.nil ho2.1 hb2 HB0.out.size)
    have HK2 := Lib.hid ho2.2
    have HR2 := Lib.hid (HR0.out.below hb2)
    have HZ2 := Lib.hid (HZ0.out.below hb2)
    have HB2 := thn HB0 hb2
    clear ho2 hb2
    refine hK.out _ _ trivial (fun hHeld => ?_)
    clear hK K
    refine rdH [5, 7] ?_
    refine AllReadyH.cons (o := ⟨some 8, .call { callee := .value (.func 72), args := #[(.tmp 7)], argTypes := #[33] }, _, _, _, _⟩) rfl (fun K hK => ?_) (AllReadyH.cons (o := ⟨some 10, .load 25 (.tmp 9), _, _, _, _⟩) rfl (fun K hK => ?_) AllReadyH.nil)
    ·go_simp
     refine (HCG.out _ HB2.out).mono ?_
     rintro e w5 ⟨a5, c5, rfl, ho5, hb5⟩
     have HH5 := Lib.hid (Holds.add (base := w.heap.size) (h := hG rnK NEf (.slice a5 S.ng c5) r.tg) HH2.out ho5.1 hb5 HB2.out.size)
     have HK5 := Lib.hid ho5.2
     have HR5 := Lib.hid (HR2.out.below hb5)
     have HZ5 := Lib.hid (HZ2.out.below hb5)
     have HB5 := thn HB2 hb5
     clear ho5 hb5
     refine hK.out _ _ trivial (fun hHeld => ?_)
     clear hK K
     refine rdH [7] ?_
     refine AllReadyH.cons (o := ⟨some 10, .load 25 (.tmp 9), _, _, _, _⟩) rfl (fun K hK => ?_) AllReadyH.nil
     have hcell := rf_log HAT.out HR5.out
     go_simp
     clear hcell
     refine hK.out _ _ trivial (fun hHeld => ?_)
     clear hK K
     refine tk 9 (mo 12 (.fieldAddr 35 (.tmp 1) 0)) (.pointer (some ⟨w.heap.size, 0, none⟩)) rfl ?_
     refine rdH [8] ?_
     refine AllReadyH.cons (o := ⟨some 11, .call { callee := .value (.func 73), args := #[(.tmp 10)], argTypes := #[25] }, _, _, _, _⟩) rfl (fun K hK => ?_) AllReadyH.nil
     go_simp
     refine (HCL.out _ HB5.out).mono ?_
     rintro e w8 ⟨a8, c8, rfl, ho8, hb8⟩
     have HH8 := Lib.hid (Holds.add (base := w.heap.size) (h := hG enK EEf (.slice a8 S.nl c8) r.log) HH5.out ho8.1 hb8 HB5.out.size)
     have HK8 := Lib.hid ho8.2
     have HR8 := Lib.hid (HR5.out.below hb8)
     have HZ8 := Lib.hid (HZ5.out.below hb8)
     have HB8 := thn HB5 hb8
     clear ho8 hb8
     refine hK.out _ _ trivial (fun hHeld => ?_)
     clear hK K
     have HO8 := Lib.hid (Holds.perm HH8.out (List.reverse_perm _).symm)
     have NEr3 : ∀ x ∈ [hG rnK NEf (.slice a2 S.nb c2) r.br, hG rnK NEf (.slice a5 S.ng c5) r.tg, hG enK EEf (.slice a8 S.nl c8) r.log], x.E ≠ REf := fun x hx => by simp only [List.mem_cons, List.not_mem_nil, or_false] at hx; rcases hx with rfl | rfl | rfl <;> first | exact NErf | exact EErf
     refine rdH [10] ?_
     refine AllReadyH.cons (o := ⟨none, .store 33 (.tmp 12) (.tmp 5), _, _, _, _⟩) rfl (fun K hK => ?_) AllReadyH.nil
     have hcell := rf_br HR8.out
     have hfz := HR8.out.free 0
     go_simp
     clear hcell hfz
     have HR18 : Hid (RowAt (w8.setCell ⟨w.heap.size, 0, none⟩ (.slice a2 S.nb c2)) w.heap.size REf (rfL { S with ab := a2, cb := c2 } r.head r.at_)) := Lib.hid (HR8.out.set 0 (.slice a2 S.nb c2))
     have HO18 := Lib.hid (holds_setBox HO8.out HR8.out NEr3 0 (.slice a2 S.nb c2))
     have HZ18 := Lib.hid (HZ8.out.other (a := ⟨w.heap.size, 0, none⟩) (Nat.succ_ne_self _) (.slice a2 S.nb c2))
     have HB18 := Lib.hid (HB8.out.setCell (p := ⟨w.heap.size, 0, none⟩) (Nat.le_refl _) (.slice a2 S.nb c2))
     generalize w8.setCell ⟨w.heap.size, 0, none⟩ (.slice a2 S.nb c2) = w18 at HR18 HO18 HZ18 HB18 ⊢
     refine hK.out _ _ trivial (fun hHeld => ?_)
     clear hK K
     refine tk 11 (mo 13 (.fieldAddr 35 (.tmp 1) 1)) (.pointer (some ⟨w.heap.size, 1, none⟩)) rfl ?_
     refine rdH [12] ?_
     refine AllReadyH.cons (o := ⟨none, .store 33 (.tmp 13) (.tmp 8), _, _, _, _⟩) rfl (fun K hK => ?_) AllReadyH.nil
     have hcell := rf_tg HR18.out
     have hfz := HR18.out.free 1
     go_simp
     clear hcell hfz
     have HR19 : Hid (RowAt (w18.setCell ⟨w.heap.size, 1, none⟩ (.slice a5 S.ng c5)) w.heap.size REf (rfL { S with ab := a2, cb := c2, ag := a5, cg := c5 } r.head r.at_)) := Lib.hid (HR18.out.set 1 (.slice a5 S.ng c5))
     have HO19 := Lib.hid (holds_setBox HO18.out HR18.out NEr3 1 (.slice a5 S.ng c5))
     have HZ19 := Lib.hid (HZ18.out.other (a := ⟨w.heap.size, 1, none⟩) (Nat.succ_ne_self _) (.slice a5 S.ng c5))
     have HB19 := Lib.hid (HB18.out.setCell (p := ⟨w.heap.size, 1, none⟩) (Nat.le_refl _) (.slice a5 S.ng c5))
     generalize w18.setCell ⟨w.heap.size, 1, none⟩ (.slice a5 S.ng c5) = w19 at HR19 HO19 HZ19 HB19 ⊢
     refine hK.out _ _ trivial (fun hHeld => ?_)
     clear hK K
     refine tk 13 (mo 14 (.fieldAddr 35 (.tmp 1) 4)) (.pointer (some ⟨w.heap.size, 35, none⟩)) rfl ?_
     refine rdH [14] ?_
     refine AllReadyH.cons (o := ⟨none, .store 25 (.tmp 14) (.tmp 11), _, _, _, _⟩) rfl (fun K hK => ?_) AllReadyH.nil
     have hcell := rf_log HAT.out HR19.out
     have hfz := HR19.out.free 35
     go_simp
     clear hcell hfz
     have hrow := HR19.out.set 35 (.slice a8 S.nl c8)
     rw [rfL_log ({ S with ab := a2, cb := c2, ag := a5, cg := c5 }) r.head r.at_ HAT.out] at hrow
     have HR20 : Hid (RowAt (w19.setCell ⟨w.heap.size, 35, none⟩ (.slice a8 S.nl c8)) w.heap.size REf (rfL { S with ab := a2, cb := c2, ag := a5, cg := c5, al := a8, cl := c8 } r.head r.at_)) := Lib.hid hrow
     have HO20 := Lib.hid (holds_setBox HO19.out HR19.out NEr3 35 (.slice a8 S.nl c8))
     have HZ20 := Lib.hid (HZ19.out.other (a := ⟨w.heap.size, 35, none⟩) (Nat.succ_ne_self _) (.slice a8 S.nl c8))
     have HB20 := Lib.hid (HB19.out.setCell (p := ⟨w.heap.size, 35, none⟩) (Nat.le_refl _) (.slice a8 S.nl c8))
     generalize w19.setCell ⟨w.heap.size, 35, none⟩ (.slice a8 S.nl c8) = w20 at HR20 HO20 HZ20 HB20 ⊢
     refine hK.out _ _ trivial (fun hHeld => ?_)
     clear hK K
     refine wpAnyH_done (by kernel_rfl) ?_ _
     go_wp2_with (first
      | ((with_reducible refine atS 15 ?_); go_must (refine wl_ex rfl (exec_loadRf _ rfl _ { S with ab := a2, cb := c2, ag := a5, cg := c5, al := a8, cl := c8 } r.head r.at_ HAT.out rfl HR20.out) ?_))
      | ((with_reducible refine atT 2 ?_); go_must (refine wl_store_rf (S := { S with ab := a2, cb := c2, ag := a5, cg := c5, al := a8, cl := c8 }) (h := r.head) (a := r.at_) HAT.out HZ20.out (len36 rfl) rfl _ _ rfl rfl rfl ?_); intro w21 hr21 hg21; have HR21 := Lib.hid hr21; have HG21 := Lib.hid hg21; clear hr21 hg21))
     refine bodyPost_ret (results_row rfl _ _ (w.heap.size + 1) REf (rfL { S with ab := a2, cb := c2, ag := a5, cg := c5, al := a8, cl := c8 } r.head r.at_) _ rfl HR21.out Tryd.underlying35 rfl (size36 HAT.out)) rfl ?_
     refine ⟨{ S with ab := a2, cb := c2, ag := a5, cg := c5, al := a8, cl := c8 }, rfl, ⟨HO20.out.grownOut HG21.out NEr3 HZ20.out, HK2.out, HK5.out, HK8.out, HAT.out⟩, HB20.out.grown HG21.out HB20.out.size (fun k hk => by cases hk; omega)⟩
    ·have hcell := rf_log HAT.out HR2.out
     go_simp
     clear hcell
     refine hK.out _ _ trivial (fun hHeld => ?_)
     clear hK K
     refine tk 9 (mo 12 (.fieldAddr 35 (.tmp 1) 0)) (.pointer (some ⟨w.heap.size, 0, none⟩)) rfl ?_
     refine rdH [5] ?_
     refine AllReadyH.cons (o := ⟨some 8, .call { callee := .value (.func 72), args := #[(.tmp 7)], argTypes := #[33] }, _, _, _, _⟩) rfl (fun K hK => ?_) AllReadyH.nil
     go_simp
     refine (HCG.out _ HB2.out).mono ?_
     rintro e w5 ⟨a5, c5, rfl, ho5, hb5⟩
     have HH5 := Lib.hid (Holds.add (base := w.heap.size) (h := hG rnK NEf (.slice a5 S.ng c5) r.tg) HH2.out ho5.1 hb5 HB2.out.size)
     have HK5 := Lib.hid ho5.2
     have HR5 := Lib.hid (HR2.out.below hb5)
     have HZ5 := Lib.hid (HZ2.out.below hb5)
     have HB5 := thn HB2 hb5
     clear ho5 hb5
     refine hK.out _ _ trivial (fun hHeld => ?_)
     clear hK K
     refine rdH [8] ?_
     refine AllReadyH.cons (o := ⟨some 11, .call { callee := .value (.func 73), args := #[(.tmp 10)], argTypes := #[25] }, _, _, _, _⟩) rfl (fun K hK => ?_) AllReadyH.nil
     go_simp
     refine (HCL.out _ HB5.out).mono ?_
     rintro e w8 ⟨a8, c8, rfl, ho8, hb8⟩
     have HH8 := Lib.hid (Holds.add (base := w.heap.size) (h := hG enK EEf (.slice a8 S.nl c8) r.log) HH5.out ho8.1 hb8 HB5.out.size)
     have HK8 := Lib.hid ho8.2
     have HR8 := Lib.hid (HR5.out.below hb8)
     have HZ8 := Lib.hid (HZ5.out.below hb8)
     have HB8 := thn HB5 hb8
     clear ho8 hb8
     refine hK.out _ _ trivial (fun hHeld => ?_)
     clear hK K
     have HO8 := Lib.hid (Holds.perm HH8.out (List.reverse_perm _).symm)
     have NEr3 : ∀ x ∈ [hG rnK NEf (.slice a2 S.nb c2) r.br, hG rnK NEf (.slice a5 S.ng c5) r.tg, hG enK EEf (.slice a8 S.nl c8) r.log], x.E ≠ REf := fun x hx => by simp only [List.mem_cons, List.not_mem_nil, or_false] at hx; rcases hx with rfl | rfl | rfl <;> first | exact NErf | exact EErf
     refine rdH [10] ?_
     refine AllReadyH.cons (o := ⟨none, .store 33 (.tmp 12) (.tmp 5), _, _, _, _⟩) rfl (fun K hK => ?_) AllReadyH.nil
     have hcell := rf_br HR8.out
     have hfz := HR8.out.free 0
     go_simp
     clear hcell hfz
     have HR18 : Hid (RowAt (w8.setCell ⟨w.heap.size, 0, none⟩ (.slice a2 S.nb c2)) w.heap.size REf (rfL { S with ab := a2, cb := c2 } r.head r.at_)) := Lib.hid (HR8.out.set 0 (.slice a2 S.nb c2))
     have HO18 := Lib.hid (holds_setBox HO8.out HR8.out NEr3 0 (.slice a2 S.nb c2))
     have HZ18 := Lib.hid (HZ8.out.other (a := ⟨w.heap.size, 0, none⟩) (Nat.succ_ne_self _) (.slice a2 S.nb c2))
     have HB18 := Lib.hid (HB8.out.setCell (p := ⟨w.heap.size, 0, none⟩) (Nat.le_refl _) (.slice a2 S.nb c2))
     generalize w8.setCell ⟨w.heap.size, 0, none⟩ (.slice a2 S.nb c2) = w18 at HR18 HO18 HZ18 HB18 ⊢
     refine hK.out _ _ trivial (fun hHeld => ?_)
     clear hK K
     refine tk 11 (mo 13 (.fieldAddr 35 (.tmp 1) 1)) (.pointer (some ⟨w.heap.size, 1, none⟩)) rfl ?_
     refine rdH [12] ?_
     refine AllReadyH.cons (o := ⟨none, .store 33 (.tmp 13) (.tmp 8), _, _, _, _⟩) rfl (fun K hK => ?_) AllReadyH.nil
     have hcell := rf_tg HR18.out
     have hfz := HR18.out.free 1
     go_simp
     clear hcell hfz
     have HR19 : Hid (RowAt (w18.setCell ⟨w.heap.size, 1, none⟩ (.slice a5 S.ng c5)) w.heap.size REf (rfL { S with ab := a2, cb := c2, ag := a5, cg := c5 } r.head r.at_)) := Lib.hid (HR18.out.set 1 (.slice a5 S.ng c5))
     have HO19 := Lib.hid (holds_setBox HO18.out HR18.out NEr3 1 (.slice a5 S.ng c5))
     have HZ19 := Lib.hid (HZ18.out.other (a := ⟨w.heap.size, 1, none⟩) (Nat.succ_ne_self _) (.slice a5 S.ng c5))
     have HB19 := Lib.hid (HB18.out.setCell (p := ⟨w.heap.size, 1, none⟩) (Nat.le_refl _) (.slice a5 S.ng c5))
     generalize w18.setCell ⟨w.heap.size, 1, none⟩ (.slice a5 S.ng c5) = w19 at HR19 HO19 HZ19 HB19 ⊢
     refine hK.out _ _ trivial (fun hHeld => ?_)
     clear hK K
     refine tk 13 (mo 14 (.fieldAddr 35 (.tmp 1) 4)) (.pointer (some ⟨w.heap.size, 35, none⟩)) rfl ?_
     refine rdH [14] ?_
     refine AllReadyH.cons (o := ⟨none, .store 25 (.tmp 14) (.tmp 11), _, _, _, _⟩) rfl (fun K hK => ?_) AllReadyH.nil
     have hcell := rf_log HAT.out HR19.out
     have hfz := HR19.out.free 35
     go_simp
     clear hcell hfz
     have hrow := HR19.out.set 35 (.slice a8 S.nl c8)
     rw [rfL_log ({ S with ab := a2, cb := c2, ag := a5, cg := c5 }) r.head r.at_ HAT.out] at hrow
     have HR20 : Hid (RowAt (w19.setCell ⟨w.heap.size, 35, none⟩ (.slice a8 S.nl c8)) w.heap.size REf (rfL { S with ab := a2, cb := c2, ag := a5, cg := c5, al := a8, cl := c8 } r.head r.at_)) := Lib.hid hrow
     have HO20 := Lib.hid (holds_setBox HO19.out HR19.out NEr3 35 (.slice a8 S.nl c8))
     have HZ20 := Lib.hid (HZ19.out.other (a := ⟨w.heap.size, 35, none⟩) (Nat.succ_ne_self _) (.slice a8 S.nl c8))
     have HB20 := Lib.hid (HB19.out.setCell (p := ⟨w.heap.size, 35, none⟩) (Nat.le_refl _) (.slice a8 S.nl c8))
     generalize w19.setCell ⟨w.heap.size, 35, none⟩ (.slice a8 S.nl c8) = w20 at HR20 HO20 HZ20 HB20 ⊢
     refine hK.out _ _ trivial (fun hHeld => ?_)
     clear hK K
     refine wpAnyH_done (by kernel_rfl) ?_ _
     go_wp2_with (first
      | ((with_reducible refine atS 15 ?_); go_must (refine wl_ex rfl (exec_loadRf _ rfl _ { S with ab := a2, cb := c2, ag := a5, cg := c5, al := a8, cl := c8 } r.head r.at_ HAT.out rfl HR20.out) ?_))
      | ((with_reducible refine atT 2 ?_); go_must (refine wl_store_rf (S := { S with ab := a2, cb := c2, ag := a5, cg := c5, al := a8, cl := c8 }) (h := r.head) (a := r.at_) HAT.out HZ20.out (len36 rfl) rfl _ _ rfl rfl rfl ?_); intro w21 hr21 hg21; have HR21 := Lib.hid hr21; have HG21 := Lib.hid hg21; clear hr21 hg21))
     refine bodyPost_ret (results_row rfl _ _ (w.heap.size + 1) REf (rfL { S with ab := a2, cb := c2, ag := a5, cg := c5, al := a8, cl := c8 } r.head r.at_) _ rfl HR21.out Tryd.underlying35 rfl (size36 HAT.out)) rfl ?_
     refine ⟨{ S with ab := a2, cb := c2, ag := a5, cg := c5, al := a8, cl := c8 }, rfl, ⟨HO20.out.grownOut HG21.out NEr3 HZ20.out, HK2.out, HK5.out, HK8.out, HAT.out⟩, HB20.out.grown HG21.out HB20.out.size (fun k hk => by cases hk; omega)⟩
   ·have hcell := rf_log HAT.out HR0.out
    go_simp
    clear hcell
    refine hK.out _ _ trivial (fun hHeld => ?_)
    clear hK K
    refine rdH [2] ?_
    refine AllReadyH.cons (o := ⟨some 5, .call { callee := .value (.func 72), args := #[(.tmp 4)], argTypes := #[33] }, _, _, _, _⟩) rfl (fun K hK => ?_) AllReadyH.nil
    go_simp
    refine (HCB.out _ HB0.out).mono ?_
    rintro e w2 ⟨a2, c2, rfl, ho2, hb2⟩
    have HH2 := Lib.hid (Holds.add (base := w.heap.size) (h := hG rnK NEf (.slice a2 S.nb c2) r.br) Holds.nil ho2.1 hb2 HB0.out.size)
    have HK2 := Lib.hid ho2.2
    have HR2 := Lib.hid (HR0.out.below hb2)
    have HZ2 := Lib.hid (HZ0.out.below hb2)
    have HB2 := thn HB0 hb2
    clear ho2 hb2
    refine hK.out _ _ trivial (fun hHeld => ?_)
    clear hK K
    refine tk 9 (mo 12 (.fieldAddr 35 (.tmp 1) 0)) (.pointer (some ⟨w.heap.size, 0, none⟩)) rfl ?_
    refine rdH [5] ?_
    refine AllReadyH.cons (o := ⟨some 8, .call { callee := .value (.func 72), args := #[(.tmp 7)], argTypes := #[33] }, _, _, _, _⟩) rfl (fun K hK => ?_) AllReadyH.nil
    go_simp
    refine (HCG.out _ HB2.out).mono ?_
    rintro e w5 ⟨a5, c5, rfl, ho5, hb5⟩
    have HH5 := Lib.hid (Holds.add (base := w.heap.size) (h := hG rnK NEf (.slice a5 S.ng c5) r.tg) HH2.out ho5.1 hb5 HB2.out.size)
    have HK5 := Lib.hid ho5.2
    have HR5 := Lib.hid (HR2.out.below hb5)
    have HZ5 := Lib.hid (HZ2.out.below hb5)
    have HB5 := thn HB2 hb5
    clear ho5 hb5
    refine hK.out _ _ trivial (fun hHeld => ?_)
    clear hK K
    refine rdH [8] ?_
    refine AllReadyH.cons (o := ⟨some 11, .call { callee := .value (.func 73), args := #[(.tmp 10)], argTypes := #[25] }, _, _, _, _⟩) rfl (fun K hK => ?_) AllReadyH.nil
    go_simp
    refine (HCL.out _ HB5.out).mono ?_
    rintro e w8 ⟨a8, c8, rfl, ho8, hb8⟩
    have HH8 := Lib.hid (Holds.add (base := w.heap.size) (h := hG enK EEf (.slice a8 S.nl c8) r.log) HH5.out ho8.1 hb8 HB5.out.size)
    have HK8 := Lib.hid ho8.2
    have HR8 := Lib.hid (HR5.out.below hb8)
    have HZ8 := Lib.hid (HZ5.out.below hb8)
    have HB8 := thn HB5 hb8
    clear ho8 hb8
    refine hK.out _ _ trivial (fun hHeld => ?_)
    clear hK K
    have HO8 := Lib.hid (Holds.perm HH8.out (List.reverse_perm _).symm)
    have NEr3 : ∀ x ∈ [hG rnK NEf (.slice a2 S.nb c2) r.br, hG rnK NEf (.slice a5 S.ng c5) r.tg, hG enK EEf (.slice a8 S.nl c8) r.log], x.E ≠ REf := fun x hx => by simp only [List.mem_cons, List.not_mem_nil, or_false] at hx; rcases hx with rfl | rfl | rfl <;> first | exact NErf | exact EErf
    refine rdH [10] ?_
    refine AllReadyH.cons (o := ⟨none, .store 33 (.tmp 12) (.tmp 5), _, _, _, _⟩) rfl (fun K hK => ?_) AllReadyH.nil
    have hcell := rf_br HR8.out
    have hfz := HR8.out.free 0
    go_simp
    clear hcell hfz
    have HR18 : Hid (RowAt (w8.setCell ⟨w.heap.size, 0, none⟩ (.slice a2 S.nb c2)) w.heap.size REf (rfL { S with ab := a2, cb := c2 } r.head r.at_)) := Lib.hid (HR8.out.set 0 (.slice a2 S.nb c2))
    have HO18 := Lib.hid (holds_setBox HO8.out HR8.out NEr3 0 (.slice a2 S.nb c2))
    have HZ18 := Lib.hid (HZ8.out.other (a := ⟨w.heap.size, 0, none⟩) (Nat.succ_ne_self _) (.slice a2 S.nb c2))
    have HB18 := Lib.hid (HB8.out.setCell (p := ⟨w.heap.size, 0, none⟩) (Nat.le_refl _) (.slice a2 S.nb c2))
    generalize w8.setCell ⟨w.heap.size, 0, none⟩ (.slice a2 S.nb c2) = w18 at HR18 HO18 HZ18 HB18 ⊢
    refine hK.out _ _ trivial (fun hHeld => ?_)
    clear hK K
    refine tk 11 (mo 13 (.fieldAddr 35 (.tmp 1) 1)) (.pointer (some ⟨w.heap.size, 1, none⟩)) rfl ?_
    refine rdH [12] ?_
    refine AllReadyH.cons (o := ⟨none, .store 33 (.tmp 13) (.tmp 8), _, _, _, _⟩) rfl (fun K hK => ?_) AllReadyH.nil
    have hcell := rf_tg HR18.out
    have hfz := HR18.out.free 1
    go_simp
    clear hcell hfz
    have HR19 : Hid (RowAt (w18.setCell ⟨w.heap.size, 1, none⟩ (.slice a5 S.ng c5)) w.heap.size REf (rfL { S with ab := a2, cb := c2, ag := a5, cg := c5 } r.head r.at_)) := Lib.hid (HR18.out.set 1 (.slice a5 S.ng c5))
    have HO19 := Lib.hid (holds_setBox HO18.out HR18.out NEr3 1 (.slice a5 S.ng c5))
    have HZ19 := Lib.hid (HZ18.out.other (a := ⟨w.heap.size, 1, none⟩) (Nat.succ_ne_self _) (.slice a5 S.ng c5))
    have HB19 := Lib.hid (HB18.out.setCell (p := ⟨w.heap.size, 1, none⟩) (Nat.le_refl _) (.slice a5 S.ng c5))
    generalize w18.setCell ⟨w.heap.size, 1, none⟩ (.slice a5 S.ng c5) = w19 at HR19 HO19 HZ19 HB19 ⊢
    refine hK.out _ _ trivial (fun hHeld => ?_)
    clear hK K
    refine tk 13 (mo 14 (.fieldAddr 35 (.tmp 1) 4)) (.pointer (some ⟨w.heap.size, 35, none⟩)) rfl ?_
    refine rdH [14] ?_
    refine AllReadyH.cons (o := ⟨none, .store 25 (.tmp 14) (.tmp 11), _, _, _, _⟩) rfl (fun K hK => ?_) AllReadyH.nil
    have hcell := rf_log HAT.out HR19.out
    have hfz := HR19.out.free 35
    go_simp
    clear hcell hfz
    have hrow := HR19.out.set 35 (.slice a8 S.nl c8)
    rw [rfL_log ({ S with ab := a2, cb := c2, ag := a5, cg := c5 }) r.head r.at_ HAT.out] at hrow
    have HR20 : Hid (RowAt (w19.setCell ⟨w.heap.size, 35, none⟩ (.slice a8 S.nl c8)) w.heap.size REf (rfL { S with ab := a2, cb := c2, ag := a5, cg := c5, al := a8, cl := c8 } r.head r.at_)) := Lib.hid hrow
    have HO20 := Lib.hid (holds_setBox HO19.out HR19.out NEr3 35 (.slice a8 S.nl c8))
    have HZ20 := Lib.hid (HZ19.out.other (a := ⟨w.heap.size, 35, none⟩) (Nat.succ_ne_self _) (.slice a8 S.nl c8))
    have HB20 := Lib.hid (HB19.out.setCell (p := ⟨w.heap.size, 35, none⟩) (Nat.le_refl _) (.slice a8 S.nl c8))
    generalize w19.setCell ⟨w.heap.size, 35, none⟩ (.slice a8 S.nl c8) = w20 at HR20 HO20 HZ20 HB20 ⊢
    refine hK.out _ _ trivial (fun hHeld => ?_)
    clear hK K
    refine wpAnyH_done (by kernel_rfl) ?_ _
    go_wp2_with (first
     | ((with_reducible refine atS 15 ?_); go_must (refine wl_ex rfl (exec_loadRf _ rfl _ { S with ab := a2, cb := c2, ag := a5, cg := c5, al := a8, cl := c8 } r.head r.at_ HAT.out rfl HR20.out) ?_))
     | ((with_reducible refine atT 2 ?_); go_must (refine wl_store_rf (S := { S with ab := a2, cb := c2, ag := a5, cg := c5, al := a8, cl := c8 }) (h := r.head) (a := r.at_) HAT.out HZ20.out (len36 rfl) rfl _ _ rfl rfl rfl ?_); intro w21 hr21 hg21; have HR21 := Lib.hid hr21; have HG21 := Lib.hid hg21; clear hr21 hg21))
    refine bodyPost_ret (results_row rfl _ _ (w.heap.size + 1) REf (rfL { S with ab := a2, cb := c2, ag := a5, cg := c5, al := a8, cl := c8 } r.head r.at_) _ rfl HR21.out Tryd.underlying35 rfl (size36 HAT.out)) rfl ?_
    refine ⟨{ S with ab := a2, cb := c2, ag := a5, cg := c5, al := a8, cl := c8 }, rfl, ⟨HO20.out.grownOut HG21.out NEr3 HZ20.out, HK2.out, HK5.out, HK8.out, HAT.out⟩, HB20.out.grown HG21.out HB20.out.size (fun k hk => by cases hk; omega)⟩
  ·have hcell := rf_log HAT.out HR0.out
   go_simp
   clear hcell
   refine hK.out _ _ trivial (fun hHeld => ?_)
   clear hK K
   refine rdH [2, 4] ?_
   refine AllReadyH.cons (o := ⟨some 5, .call { callee := .value (.func 72), args := #[(.tmp 4)], argTypes := #[33] }, _, _, _, _⟩) rfl (fun K hK => ?_) (AllReadyH.cons (o := ⟨some 7, .load 33 (.tmp 6), _, _, _, _⟩) rfl (fun K hK => ?_) AllReadyH.nil)
   ·go_simp
    refine (HCB.out _ HB0.out).mono ?_
    rintro e w2 ⟨a2, c2, rfl, ho2, hb2⟩
    have HH2 := Lib.hid (Holds.add (base := w.heap.size) (h := hG rnK NEf (.slice a2 S.nb c2) r.br) Holds.nil ho2.1 hb2 HB0.out.size)
    have HK2 := Lib.hid ho2.2
    have HR2 := Lib.hid (HR0.out.below hb2)
    have HZ2 := Lib.hid (HZ0.out.below hb2)
    have HB2 := thn HB0 hb2
    clear ho2 hb2
    refine hK.out _ _ trivial (fun hHeld => ?_)
    clear hK K
    refine rdH [4] ?_
    refine AllReadyH.cons (o := ⟨some 7, .load 33 (.tmp 6), _, _, _, _⟩) rfl (fun K hK => ?_) AllReadyH.nil
    have hcell := rf_tg HR2.out
    go_simp
    clear hcell
    refine hK.out _ _ trivial (fun hHeld => ?_)
    clear hK K
    refine tk 9 (mo 12 (.fieldAddr 35 (.tmp 1) 0)) (.pointer (some ⟨w.heap.size, 0, none⟩)) rfl ?_
    refine rdH [5] ?_
    refine AllReadyH.cons (o := ⟨some 8, .call { callee := .value (.func 72), args := #[(.tmp 7)], argTypes := #[33] }, _, _, _, _⟩) rfl (fun K hK => ?_) AllReadyH.nil
    go_simp
    refine (HCG.out _ HB2.out).mono ?_
    rintro e w5 ⟨a5, c5, rfl, ho5, hb5⟩
    have HH5 := Lib.hid (Holds.add (base := w.heap.size) (h := hG rnK NEf (.slice a5 S.ng c5) r.tg) HH2.out ho5.1 hb5 HB2.out.size)
    have HK5 := Lib.hid ho5.2
    have HR5 := Lib.hid (HR2.out.below hb5)
    have HZ5 := Lib.hid (HZ2.out.below hb5)
    have HB5 := thn HB2 hb5
    clear ho5 hb5
    refine hK.out _ _ trivial (fun hHeld => ?_)
    clear hK K
    refine rdH [8] ?_
    refine AllReadyH.cons (o := ⟨some 11, .call { callee := .value (.func 73), args := #[(.tmp 10)], argTypes := #[25] }, _, _, _, _⟩) rfl (fun K hK => ?_) AllReadyH.nil
    go_simp
    refine (HCL.out _ HB5.out).mono ?_
    rintro e w8 ⟨a8, c8, rfl, ho8, hb8⟩
    have HH8 := Lib.hid (Holds.add (base := w.heap.size) (h := hG enK EEf (.slice a8 S.nl c8) r.log) HH5.out ho8.1 hb8 HB5.out.size)
    have HK8 := Lib.hid ho8.2
    have HR8 := Lib.hid (HR5.out.below hb8)
    have HZ8 := Lib.hid (HZ5.out.below hb8)
    have HB8 := thn HB5 hb8
    clear ho8 hb8
    refine hK.out _ _ trivial (fun hHeld => ?_)
    clear hK K
    have HO8 := Lib.hid (Holds.perm HH8.out (List.reverse_perm _).symm)
    have NEr3 : ∀ x ∈ [hG rnK NEf (.slice a2 S.nb c2) r.br, hG rnK NEf (.slice a5 S.ng c5) r.tg, hG enK EEf (.slice a8 S.nl c8) r.log], x.E ≠ REf := fun x hx => by simp only [List.mem_cons, List.not_mem_nil, or_false] at hx; rcases hx with rfl | rfl | rfl <;> first | exact NErf | exact EErf
    refine rdH [10] ?_
    refine AllReadyH.cons (o := ⟨none, .store 33 (.tmp 12) (.tmp 5), _, _, _, _⟩) rfl (fun K hK => ?_) AllReadyH.nil
    have hcell := rf_br HR8.out
    have hfz := HR8.out.free 0
    go_simp
    clear hcell hfz
    have HR18 : Hid (RowAt (w8.setCell ⟨w.heap.size, 0, none⟩ (.slice a2 S.nb c2)) w.heap.size REf (rfL { S with ab := a2, cb := c2 } r.head r.at_)) := Lib.hid (HR8.out.set 0 (.slice a2 S.nb c2))
    have HO18 := Lib.hid (holds_setBox HO8.out HR8.out NEr3 0 (.slice a2 S.nb c2))
    have HZ18 := Lib.hid (HZ8.out.other (a := ⟨w.heap.size, 0, none⟩) (Nat.succ_ne_self _) (.slice a2 S.nb c2))
    have HB18 := Lib.hid (HB8.out.setCell (p := ⟨w.heap.size, 0, none⟩) (Nat.le_refl _) (.slice a2 S.nb c2))
    generalize w8.setCell ⟨w.heap.size, 0, none⟩ (.slice a2 S.nb c2) = w18 at HR18 HO18 HZ18 HB18 ⊢
    refine hK.out _ _ trivial (fun hHeld => ?_)
    clear hK K
    refine tk 11 (mo 13 (.fieldAddr 35 (.tmp 1) 1)) (.pointer (some ⟨w.heap.size, 1, none⟩)) rfl ?_
    refine rdH [12] ?_
    refine AllReadyH.cons (o := ⟨none, .store 33 (.tmp 13) (.tmp 8), _, _, _, _⟩) rfl (fun K hK => ?_) AllReadyH.nil
    have hcell := rf_tg HR18.out
    have hfz := HR18.out.free 1
    go_simp
    clear hcell hfz
    have HR19 : Hid (RowAt (w18.setCell ⟨w.heap.size, 1, none⟩ (.slice a5 S.ng c5)) w.heap.size REf (rfL { S with ab := a2, cb := c2, ag := a5, cg := c5 } r.head r.at_)) := Lib.hid (HR18.out.set 1 (.slice a5 S.ng c5))
    have HO19 := Lib.hid (holds_setBox HO18.out HR18.out NEr3 1 (.slice a5 S.ng c5))
    have HZ19 := Lib.hid (HZ18.out.other (a := ⟨w.heap.size, 1, none⟩) (Nat.succ_ne_self _) (.slice a5 S.ng c5))
    have HB19 := Lib.hid (HB18.out.setCell (p := ⟨w.heap.size, 1, none⟩) (Nat.le_refl _) (.slice a5 S.ng c5))
    generalize w18.setCell ⟨w.heap.size, 1, none⟩ (.slice a5 S.ng c5) = w19 at HR19 HO19 HZ19 HB19 ⊢
    refine hK.out _ _ trivial (fun hHeld => ?_)
    clear hK K
    refine tk 13 (mo 14 (.fieldAddr 35 (.tmp 1) 4)) (.pointer (some ⟨w.heap.size, 35, none⟩)) rfl ?_
    refine rdH [14] ?_
    refine AllReadyH.cons (o := ⟨none, .store 25 (.tmp 14) (.tmp 11), _, _, _, _⟩) rfl (fun K hK => ?_) AllReadyH.nil
    have hcell := rf_log HAT.out HR19.out
    have hfz := HR19.out.free 35
    go_simp
    clear hcell hfz
    have hrow := HR19.out.set 35 (.slice a8 S.nl c8)
    rw [rfL_log ({ S with ab := a2, cb := c2, ag := a5, cg := c5 }) r.head r.at_ HAT.out] at hrow
    have HR20 : Hid (RowAt (w19.setCell ⟨w.heap.size, 35, none⟩ (.slice a8 S.nl c8)) w.heap.size REf (rfL { S with ab := a2, cb := c2, ag := a5, cg := c5, al := a8, cl := c8 } r.head r.at_)) := Lib.hid hrow
    have HO20 := Lib.hid (holds_setBox HO19.out HR19.out NEr3 35 (.slice a8 S.nl c8))
    have HZ20 := Lib.hid (HZ19.out.other (a := ⟨w.heap.size, 35, none⟩) (Nat.succ_ne_self _) (.slice a8 S.nl c8))
    have HB20 := Lib.hid (HB19.out.setCell (p := ⟨w.heap.size, 35, none⟩) (Nat.le_refl _) (.slice a8 S.nl c8))
    generalize w19.setCell ⟨w.heap.size, 35, none⟩ (.slice a8 S.nl c8) = w20 at HR20 HO20 HZ20 HB20 ⊢
    refine hK.out _ _ trivial (fun hHeld => ?_)
    clear hK K
    refine wpAnyH_done (by kernel_rfl) ?_ _
    go_wp2_with (first
     | ((with_reducible refine atS 15 ?_); go_must (refine wl_ex rfl (exec_loadRf _ rfl _ { S with ab := a2, cb := c2, ag := a5, cg := c5, al := a8, cl := c8 } r.head r.at_ HAT.out rfl HR20.out) ?_))
     | ((with_reducible refine atT 2 ?_); go_must (refine wl_store_rf (S := { S with ab := a2, cb := c2, ag := a5, cg := c5, al := a8, cl := c8 }) (h := r.head) (a := r.at_) HAT.out HZ20.out (len36 rfl) rfl _ _ rfl rfl rfl ?_); intro w21 hr21 hg21; have HR21 := Lib.hid hr21; have HG21 := Lib.hid hg21; clear hr21 hg21))
    refine bodyPost_ret (results_row rfl _ _ (w.heap.size + 1) REf (rfL { S with ab := a2, cb := c2, ag := a5, cg := c5, al := a8, cl := c8 } r.head r.at_) _ rfl HR21.out Tryd.underlying35 rfl (size36 HAT.out)) rfl ?_
    refine ⟨{ S with ab := a2, cb := c2, ag := a5, cg := c5, al := a8, cl := c8 }, rfl, ⟨HO20.out.grownOut HG21.out NEr3 HZ20.out, HK2.out, HK5.out, HK8.out, HAT.out⟩, HB20.out.grown HG21.out HB20.out.size (fun k hk => by cases hk; omega)⟩
   ·have hcell := rf_tg HR0.out
    go_simp
    clear hcell
    refine hK.out _ _ trivial (fun hHeld => ?_)
    clear hK K
    refine rdH [2] ?_
    refine AllReadyH.cons (o := ⟨some 5, .call { callee := .value (.func 72), args := #[(.tmp 4)], argTypes := #[33] }, _, _, _, _⟩) rfl (fun K hK => ?_) AllReadyH.nil
    go_simp
    refine (HCB.out _ HB0.out).mono ?_
    rintro e w2 ⟨a2, c2, rfl, ho2, hb2⟩
    have HH2 := Lib.hid (Holds.add (base := w.heap.size) (h := hG rnK NEf (.slice a2 S.nb c2) r.br) Holds.nil ho2.1 hb2 HB0.out.size)
    have HK2 := Lib.hid ho2.2
    have HR2 := Lib.hid (HR0.out.below hb2)
    have HZ2 := Lib.hid (HZ0.out.below hb2)
    have HB2 := thn HB0 hb2
    clear ho2 hb2
    refine hK.out _ _ trivial (fun hHeld => ?_)
    clear hK K
    refine tk 9 (mo 12 (.fieldAddr 35 (.tmp 1) 0)) (.pointer (some ⟨w.heap.size, 0, none⟩)) rfl ?_
    refine rdH [5] ?_
    refine AllReadyH.cons (o := ⟨some 8, .call { callee := .value (.func 72), args := #[(.tmp 7)], argTypes := #[33] }, _, _, _, _⟩) rfl (fun K hK => ?_) AllReadyH.nil
    go_simp
    refine (HCG.out _ HB2.out).mono ?_
    rintro e w5 ⟨a5, c5, rfl, ho5, hb5⟩
    have HH5 := Lib.hid (Holds.add (base := w.heap.size) (h := hG rnK NEf (.slice a5 S.ng c5) r.tg) HH2.out ho5.1 hb5 HB2.out.size)
    have HK5 := Lib.hid ho5.2
    have HR5 := Lib.hid (HR2.out.below hb5)
    have HZ5 := Lib.hid (HZ2.out.below hb5)
    have HB5 := thn HB2 hb5
    clear ho5 hb5
    refine hK.out _ _ trivial (fun hHeld => ?_)
    clear hK K
    refine rdH [8] ?_
    refine AllReadyH.cons (o := ⟨some 11, .call { callee := .value (.func 73), args := #[(.tmp 10)], argTypes := #[25] }, _, _, _, _⟩) rfl (fun K hK => ?_) AllReadyH.nil
    go_simp
    refine (HCL.out _ HB5.out).mono ?_
    rintro e w8 ⟨a8, c8, rfl, ho8, hb8⟩
    have HH8 := Lib.hid (Holds.add (base := w.heap.size) (h := hG enK EEf (.slice a8 S.nl c8) r.log) HH5.out ho8.1 hb8 HB5.out.size)
    have HK8 := Lib.hid ho8.2
    have HR8 := Lib.hid (HR5.out.below hb8)
    have HZ8 := Lib.hid (HZ5.out.below hb8)
    have HB8 := thn HB5 hb8
    clear ho8 hb8
    refine hK.out _ _ trivial (fun hHeld => ?_)
    clear hK K
    have HO8 := Lib.hid (Holds.perm HH8.out (List.reverse_perm _).symm)
    have NEr3 : ∀ x ∈ [hG rnK NEf (.slice a2 S.nb c2) r.br, hG rnK NEf (.slice a5 S.ng c5) r.tg, hG enK EEf (.slice a8 S.nl c8) r.log], x.E ≠ REf := fun x hx => by simp only [List.mem_cons, List.not_mem_nil, or_false] at hx; rcases hx with rfl | rfl | rfl <;> first | exact NErf | exact EErf
    refine rdH [10] ?_
    refine AllReadyH.cons (o := ⟨none, .store 33 (.tmp 12) (.tmp 5), _, _, _, _⟩) rfl (fun K hK => ?_) AllReadyH.nil
    have hcell := rf_br HR8.out
    have hfz := HR8.out.free 0
    go_simp
    clear hcell hfz
    have HR18 : Hid (RowAt (w8.setCell ⟨w.heap.size, 0, none⟩ (.slice a2 S.nb c2)) w.heap.size REf (rfL { S with ab := a2, cb := c2 } r.head r.at_)) := Lib.hid (HR8.out.set 0 (.slice a2 S.nb c2))
    have HO18 := Lib.hid (holds_setBox HO8.out HR8.out NEr3 0 (.slice a2 S.nb c2))
    have HZ18 := Lib.hid (HZ8.out.other (a := ⟨w.heap.size, 0, none⟩) (Nat.succ_ne_self _) (.slice a2 S.nb c2))
    have HB18 := Lib.hid (HB8.out.setCell (p := ⟨w.heap.size, 0, none⟩) (Nat.le_refl _) (.slice a2 S.nb c2))
    generalize w8.setCell ⟨w.heap.size, 0, none⟩ (.slice a2 S.nb c2) = w18 at HR18 HO18 HZ18 HB18 ⊢
    refine hK.out _ _ trivial (fun hHeld => ?_)
    clear hK K
    refine tk 11 (mo 13 (.fieldAddr 35 (.tmp 1) 1)) (.pointer (some ⟨w.heap.size, 1, none⟩)) rfl ?_
    refine rdH [12] ?_
    refine AllReadyH.cons (o := ⟨none, .store 33 (.tmp 13) (.tmp 8), _, _, _, _⟩) rfl (fun K hK => ?_) AllReadyH.nil
    have hcell := rf_tg HR18.out
    have hfz := HR18.out.free 1
    go_simp
    clear hcell hfz
    have HR19 : Hid (RowAt (w18.setCell ⟨w.heap.size, 1, none⟩ (.slice a5 S.ng c5)) w.heap.size REf (rfL { S with ab := a2, cb := c2, ag := a5, cg := c5 } r.head r.at_)) := Lib.hid (HR18.out.set 1 (.slice a5 S.ng c5))
    have HO19 := Lib.hid (holds_setBox HO18.out HR18.out NEr3 1 (.slice a5 S.ng c5))
    have HZ19 := Lib.hid (HZ18.out.other (a := ⟨w.heap.size, 1, none⟩) (Nat.succ_ne_self _) (.slice a5 S.ng c5))
    have HB19 := Lib.hid (HB18.out.setCell (p := ⟨w.heap.size, 1, none⟩) (Nat.le_refl _) (.slice a5 S.ng c5))
    generalize w18.setCell ⟨w.heap.size, 1, none⟩ (.slice a5 S.ng c5) = w19 at HR19 HO19 HZ19 HB19 ⊢
    refine hK.out _ _ trivial (fun hHeld => ?_)
    clear hK K
    refine tk 13 (mo 14 (.fieldAddr 35 (.tmp 1) 4)) (.pointer (some ⟨w.heap.size, 35, none⟩)) rfl ?_
    refine rdH [14] ?_
    refine AllReadyH.cons (o := ⟨none, .store 25 (.tmp 14) (.tmp 11), _, _, _, _⟩) rfl (fun K hK => ?_) AllReadyH.nil
    have hcell := rf_log HAT.out HR19.out
    have hfz := HR19.out.free 35
    go_simp
    clear hcell hfz
    have hrow := HR19.out.set 35 (.slice a8 S.nl c8)
    rw [rfL_log ({ S with ab := a2, cb := c2, ag := a5, cg := c5 }) r.head r.at_ HAT.out] at hrow
    have HR20 : Hid (RowAt (w19.setCell ⟨w.heap.size, 35, none⟩ (.slice a8 S.nl c8)) w.heap.size REf (rfL { S with ab := a2, cb := c2, ag := a5, cg := c5, al := a8, cl := c8 } r.head r.at_)) := Lib.hid hrow
    have HO20 := Lib.hid (holds_setBox HO19.out HR19.out NEr3 35 (.slice a8 S.nl c8))
    have HZ20 := Lib.hid (HZ19.out.other (a := ⟨w.heap.size, 35, none⟩) (Nat.succ_ne_self _) (.slice a8 S.nl c8))
    have HB20 := Lib.hid (HB19.out.setCell (p := ⟨w.heap.size, 35, none⟩) (Nat.le_refl _) (.slice a8 S.nl c8))
    generalize w19.setCell ⟨w.heap.size, 35, none⟩ (.slice a8 S.nl c8) = w20 at HR20 HO20 HZ20 HB20 ⊢
    refine hK.out _ _ trivial (fun hHeld => ?_)
    clear hK K
    refine wpAnyH_done (by kernel_rfl) ?_ _
    go_wp2_with (first
     | ((with_reducible refine atS 15 ?_); go_must (refine wl_ex rfl (exec_loadRf _ rfl _ { S with ab := a2, cb := c2, ag := a5, cg := c5, al := a8, cl := c8 } r.head r.at_ HAT.out rfl HR20.out) ?_))
     | ((with_reducible refine atT 2 ?_); go_must (refine wl_store_rf (S := { S with ab := a2, cb := c2, ag := a5, cg := c5, al := a8, cl := c8 }) (h := r.head) (a := r.at_) HAT.out HZ20.out (len36 rfl) rfl _ _ rfl rfl rfl ?_); intro w21 hr21 hg21; have HR21 := Lib.hid hr21; have HG21 := Lib.hid hg21; clear hr21 hg21))
    refine bodyPost_ret (results_row rfl _ _ (w.heap.size + 1) REf (rfL { S with ab := a2, cb := c2, ag := a5, cg := c5, al := a8, cl := c8 } r.head r.at_) _ rfl HR21.out Tryd.underlying35 rfl (size36 HAT.out)) rfl ?_
    refine ⟨{ S with ab := a2, cb := c2, ag := a5, cg := c5, al := a8, cl := c8 }, rfl, ⟨HO20.out.grownOut HG21.out NEr3 HZ20.out, HK2.out, HK5.out, HK8.out, HAT.out⟩, HB20.out.grown HG21.out HB20.out.size (fun k hk => by cases hk; omega)⟩
 ·have hcell := rf_tg HR0.out
  go_simp
  clear hcell
  refine hK.out _ _ trivial (fun hHeld => ?_)
  clear hK K
  refine rdH [1, 7] ?_
  refine AllReadyH.cons (o := ⟨some 4, .load 33 (.tmp 3), _, _, _, _⟩) rfl (fun K hK => ?_) (AllReadyH.cons (o := ⟨some 10, .load 25 (.tmp 9), _, _, _, _⟩) rfl (fun K hK => ?_) AllReadyH.nil)
  ·have hcell := rf_br HR0.out
   go_simp
   clear hcell
   refine hK.out _ _ trivial (fun hHeld => ?_)
   clear hK K
   refine rdH [2, 7] ?_
   refine AllReadyH.cons (o := ⟨some 5, .call { callee := .value (.func 72), args := #[(.tmp 4)], argTypes := #[33] }, _, _, _, _⟩) rfl (fun K hK => ?_) (AllReadyH.cons (o := ⟨some 10, .load 25 (.tmp 9), _, _, _, _⟩) rfl (fun K hK => ?_) AllReadyH.nil)
   ·go_simp
    refine (HCB.out _ HB0.out).mono ?_
    rintro e w2 ⟨a2, c2, rfl, ho2, hb2⟩
    have HH2 := Lib.hid (Holds.add (base := w.heap.size) (h := hG rnK NEf (.slice a2 S.nb c2) r.br) Holds.nil ho2.1 hb2 HB0.out.size)
    have HK2 := Lib.hid ho2.2
    have HR2 := Lib.hid (HR0.out.below hb2)
    have HZ2 := Lib.hid (HZ0.out.below hb2)
    have HB2 := thn HB0 hb2
    clear ho2 hb2
    refine hK.out _ _ trivial (fun hHeld => ?_)
    clear hK K
    refine rdH [5, 7] ?_
    refine AllReadyH.cons (o := ⟨some 8, .call { callee := .value (.func 72), args := #[(.tmp 7)], argTypes := #[33] }, _, _, _, _⟩) rfl (fun K hK => ?_) (AllReadyH.cons (o := ⟨some 10, .load 25 (.tmp 9), _, _, _, _⟩) rfl (fun K hK => ?_) AllReadyH.nil)
    ·go_simp
     refine (HCG.out _ HB2.out).mono ?_
     rintro e w5 ⟨a5, c5, rfl, ho5, hb5⟩
     have HH5 := Lib.hid (Holds.add (base := w.heap.size) (h := hG rnK NEf (.slice a5 S.ng c5) r.tg) HH2.out ho5.1 hb5 HB2.out.size)
     have HK5 := Lib.hid ho5.2
     have HR5 := Lib.hid (HR2.out.below hb5)
     have HZ5 := Lib.hid (HZ2.out.below hb5)
     have HB5 := thn HB2 hb5
     clear ho5 hb5
     refine hK.out _ _ trivial (fun hHeld => ?_)
     clear hK K
     refine rdH [7] ?_
     refine AllReadyH.cons (o := ⟨some 10, .load 25 (.tmp 9), _, _, _, _⟩) rfl (fun K hK => ?_) AllReadyH.nil
     have hcell := rf_log HAT.out HR5.out
     go_simp
     clear hcell
     refine hK.out _ _ trivial (fun hHeld => ?_)
     clear hK K
     refine tk 9 (mo 12 (.fieldAddr 35 (.tmp 1) 0)) (.pointer (some ⟨w.heap.size, 0, none⟩)) rfl ?_
     refine rdH [8] ?_
     refine AllReadyH.cons (o := ⟨some 11, .call { callee := .value (.func 73), args := #[(.tmp 10)], argTypes := #[25] }, _, _, _, _⟩) rfl (fun K hK => ?_) AllReadyH.nil
     go_simp
     refine (HCL.out _ HB5.out).mono ?_
     rintro e w8 ⟨a8, c8, rfl, ho8, hb8⟩
     have HH8 := Lib.hid (Holds.add (base := w.heap.size) (h := hG enK EEf (.slice a8 S.nl c8) r.log) HH5.out ho8.1 hb8 HB5.out.size)
     have HK8 := Lib.hid ho8.2
     have HR8 := Lib.hid (HR5.out.below hb8)
     have HZ8 := Lib.hid (HZ5.out.below hb8)
     have HB8 := thn HB5 hb8
     clear ho8 hb8
     refine hK.out _ _ trivial (fun hHeld => ?_)
     clear hK K
     have HO8 := Lib.hid (Holds.perm HH8.out (List.reverse_perm _).symm)
     have NEr3 : ∀ x ∈ [hG rnK NEf (.slice a2 S.nb c2) r.br, hG rnK NEf (.slice a5 S.ng c5) r.tg, hG enK EEf (.slice a8 S.nl c8) r.log], x.E ≠ REf := fun x hx => by simp only [List.mem_cons, List.not_mem_nil, or_false] at hx; rcases hx with rfl | rfl | rfl <;> first | exact NErf | exact EErf
     refine rdH [10] ?_
     refine AllReadyH.cons (o := ⟨none, .store 33 (.tmp 12) (.tmp 5), _, _, _, _⟩) rfl (fun K hK => ?_) AllReadyH.nil
     have hcell := rf_br HR8.out
     have hfz := HR8.out.free 0
     go_simp
     clear hcell hfz
     have HR18 : Hid (RowAt (w8.setCell ⟨w.heap.size, 0, none⟩ (.slice a2 S.nb c2)) w.heap.size REf (rfL { S with ab := a2, cb := c2 } r.head r.at_)) := Lib.hid (HR8.out.set 0 (.slice a2 S.nb c2))
     have HO18 := Lib.hid (holds_setBox HO8.out HR8.out NEr3 0 (.slice a2 S.nb c2))
     have HZ18 := Lib.hid (HZ8.out.other (a := ⟨w.heap.size, 0, none⟩) (Nat.succ_ne_self _) (.slice a2 S.nb c2))
     have HB18 := Lib.hid (HB8.out.setCell (p := ⟨w.heap.size, 0, none⟩) (Nat.le_refl _) (.slice a2 S.nb c2))
     generalize w8.setCell ⟨w.heap.size, 0, none⟩ (.slice a2 S.nb c2) = w18 at HR18 HO18 HZ18 HB18 ⊢
     refine hK.out _ _ trivial (fun hHeld => ?_)
     clear hK K
     refine tk 11 (mo 13 (.fieldAddr 35 (.tmp 1) 1)) (.pointer (some ⟨w.heap.size, 1, none⟩)) rfl ?_
     refine rdH [12] ?_
     refine AllReadyH.cons (o := ⟨none, .store 33 (.tmp 13) (.tmp 8), _, _, _, _⟩) rfl (fun K hK => ?_) AllReadyH.nil
     have hcell := rf_tg HR18.out
     have hfz := HR18.out.free 1
     go_simp
     clear hcell hfz
     have HR19 : Hid (RowAt (w18.setCell ⟨w.heap.size, 1, none⟩ (.slice a5 S.ng c5)) w.heap.size REf (rfL { S with ab := a2, cb := c2, ag := a5, cg := c5 } r.head r.at_)) := Lib.hid (HR18.out.set 1 (.slice a5 S.ng c5))
     have HO19 := Lib.hid (holds_setBox HO18.out HR18.out NEr3 1 (.slice a5 S.ng c5))
     have HZ19 := Lib.hid (HZ18.out.other (a := ⟨w.heap.size, 1, none⟩) (Nat.succ_ne_self _) (.slice a5 S.ng c5))
     have HB19 := Lib.hid (HB18.out.setCell (p := ⟨w.heap.size, 1, none⟩) (Nat.le_refl _) (.slice a5 S.ng c5))
     generalize w18.setCell ⟨w.heap.size, 1, none⟩ (.slice a5 S.ng c5) = w19 at HR19 HO19 HZ19 HB19 ⊢
     refine hK.out _ _ trivial (fun hHeld => ?_)
     clear hK K
     refine tk 13 (mo 14 (.fieldAddr 35 (.tmp 1) 4)) (.pointer (some ⟨w.heap.size, 35, none⟩)) rfl ?_
     refine rdH [14] ?_
     refine AllReadyH.cons (o := ⟨none, .store 25 (.tmp 14) (.tmp 11), _, _, _, _⟩) rfl (fun K hK => ?_) AllReadyH.nil
     have hcell := rf_log HAT.out HR19.out
     have hfz := HR19.out.free 35
     go_simp
     clear hcell hfz
     have hrow := HR19.out.set 35 (.slice a8 S.nl c8)
     rw [rfL_log ({ S with ab := a2, cb := c2, ag := a5, cg := c5 }) r.head r.at_ HAT.out] at hrow
     have HR20 : Hid (RowAt (w19.setCell ⟨w.heap.size, 35, none⟩ (.slice a8 S.nl c8)) w.heap.size REf (rfL { S with ab := a2, cb := c2, ag := a5, cg := c5, al := a8, cl := c8 } r.head r.at_)) := Lib.hid hrow
     have HO20 := Lib.hid (holds_setBox HO19.out HR19.out NEr3 35 (.slice a8 S.nl c8))
     have HZ20 := Lib.hid (HZ19.out.other (a := ⟨w.heap.size, 35, none⟩) (Nat.succ_ne_self _) (.slice a8 S.nl c8))
     have HB20 := Lib.hid (HB19.out.setCell (p := ⟨w.heap.size, 35, none⟩) (Nat.le_refl _) (.slice a8 S.nl c8))
     generalize w19.setCell ⟨w.heap.size, 35, none⟩ (.slice a8 S.nl c8) = w20 at HR20 HO20 HZ20 HB20 ⊢
     refine hK.out _ _ trivial (fun hHeld => ?_)
     clear hK K
     refine wpAnyH_done (by kernel_rfl) ?_ _
     go_wp2_with (first
      | ((with_reducible refine atS 15 ?_); go_must (refine wl_ex rfl (exec_loadRf _ rfl _ { S with ab := a2, cb := c2, ag := a5, cg := c5, al := a8, cl := c8 } r.head r.at_ HAT.out rfl HR20.out) ?_))
      | ((with_reducible refine atT 2 ?_); go_must (refine wl_store_rf (S := { S with ab := a2, cb := c2, ag := a5, cg := c5, al := a8, cl := c8 }) (h := r.head) (a := r.at_) HAT.out HZ20.out (len36 rfl) rfl _ _ rfl rfl rfl ?_); intro w21 hr21 hg21; have HR21 := Lib.hid hr21; have HG21 := Lib.hid hg21; clear hr21 hg21))
     refine bodyPost_ret (results_row rfl _ _ (w.heap.size + 1) REf (rfL { S with ab := a2, cb := c2, ag := a5, cg := c5, al := a8, cl := c8 } r.head r.at_) _ rfl HR21.out Tryd.underlying35 rfl (size36 HAT.out)) rfl ?_
     refine ⟨{ S with ab := a2, cb := c2, ag := a5, cg := c5, al := a8, cl := c8 }, rfl, ⟨HO20.out.grownOut HG21.out NEr3 HZ20.out, HK2.out, HK5.out, HK8.out, HAT.out⟩, HB20.out.grown HG21.out HB20.out.size (fun k hk => by cases hk; omega)⟩
    ·have hcell := rf_log HAT.out HR2.out
     go_simp
     clear hcell
     refine hK.out _ _ trivial (fun hHeld => ?_)
     clear hK K
     refine tk 9 (mo 12 (.fieldAddr 35 (.tmp 1) 0)) (.pointer (some ⟨w.heap.size, 0, none⟩)) rfl ?_
     refine rdH [5] ?_
     refine AllReadyH.cons (o := ⟨some 8, .call { callee := .value (.func 72), args := #[(.tmp 7)], argTypes := #[33] }, _, _, _, _⟩) rfl (fun K hK => ?_) AllReadyH.nil
     go_simp
     refine (HCG.out _ HB2.out).mono ?_
     rintro e w5 ⟨a5, c5, rfl, ho5, hb5⟩
     have HH5 := Lib.hid (Holds.add (base := w.heap.size) (h := hG rnK NEf (.slice a5 S.ng c5) r.tg) HH2.out ho5.1 hb5 HB2.out.size)
     have HK5 := Lib.hid ho5.2
     have HR5 := Lib.hid (HR2.out.below hb5)
     have HZ5 := Lib.hid (HZ2.out.below hb5)
     have HB5 := thn HB2 hb5
     clear ho5 hb5
     refine hK.out _ _ trivial (fun hHeld => ?_)
     clear hK K
     refine rdH [8] ?_
     refine AllReadyH.cons (o := ⟨some 11, .call { callee := .value (.func 73), args := #[(.tmp 10)], argTypes := #[25] }, _, _, _, _⟩) rfl (fun K hK => ?_) AllReadyH.nil
     go_simp
     refine (HCL.out _ HB5.out).mono ?_
     rintro e w8 ⟨a8, c8, rfl, ho8, hb8⟩
     have HH8 := Lib.hid (Holds.add (base := w.heap.size) (h := hG enK EEf (.slice a8 S.nl c8) r.log) HH5.out ho8.1 hb8 HB5.out.size)
     have HK8 := Lib.hid ho8.2
     have HR8 := Lib.hid (HR5.out.below hb8)
     have HZ8 := Lib.hid (HZ5.out.below hb8)
     have HB8 := thn HB5 hb8
     clear ho8 hb8
     refine hK.out _ _ trivial (fun hHeld => ?_)
     clear hK K
     have HO8 := Lib.hid (Holds.perm HH8.out (List.reverse_perm _).symm)
     have NEr3 : ∀ x ∈ [hG rnK NEf (.slice a2 S.nb c2) r.br, hG rnK NEf (.slice a5 S.ng c5) r.tg, hG enK EEf (.slice a8 S.nl c8) r.log], x.E ≠ REf := fun x hx => by simp only [List.mem_cons, List.not_mem_nil, or_false] at hx; rcases hx with rfl | rfl | rfl <;> first | exact NErf | exact EErf
     refine rdH [10] ?_
     refine AllReadyH.cons (o := ⟨none, .store 33 (.tmp 12) (.tmp 5), _, _, _, _⟩) rfl (fun K hK => ?_) AllReadyH.nil
     have hcell := rf_br HR8.out
     have hfz := HR8.out.free 0
     go_simp
     clear hcell hfz
     have HR18 : Hid (RowAt (w8.setCell ⟨w.heap.size, 0, none⟩ (.slice a2 S.nb c2)) w.heap.size REf (rfL { S with ab := a2, cb := c2 } r.head r.at_)) := Lib.hid (HR8.out.set 0 (.slice a2 S.nb c2))
     have HO18 := Lib.hid (holds_setBox HO8.out HR8.out NEr3 0 (.slice a2 S.nb c2))
     have HZ18 := Lib.hid (HZ8.out.other (a := ⟨w.heap.size, 0, none⟩) (Nat.succ_ne_self _) (.slice a2 S.nb c2))
     have HB18 := Lib.hid (HB8.out.setCell (p := ⟨w.heap.size, 0, none⟩) (Nat.le_refl _) (.slice a2 S.nb c2))
     generalize w8.setCell ⟨w.heap.size, 0, none⟩ (.slice a2 S.nb c2) = w18 at HR18 HO18 HZ18 HB18 ⊢
     refine hK.out _ _ trivial (fun hHeld => ?_)
     clear hK K
     refine tk 11 (mo 13 (.fieldAddr 35 (.tmp 1) 1)) (.pointer (some ⟨w.heap.size, 1, none⟩)) rfl ?_
     refine rdH [12] ?_
     refine AllReadyH.cons (o := ⟨none, .store 33 (.tmp 13) (.tmp 8), _, _, _, _⟩) rfl (fun K hK => ?_) AllReadyH.nil
     have hcell := rf_tg HR18.out
     have hfz := HR18.out.free 1
     go_simp
     clear hcell hfz
     have HR19 : Hid (RowAt (w18.setCell ⟨w.heap.size, 1, none⟩ (.slice a5 S.ng c5)) w.heap.size REf (rfL { S with ab := a2, cb := c2, ag := a5, cg := c5 } r.head r.at_)) := Lib.hid (HR18.out.set 1 (.slice a5 S.ng c5))
     have HO19 := Lib.hid (holds_setBox HO18.out HR18.out NEr3 1 (.slice a5 S.ng c5))
     have HZ19 := Lib.hid (HZ18.out.other (a := ⟨w.heap.size, 1, none⟩) (Nat.succ_ne_self _) (.slice a5 S.ng c5))
     have HB19 := Lib.hid (HB18.out.setCell (p := ⟨w.heap.size, 1, none⟩) (Nat.le_refl _) (.slice a5 S.ng c5))
     generalize w18.setCell ⟨w.heap.size, 1, none⟩ (.slice a5 S.ng c5) = w19 at HR19 HO19 HZ19 HB19 ⊢
     refine hK.out _ _ trivial (fun hHeld => ?_)
     clear hK K
     refine tk 13 (mo 14 (.fieldAddr 35 (.tmp 1) 4)) (.pointer (some ⟨w.heap.size, 35, none⟩)) rfl ?_
     refine rdH [14] ?_
     refine AllReadyH.cons (o := ⟨none, .store 25 (.tmp 14) (.tmp 11), _, _, _, _⟩) rfl (fun K hK => ?_) AllReadyH.nil
     have hcell := rf_log HAT.out HR19.out
     have hfz := HR19.out.free 35
     go_simp
     clear hcell hfz
     have hrow := HR19.out.set 35 (.slice a8 S.nl c8)
     rw [rfL_log ({ S with ab := a2, cb := c2, ag := a5, cg := c5 }) r.head r.at_ HAT.out] at hrow
     have HR20 : Hid (RowAt (w19.setCell ⟨w.heap.size, 35, none⟩ (.slice a8 S.nl c8)) w.heap.size REf (rfL { S with ab := a2, cb := c2, ag := a5, cg := c5, al := a8, cl := c8 } r.head r.at_)) := Lib.hid hrow
     have HO20 := Lib.hid (holds_setBox HO19.out HR19.out NEr3 35 (.slice a8 S.nl c8))
     have HZ20 := Lib.hid (HZ19.out.other (a := ⟨w.heap.size, 35, none⟩) (Nat.succ_ne_self _) (.slice a8 S.nl c8))
     have HB20 := Lib.hid (HB19.out.setCell (p := ⟨w.heap.size, 35, none⟩) (Nat.le_refl _) (.slice a8 S.nl c8))
     generalize w19.setCell ⟨w.heap.size, 35, none⟩ (.slice a8 S.nl c8) = w20 at HR20 HO20 HZ20 HB20 ⊢
     refine hK.out _ _ trivial (fun hHeld => ?_)
     clear hK K
     refine wpAnyH_done (by kernel_rfl) ?_ _
     go_wp2_with (first
      | ((with_reducible refine atS 15 ?_); go_must (refine wl_ex rfl (exec_loadRf _ rfl _ { S with ab := a2, cb := c2, ag := a5, cg := c5, al := a8, cl := c8 } r.head r.at_ HAT.out rfl HR20.out) ?_))
      | ((with_reducible refine atT 2 ?_); go_must (refine wl_store_rf (S := { S with ab := a2, cb := c2, ag := a5, cg := c5, al := a8, cl := c8 }) (h := r.head) (a := r.at_) HAT.out HZ20.out (len36 rfl) rfl _ _ rfl rfl rfl ?_); intro w21 hr21 hg21; have HR21 := Lib.hid hr21; have HG21 := Lib.hid hg21; clear hr21 hg21))
     refine bodyPost_ret (results_row rfl _ _ (w.heap.size + 1) REf (rfL { S with ab := a2, cb := c2, ag := a5, cg := c5, al := a8, cl := c8 } r.head r.at_) _ rfl HR21.out Tryd.underlying35 rfl (size36 HAT.out)) rfl ?_
     refine ⟨{ S with ab := a2, cb := c2, ag := a5, cg := c5, al := a8, cl := c8 }, rfl, ⟨HO20.out.grownOut HG21.out NEr3 HZ20.out, HK2.out, HK5.out, HK8.out, HAT.out⟩, HB20.out.grown HG21.out HB20.out.size (fun k hk => by cases hk; omega)⟩
   ·have hcell := rf_log HAT.out HR0.out
    go_simp
    clear hcell
    refine hK.out _ _ trivial (fun hHeld => ?_)
    clear hK K
    refine rdH [2] ?_
    refine AllReadyH.cons (o := ⟨some 5, .call { callee := .value (.func 72), args := #[(.tmp 4)], argTypes := #[33] }, _, _, _, _⟩) rfl (fun K hK => ?_) AllReadyH.nil
    go_simp
    refine (HCB.out _ HB0.out).mono ?_
    rintro e w2 ⟨a2, c2, rfl, ho2, hb2⟩
    have HH2 := Lib.hid (Holds.add (base := w.heap.size) (h := hG rnK NEf (.slice a2 S.nb c2) r.br) Holds.nil ho2.1 hb2 HB0.out.size)
    have HK2 := Lib.hid ho2.2
    have HR2 := Lib.hid (HR0.out.below hb2)
    have HZ2 := Lib.hid (HZ0.out.below hb2)
    have HB2 := thn HB0 hb2
    clear ho2 hb2
    refine hK.out _ _ trivial (fun hHeld => ?_)
    clear hK K
    refine tk 9 (mo 12 (.fieldAddr 35 (.tmp 1) 0)) (.pointer (some ⟨w.heap.size, 0, none⟩)) rfl ?_
    refine rdH [5] ?_
    refine AllReadyH.cons (o := ⟨some 8, .call { callee := .value (.func 72), args := #[(.tmp 7)], argTypes := #[33] }, _, _, _, _⟩) rfl (fun K hK => ?_) AllReadyH.nil
    go_simp
    refine (HCG.out _ HB2.out).mono ?_
    rintro e w5 ⟨a5, c5, rfl, ho5, hb5⟩
    have HH5 := Lib.hid (Holds.add (base := w.heap.size) (h := hG rnK NEf (.slice a5 S.ng c5) r.tg) HH2.out ho5.1 hb5 HB2.out.size)
    have HK5 := Lib.hid ho5.2
    have HR5 := Lib.hid (HR2.out.below hb5)
    have HZ5 := Lib.hid (HZ2.out.below hb5)
    have HB5 := thn HB2 hb5
    clear ho5 hb5
    refine hK.out _ _ trivial (fun hHeld => ?_)
    clear hK K
    refine rdH [8] ?_
    refine AllReadyH.cons (o := ⟨some 11, .call { callee := .value (.func 73), args := #[(.tmp 10)], argTypes := #[25] }, _, _, _, _⟩) rfl (fun K hK => ?_) AllReadyH.nil
    go_simp
    refine (HCL.out _ HB5.out).mono ?_
    rintro e w8 ⟨a8, c8, rfl, ho8, hb8⟩
    have HH8 := Lib.hid (Holds.add (base := w.heap.size) (h := hG enK EEf (.slice a8 S.nl c8) r.log) HH5.out ho8.1 hb8 HB5.out.size)
    have HK8 := Lib.hid ho8.2
    have HR8 := Lib.hid (HR5.out.below hb8)
    have HZ8 := Lib.hid (HZ5.out.below hb8)
    have HB8 := thn HB5 hb8
    clear ho8 hb8
    refine hK.out _ _ trivial (fun hHeld => ?_)
    clear hK K
    have HO8 := Lib.hid (Holds.perm HH8.out (List.reverse_perm _).symm)
    have NEr3 : ∀ x ∈ [hG rnK NEf (.slice a2 S.nb c2) r.br, hG rnK NEf (.slice a5 S.ng c5) r.tg, hG enK EEf (.slice a8 S.nl c8) r.log], x.E ≠ REf := fun x hx => by simp only [List.mem_cons, List.not_mem_nil, or_false] at hx; rcases hx with rfl | rfl | rfl <;> first | exact NErf | exact EErf
    refine rdH [10] ?_
    refine AllReadyH.cons (o := ⟨none, .store 33 (.tmp 12) (.tmp 5), _, _, _, _⟩) rfl (fun K hK => ?_) AllReadyH.nil
    have hcell := rf_br HR8.out
    have hfz := HR8.out.free 0
    go_simp
    clear hcell hfz
    have HR18 : Hid (RowAt (w8.setCell ⟨w.heap.size, 0, none⟩ (.slice a2 S.nb c2)) w.heap.size REf (rfL { S with ab := a2, cb := c2 } r.head r.at_)) := Lib.hid (HR8.out.set 0 (.slice a2 S.nb c2))
    have HO18 := Lib.hid (holds_setBox HO8.out HR8.out NEr3 0 (.slice a2 S.nb c2))
    have HZ18 := Lib.hid (HZ8.out.other (a := ⟨w.heap.size, 0, none⟩) (Nat.succ_ne_self _) (.slice a2 S.nb c2))
    have HB18 := Lib.hid (HB8.out.setCell (p := ⟨w.heap.size, 0, none⟩) (Nat.le_refl _) (.slice a2 S.nb c2))
    generalize w8.setCell ⟨w.heap.size, 0, none⟩ (.slice a2 S.nb c2) = w18 at HR18 HO18 HZ18 HB18 ⊢
    refine hK.out _ _ trivial (fun hHeld => ?_)
    clear hK K
    refine tk 11 (mo 13 (.fieldAddr 35 (.tmp 1) 1)) (.pointer (some ⟨w.heap.size, 1, none⟩)) rfl ?_
    refine rdH [12] ?_
    refine AllReadyH.cons (o := ⟨none, .store 33 (.tmp 13) (.tmp 8), _, _, _, _⟩) rfl (fun K hK => ?_) AllReadyH.nil
    have hcell := rf_tg HR18.out
    have hfz := HR18.out.free 1
    go_simp
    clear hcell hfz
    have HR19 : Hid (RowAt (w18.setCell ⟨w.heap.size, 1, none⟩ (.slice a5 S.ng c5)) w.heap.size REf (rfL { S with ab := a2, cb := c2, ag := a5, cg := c5 } r.head r.at_)) := Lib.hid (HR18.out.set 1 (.slice a5 S.ng c5))
    have HO19 := Lib.hid (holds_setBox HO18.out HR18.out NEr3 1 (.slice a5 S.ng c5))
    have HZ19 := Lib.hid (HZ18.out.other (a := ⟨w.heap.size, 1, none⟩) (Nat.succ_ne_self _) (.slice a5 S.ng c5))
    have HB19 := Lib.hid (HB18.out.setCell (p := ⟨w.heap.size, 1, none⟩) (Nat.le_refl _) (.slice a5 S.ng c5))
    generalize w18.setCell ⟨w.heap.size, 1, none⟩ (.slice a5 S.ng c5) = w19 at HR19 HO19 HZ19 HB19 ⊢
    refine hK.out _ _ trivial (fun hHeld => ?_)
    clear hK K
    refine tk 13 (mo 14 (.fieldAddr 35 (.tmp 1) 4)) (.pointer (some ⟨w.heap.size, 35, none⟩)) rfl ?_
    refine rdH [14] ?_
    refine AllReadyH.cons (o := ⟨none, .store 25 (.tmp 14) (.tmp 11), _, _, _, _⟩) rfl (fun K hK => ?_) AllReadyH.nil
    have hcell := rf_log HAT.out HR19.out
    have hfz := HR19.out.free 35
    go_simp
    clear hcell hfz
    have hrow := HR19.out.set 35 (.slice a8 S.nl c8)
    rw [rfL_log ({ S with ab := a2, cb := c2, ag := a5, cg := c5 }) r.head r.at_ HAT.out] at hrow
    have HR20 : Hid (RowAt (w19.setCell ⟨w.heap.size, 35, none⟩ (.slice a8 S.nl c8)) w.heap.size REf (rfL { S with ab := a2, cb := c2, ag := a5, cg := c5, al := a8, cl := c8 } r.head r.at_)) := Lib.hid hrow
    have HO20 := Lib.hid (holds_setBox HO19.out HR19.out NEr3 35 (.slice a8 S.nl c8))
    have HZ20 := Lib.hid (HZ19.out.other (a := ⟨w.heap.size, 35, none⟩) (Nat.succ_ne_self _) (.slice a8 S.nl c8))
    have HB20 := Lib.hid (HB19.out.setCell (p := ⟨w.heap.size, 35, none⟩) (Nat.le_refl _) (.slice a8 S.nl c8))
    generalize w19.setCell ⟨w.heap.size, 35, none⟩ (.slice a8 S.nl c8) = w20 at HR20 HO20 HZ20 HB20 ⊢
    refine hK.out _ _ trivial (fun hHeld => ?_)
    clear hK K
    refine wpAnyH_done (by kernel_rfl) ?_ _
    go_wp2_with (first
     | ((with_reducible refine atS 15 ?_); go_must (refine wl_ex rfl (exec_loadRf _ rfl _ { S with ab := a2, cb := c2, ag := a5, cg := c5, al := a8, cl := c8 } r.head r.at_ HAT.out rfl HR20.out) ?_))
     | ((with_reducible refine atT 2 ?_); go_must (refine wl_store_rf (S := { S with ab := a2, cb := c2, ag := a5, cg := c5, al := a8, cl := c8 }) (h := r.head) (a := r.at_) HAT.out HZ20.out (len36 rfl) rfl _ _ rfl rfl rfl ?_); intro w21 hr21 hg21; have HR21 := Lib.hid hr21; have HG21 := Lib.hid hg21; clear hr21 hg21))
    refine bodyPost_ret (results_row rfl _ _ (w.heap.size + 1) REf (rfL { S with ab := a2, cb := c2, ag := a5, cg := c5, al := a8, cl := c8 } r.head r.at_) _ rfl HR21.out Tryd.underlying35 rfl (size36 HAT.out)) rfl ?_
    refine ⟨{ S with ab := a2, cb := c2, ag := a5, cg := c5, al := a8, cl := c8 }, rfl, ⟨HO20.out.grownOut HG21.out NEr3 HZ20.out, HK2.out, HK5.out, HK8.out, HAT.out⟩, HB20.out.grown HG21.out HB20.out.size (fun k hk => by cases hk; omega)⟩
  ·have hcell := rf_log HAT.out HR0.out
   go_simp
   clear hcell
   refine hK.out _ _ trivial (fun hHeld => ?_)
   clear hK K
   refine rdH [1] ?_
   refine AllReadyH.cons (o := ⟨some 4, .load 33 (.tmp 3), _, _, _, _⟩) rfl (fun K hK => ?_) AllReadyH.nil
   have hcell := rf_br HR0.out
   go_simp
   clear hcell
   refine hK.out _ _ trivial (fun hHeld => ?_)
   clear hK K
   refine rdH [2] ?_
   refine AllReadyH.cons (o := ⟨some 5, .call { callee := .value (.func 72), args := #[(.tmp 4)], argTypes := #[33] }, _, _, _, _⟩) rfl (fun K hK => ?_) AllReadyH.nil
   go_simp
   refine (HCB.out _ HB0.out).mono ?_
   rintro e w2 ⟨a2, c2, rfl, ho2, hb2⟩
   have HH2 := Lib.hid (Holds.add (base := w.heap.size) (h := hG rnK NEf (.slice a2 S.nb c2) r.br) Holds.nil ho2.1 hb2 HB0.out.size)
   have HK2 := Lib.hid ho2.2
   have HR2 := Lib.hid (HR0.out.below hb2)
   have HZ2 := Lib.hid (HZ0.out.below hb2)
   have HB2 := thn HB0 hb2
   clear ho2 hb2
   refine hK.out _ _ trivial (fun hHeld => ?_)
   clear hK K
   refine tk 9 (mo 12 (.fieldAddr 35 (.tmp 1) 0)) (.pointer (some ⟨w.heap.size, 0, none⟩)) rfl ?_
   refine rdH [5] ?_
   refine AllReadyH.cons (o := ⟨some 8, .call { callee := .value (.func 72), args := #[(.tmp 7)], argTypes := #[33] }, _, _, _, _⟩) rfl (fun K hK => ?_) AllReadyH.nil
   go_simp
   refine (HCG.out _ HB2.out).mono ?_
   rintro e w5 ⟨a5, c5, rfl, ho5, hb5⟩
   have HH5 := Lib.hid (Holds.add (base := w.heap.size) (h := hG rnK NEf (.slice a5 S.ng c5) r.tg) HH2.out ho5.1 hb5 HB2.out.size)
   have HK5 := Lib.hid ho5.2
   have HR5 := Lib.hid (HR2.out.below hb5)
   have HZ5 := Lib.hid (HZ2.out.below hb5)
   have HB5 := thn HB2 hb5
   clear ho5 hb5
   refine hK.out _ _ trivial (fun hHeld => ?_)
   clear hK K
   refine rdH [8] ?_
   refine AllReadyH.cons (o := ⟨some 11, .call { callee := .value (.func 73), args := #[(.tmp 10)], argTypes := #[25] }, _, _, _, _⟩) rfl (fun K hK => ?_) AllReadyH.nil
   go_simp
   refine (HCL.out _ HB5.out).mono ?_
   rintro e w8 ⟨a8, c8, rfl, ho8, hb8⟩
   have HH8 := Lib.hid (Holds.add (base := w.heap.size) (h := hG enK EEf (.slice a8 S.nl c8) r.log) HH5.out ho8.1 hb8 HB5.out.size)
   have HK8 := Lib.hid ho8.2
   have HR8 := Lib.hid (HR5.out.below hb8)
   have HZ8 := Lib.hid (HZ5.out.below hb8)
   have HB8 := thn HB5 hb8
   clear ho8 hb8
   refine hK.out _ _ trivial (fun hHeld => ?_)
   clear hK K
   have HO8 := Lib.hid (Holds.perm HH8.out (List.reverse_perm _).symm)
   have NEr3 : ∀ x ∈ [hG rnK NEf (.slice a2 S.nb c2) r.br, hG rnK NEf (.slice a5 S.ng c5) r.tg, hG enK EEf (.slice a8 S.nl c8) r.log], x.E ≠ REf := fun x hx => by simp only [List.mem_cons, List.not_mem_nil, or_false] at hx; rcases hx with rfl | rfl | rfl <;> first | exact NErf | exact EErf
   refine rdH [10] ?_
   refine AllReadyH.cons (o := ⟨none, .store 33 (.tmp 12) (.tmp 5), _, _, _, _⟩) rfl (fun K hK => ?_) AllReadyH.nil
   have hcell := rf_br HR8.out
   have hfz := HR8.out.free 0
   go_simp
   clear hcell hfz
   have HR18 : Hid (RowAt (w8.setCell ⟨w.heap.size, 0, none⟩ (.slice a2 S.nb c2)) w.heap.size REf (rfL { S with ab := a2, cb := c2 } r.head r.at_)) := Lib.hid (HR8.out.set 0 (.slice a2 S.nb c2))
   have HO18 := Lib.hid (holds_setBox HO8.out HR8.out NEr3 0 (.slice a2 S.nb c2))
   have HZ18 := Lib.hid (HZ8.out.other (a := ⟨w.heap.size, 0, none⟩) (Nat.succ_ne_self _) (.slice a2 S.nb c2))
   have HB18 := Lib.hid (HB8.out.setCell (p := ⟨w.heap.size, 0, none⟩) (Nat.le_refl _) (.slice a2 S.nb c2))
   generalize w8.setCell ⟨w.heap.size, 0, none⟩ (.slice a2 S.nb c2) = w18 at HR18 HO18 HZ18 HB18 ⊢
   refine hK.out _ _ trivial (fun hHeld => ?_)
   clear hK K
   refine tk 11 (mo 13 (.fieldAddr 35 (.tmp 1) 1)) (.pointer (some ⟨w.heap.size, 1, none⟩)) rfl ?_
   refine rdH [12] ?_
   refine AllReadyH.cons (o := ⟨none, .store 33 (.tmp 13) (.tmp 8), _, _, _, _⟩) rfl (fun K hK => ?_) AllReadyH.nil
   have hcell := rf_tg HR18.out
   have hfz := HR18.out.free 1
   go_simp
   clear hcell hfz
   have HR19 : Hid (RowAt (w18.setCell ⟨w.heap.size, 1, none⟩ (.slice a5 S.ng c5)) w.heap.size REf (rfL { S with ab := a2, cb := c2, ag := a5, cg := c5 } r.head r.at_)) := Lib.hid (HR18.out.set 1 (.slice a5 S.ng c5))
   have HO19 := Lib.hid (holds_setBox HO18.out HR18.out NEr3 1 (.slice a5 S.ng c5))
   have HZ19 := Lib.hid (HZ18.out.other (a := ⟨w.heap.size, 1, none⟩) (Nat.succ_ne_self _) (.slice a5 S.ng c5))
   have HB19 := Lib.hid (HB18.out.setCell (p := ⟨w.heap.size, 1, none⟩) (Nat.le_refl _) (.slice a5 S.ng c5))
   generalize w18.setCell ⟨w.heap.size, 1, none⟩ (.slice a5 S.ng c5) = w19 at HR19 HO19 HZ19 HB19 ⊢
   refine hK.out _ _ trivial (fun hHeld => ?_)
   clear hK K
   refine tk 13 (mo 14 (.fieldAddr 35 (.tmp 1) 4)) (.pointer (some ⟨w.heap.size, 35, none⟩)) rfl ?_
   refine rdH [14] ?_
   refine AllReadyH.cons (o := ⟨none, .store 25 (.tmp 14) (.tmp 11), _, _, _, _⟩) rfl (fun K hK => ?_) AllReadyH.nil
   have hcell := rf_log HAT.out HR19.out
   have hfz := HR19.out.free 35
   go_simp
   clear hcell hfz
   have hrow := HR19.out.set 35 (.slice a8 S.nl c8)
   rw [rfL_log ({ S with ab := a2, cb := c2, ag := a5, cg := c5 }) r.head r.at_ HAT.out] at hrow
   have HR20 : Hid (RowAt (w19.setCell ⟨w.heap.size, 35, none⟩ (.slice a8 S.nl c8)) w.heap.size REf (rfL { S with ab := a2, cb := c2, ag := a5, cg := c5, al := a8, cl := c8 } r.head r.at_)) := Lib.hid hrow
   have HO20 := Lib.hid (holds_setBox HO19.out HR19.out NEr3 35 (.slice a8 S.nl c8))
   have HZ20 := Lib.hid (HZ19.out.other (a := ⟨w.heap.size, 35, none⟩) (Nat.succ_ne_self _) (.slice a8 S.nl c8))
   have HB20 := Lib.hid (HB19.out.setCell (p := ⟨w.heap.size, 35, none⟩) (Nat.le_refl _) (.slice a8 S.nl c8))
   generalize w19.setCell ⟨w.heap.size, 35, none⟩ (.slice a8 S.nl c8) = w20 at HR20 HO20 HZ20 HB20 ⊢
   refine hK.out _ _ trivial (fun hHeld => ?_)
   clear hK K
   refine wpAnyH_done (by kernel_rfl) ?_ _
   go_wp2_with (first
    | ((with_reducible refine atS 15 ?_); go_must (refine wl_ex rfl (exec_loadRf _ rfl _ { S with ab := a2, cb := c2, ag := a5, cg := c5, al := a8, cl := c8 } r.head r.at_ HAT.out rfl HR20.out) ?_))
    | ((with_reducible refine atT 2 ?_); go_must (refine wl_store_rf (S := { S with ab := a2, cb := c2, ag := a5, cg := c5, al := a8, cl := c8 }) (h := r.head) (a := r.at_) HAT.out HZ20.out (len36 rfl) rfl _ _ rfl rfl rfl ?_); intro w21 hr21 hg21; have HR21 := Lib.hid hr21; have HG21 := Lib.hid hg21; clear hr21 hg21))
   refine bodyPost_ret (results_row rfl _ _ (w.heap.size + 1) REf (rfL { S with ab := a2, cb := c2, ag := a5, cg := c5, al := a8, cl := c8 } r.head r.at_) _ rfl HR21.out Tryd.underlying35 rfl (size36 HAT.out)) rfl ?_
   refine ⟨{ S with ab := a2, cb := c2, ag := a5, cg := c5, al := a8, cl := c8 }, rfl, ⟨HO20.out.grownOut HG21.out NEr3 HZ20.out, HK2.out, HK5.out, HK8.out, HAT.out⟩, HB20.out.grown HG21.out HB20.out.size (fun k hk => by cases hk; omega)⟩
 ·have hcell := rf_log HAT.out HR0.out
  go_simp
  clear hcell
  refine hK.out _ _ trivial (fun hHeld => ?_)
  clear hK K
  refine rdH [1, 4] ?_
  refine AllReadyH.cons (o := ⟨some 4, .load 33 (.tmp 3), _, _, _, _⟩) rfl (fun K hK => ?_) (AllReadyH.cons (o := ⟨some 7, .load 33 (.tmp 6), _, _, _, _⟩) rfl (fun K hK => ?_) AllReadyH.nil)
  ·have hcell := rf_br HR0.out
   go_simp
   clear hcell
   refine hK.out _ _ trivial (fun hHeld => ?_)
   clear hK K
   refine rdH [2, 4] ?_
   refine AllReadyH.cons (o := ⟨some 5, .call { callee := .value (.func 72), args := #[(.tmp 4)], argTypes := #[33] }, _, _, _, _⟩) rfl (fun K hK => ?_) (AllReadyH.cons (o := ⟨some 7, .load 33 (.tmp 6), _, _, _, _⟩) rfl (fun K hK => ?_) AllReadyH.nil)
   ·go_simp
    refine (HCB.out _ HB0.out).mono ?_
    rintro e w2 ⟨a2, c2, rfl, ho2, hb2⟩
    have HH2 := Lib.hid (Holds.add (base := w.heap.size) (h := hG rnK NEf (.slice a2 S.nb c2) r.br) Holds.nil ho2.1 hb2 HB0.out.size)
    have HK2 := Lib.hid ho2.2
    have HR2 := Lib.hid (HR0.out.below hb2)
    have HZ2 := Lib.hid (HZ0.out.below hb2)
    have HB2 := thn HB0 hb2
    clear ho2 hb2
    refine hK.out _ _ trivial (fun hHeld => ?_)
    clear hK K
    refine rdH [4] ?_
    refine AllReadyH.cons (o := ⟨some 7, .load 33 (.tmp 6), _, _, _, _⟩) rfl (fun K hK => ?_) AllReadyH.nil
    have hcell := rf_tg HR2.out
    go_simp
    clear hcell
    refine hK.out _ _ trivial (fun hHeld => ?_)
    clear hK K
    refine tk 9 (mo 12 (.fieldAddr 35 (.tmp 1) 0)) (.pointer (some ⟨w.heap.size, 0, none⟩)) rfl ?_
    refine rdH [5] ?_
    refine AllReadyH.cons (o := ⟨some 8, .call { callee := .value (.func 72), args := #[(.tmp 7)], argTypes := #[33] }, _, _, _, _⟩) rfl (fun K hK => ?_) AllReadyH.nil
    go_simp
    refine (HCG.out _ HB2.out).mono ?_
    rintro e w5 ⟨a5, c5, rfl, ho5, hb5⟩
    have HH5 := Lib.hid (Holds.add (base := w.heap.size) (h := hG rnK NEf (.slice a5 S.ng c5) r.tg) HH2.out ho5.1 hb5 HB2.out.size)
    have HK5 := Lib.hid ho5.2
    have HR5 := Lib.hid (HR2.out.below hb5)
    have HZ5 := Lib.hid (HZ2.out.below hb5)
    have HB5 := thn HB2 hb5
    clear ho5 hb5
    refine hK.out _ _ trivial (fun hHeld => ?_)
    clear hK K
    refine rdH [8] ?_
    refine AllReadyH.cons (o := ⟨some 11, .call { callee := .value (.func 73), args := #[(.tmp 10)], argTypes := #[25] }, _, _, _, _⟩) rfl (fun K hK => ?_) AllReadyH.nil
    go_simp
    refine (HCL.out _ HB5.out).mono ?_
    rintro e w8 ⟨a8, c8, rfl, ho8, hb8⟩
    have HH8 := Lib.hid (Holds.add (base := w.heap.size) (h := hG enK EEf (.slice a8 S.nl c8) r.log) HH5.out ho8.1 hb8 HB5.out.size)
    have HK8 := Lib.hid ho8.2
    have HR8 := Lib.hid (HR5.out.below hb8)
    have HZ8 := Lib.hid (HZ5.out.below hb8)
    have HB8 := thn HB5 hb8
    clear ho8 hb8
    refine hK.out _ _ trivial (fun hHeld => ?_)
    clear hK K
    have HO8 := Lib.hid (Holds.perm HH8.out (List.reverse_perm _).symm)
    have NEr3 : ∀ x ∈ [hG rnK NEf (.slice a2 S.nb c2) r.br, hG rnK NEf (.slice a5 S.ng c5) r.tg, hG enK EEf (.slice a8 S.nl c8) r.log], x.E ≠ REf := fun x hx => by simp only [List.mem_cons, List.not_mem_nil, or_false] at hx; rcases hx with rfl | rfl | rfl <;> first | exact NErf | exact EErf
    refine rdH [10] ?_
    refine AllReadyH.cons (o := ⟨none, .store 33 (.tmp 12) (.tmp 5), _, _, _, _⟩) rfl (fun K hK => ?_) AllReadyH.nil
    have hcell := rf_br HR8.out
    have hfz := HR8.out.free 0
    go_simp
    clear hcell hfz
    have HR18 : Hid (RowAt (w8.setCell ⟨w.heap.size, 0, none⟩ (.slice a2 S.nb c2)) w.heap.size REf (rfL { S with ab := a2, cb := c2 } r.head r.at_)) := Lib.hid (HR8.out.set 0 (.slice a2 S.nb c2))
    have HO18 := Lib.hid (holds_setBox HO8.out HR8.out NEr3 0 (.slice a2 S.nb c2))
    have HZ18 := Lib.hid (HZ8.out.other (a := ⟨w.heap.size, 0, none⟩) (Nat.succ_ne_self _) (.slice a2 S.nb c2))
    have HB18 := Lib.hid (HB8.out.setCell (p := ⟨w.heap.size, 0, none⟩) (Nat.le_refl _) (.slice a2 S.nb c2))
    generalize w8.setCell ⟨w.heap.size, 0, none⟩ (.slice a2 S.nb c2) = w18 at HR18 HO18 HZ18 HB18 ⊢
    refine hK.out _ _ trivial (fun hHeld => ?_)
    clear hK K
    refine tk 11 (mo 13 (.fieldAddr 35 (.tmp 1) 1)) (.pointer (some ⟨w.heap.size, 1, none⟩)) rfl ?_
    refine rdH [12] ?_
    refine AllReadyH.cons (o := ⟨none, .store 33 (.tmp 13) (.tmp 8), _, _, _, _⟩) rfl (fun K hK => ?_) AllReadyH.nil
    have hcell := rf_tg HR18.out
    have hfz := HR18.out.free 1
    go_simp
    clear hcell hfz
    have HR19 : Hid (RowAt (w18.setCell ⟨w.heap.size, 1, none⟩ (.slice a5 S.ng c5)) w.heap.size REf (rfL { S with ab := a2, cb := c2, ag := a5, cg := c5 } r.head r.at_)) := Lib.hid (HR18.out.set 1 (.slice a5 S.ng c5))
    have HO19 := Lib.hid (holds_setBox HO18.out HR18.out NEr3 1 (.slice a5 S.ng c5))
    have HZ19 := Lib.hid (HZ18.out.other (a := ⟨w.heap.size, 1, none⟩) (Nat.succ_ne_self _) (.slice a5 S.ng c5))
    have HB19 := Lib.hid (HB18.out.setCell (p := ⟨w.heap.size, 1, none⟩) (Nat.le_refl _) (.slice a5 S.ng c5))
    generalize w18.setCell ⟨w.heap.size, 1, none⟩ (.slice a5 S.ng c5) = w19 at HR19 HO19 HZ19 HB19 ⊢
    refine hK.out _ _ trivial (fun hHeld => ?_)
    clear hK K
    refine tk 13 (mo 14 (.fieldAddr 35 (.tmp 1) 4)) (.pointer (some ⟨w.heap.size, 35, none⟩)) rfl ?_
    refine rdH [14] ?_
    refine AllReadyH.cons (o := ⟨none, .store 25 (.tmp 14) (.tmp 11), _, _, _, _⟩) rfl (fun K hK => ?_) AllReadyH.nil
    have hcell := rf_log HAT.out HR19.out
    have hfz := HR19.out.free 35
    go_simp
    clear hcell hfz
    have hrow := HR19.out.set 35 (.slice a8 S.nl c8)
    rw [rfL_log ({ S with ab := a2, cb := c2, ag := a5, cg := c5 }) r.head r.at_ HAT.out] at hrow
    have HR20 : Hid (RowAt (w19.setCell ⟨w.heap.size, 35, none⟩ (.slice a8 S.nl c8)) w.heap.size REf (rfL { S with ab := a2, cb := c2, ag := a5, cg := c5, al := a8, cl := c8 } r.head r.at_)) := Lib.hid hrow
    have HO20 := Lib.hid (holds_setBox HO19.out HR19.out NEr3 35 (.slice a8 S.nl c8))
    have HZ20 := Lib.hid (HZ19.out.other (a := ⟨w.heap.size, 35, none⟩) (Nat.succ_ne_self _) (.slice a8 S.nl c8))
    have HB20 := Lib.hid (HB19.out.setCell (p := ⟨w.heap.size, 35, none⟩) (Nat.le_refl _) (.slice a8 S.nl c8))
    generalize w19.setCell ⟨w.heap.size, 35, none⟩ (.slice a8 S.nl c8) = w20 at HR20 HO20 HZ20 HB20 ⊢
    refine hK.out _ _ trivial (fun hHeld => ?_)
    clear hK K
    refine wpAnyH_done (by kernel_rfl) ?_ _
    go_wp2_with (first
     | ((with_reducible refine atS 15 ?_); go_must (refine wl_ex rfl (exec_loadRf _ rfl _ { S with ab := a2, cb := c2, ag := a5, cg := c5, al := a8, cl := c8 } r.head r.at_ HAT.out rfl HR20.out) ?_))
     | ((with_reducible refine atT 2 ?_); go_must (refine wl_store_rf (S := { S with ab := a2, cb := c2, ag := a5, cg := c5, al := a8, cl := c8 }) (h := r.head) (a := r.at_) HAT.out HZ20.out (len36 rfl) rfl _ _ rfl rfl rfl ?_); intro w21 hr21 hg21; have HR21 := Lib.hid hr21; have HG21 := Lib.hid hg21; clear hr21 hg21))
    refine bodyPost_ret (results_row rfl _ _ (w.heap.size + 1) REf (rfL { S with ab := a2, cb := c2, ag := a5, cg := c5, al := a8, cl := c8 } r.head r.at_) _ rfl HR21.out Tryd.underlying35 rfl (size36 HAT.out)) rfl ?_
    refine ⟨{ S with ab := a2, cb := c2, ag := a5, cg := c5, al := a8, cl := c8 }, rfl, ⟨HO20.out.grownOut HG21.out NEr3 HZ20.out, HK2.out, HK5.out, HK8.out, HAT.out⟩, HB20.out.grown HG21.out HB20.out.size (fun k hk => by cases hk; omega)⟩
   ·have hcell := rf_tg HR0.out
    go_simp
    clear hcell
    refine hK.out _ _ trivial (fun hHeld => ?_)
    clear hK K
    refine rdH [2] ?_
    refine AllReadyH.cons (o := ⟨some 5, .call { callee := .value (.func 72), args := #[(.tmp 4)], argTypes := #[33] }, _, _, _, _⟩) rfl (fun K hK => ?_) AllReadyH.nil
    go_simp
    refine (HCB.out _ HB0.out).mono ?_
    rintro e w2 ⟨a2, c2, rfl, ho2, hb2⟩
    have HH2 := Lib.hid (Holds.add (base := w.heap.size) (h := hG rnK NEf (.slice a2 S.nb c2) r.br) Holds.nil ho2.1 hb2 HB0.out.size)
    have HK2 := Lib.hid ho2.2
    have HR2 := Lib.hid (HR0.out.below hb2)
    have HZ2 := Lib.hid (HZ0.out.below hb2)
    have HB2 := thn HB0 hb2
    clear ho2 hb2
    refine hK.out _ _ trivial (fun hHeld => ?_)
    clear hK K
    refine tk 9 (mo 12 (.fieldAddr 35 (.tmp 1) 0)) (.pointer (some ⟨w.heap.size, 0, none⟩)) rfl ?_
    refine rdH [5] ?_
    refine AllReadyH.cons (o := ⟨some 8, .call { callee := .value (.func 72), args := #[(.tmp 7)], argTypes := #[33] }, _, _, _, _⟩) rfl (fun K hK => ?_) AllReadyH.nil
    go_simp
    refine (HCG.out _ HB2.out).mono ?_
    rintro e w5 ⟨a5, c5, rfl, ho5, hb5⟩
    have HH5 := Lib.hid (Holds.add (base := w.heap.size) (h := hG rnK NEf (.slice a5 S.ng c5) r.tg) HH2.out ho5.1 hb5 HB2.out.size)
    have HK5 := Lib.hid ho5.2
    have HR5 := Lib.hid (HR2.out.below hb5)
    have HZ5 := Lib.hid (HZ2.out.below hb5)
    have HB5 := thn HB2 hb5
    clear ho5 hb5
    refine hK.out _ _ trivial (fun hHeld => ?_)
    clear hK K
    refine rdH [8] ?_
    refine AllReadyH.cons (o := ⟨some 11, .call { callee := .value (.func 73), args := #[(.tmp 10)], argTypes := #[25] }, _, _, _, _⟩) rfl (fun K hK => ?_) AllReadyH.nil
    go_simp
    refine (HCL.out _ HB5.out).mono ?_
    rintro e w8 ⟨a8, c8, rfl, ho8, hb8⟩
    have HH8 := Lib.hid (Holds.add (base := w.heap.size) (h := hG enK EEf (.slice a8 S.nl c8) r.log) HH5.out ho8.1 hb8 HB5.out.size)
    have HK8 := Lib.hid ho8.2
    have HR8 := Lib.hid (HR5.out.below hb8)
    have HZ8 := Lib.hid (HZ5.out.below hb8)
    have HB8 := thn HB5 hb8
    clear ho8 hb8
    refine hK.out _ _ trivial (fun hHeld => ?_)
    clear hK K
    have HO8 := Lib.hid (Holds.perm HH8.out (List.reverse_perm _).symm)
    have NEr3 : ∀ x ∈ [hG rnK NEf (.slice a2 S.nb c2) r.br, hG rnK NEf (.slice a5 S.ng c5) r.tg, hG enK EEf (.slice a8 S.nl c8) r.log], x.E ≠ REf := fun x hx => by simp only [List.mem_cons, List.not_mem_nil, or_false] at hx; rcases hx with rfl | rfl | rfl <;> first | exact NErf | exact EErf
    refine rdH [10] ?_
    refine AllReadyH.cons (o := ⟨none, .store 33 (.tmp 12) (.tmp 5), _, _, _, _⟩) rfl (fun K hK => ?_) AllReadyH.nil
    have hcell := rf_br HR8.out
    have hfz := HR8.out.free 0
    go_simp
    clear hcell hfz
    have HR18 : Hid (RowAt (w8.setCell ⟨w.heap.size, 0, none⟩ (.slice a2 S.nb c2)) w.heap.size REf (rfL { S with ab := a2, cb := c2 } r.head r.at_)) := Lib.hid (HR8.out.set 0 (.slice a2 S.nb c2))
    have HO18 := Lib.hid (holds_setBox HO8.out HR8.out NEr3 0 (.slice a2 S.nb c2))
    have HZ18 := Lib.hid (HZ8.out.other (a := ⟨w.heap.size, 0, none⟩) (Nat.succ_ne_self _) (.slice a2 S.nb c2))
    have HB18 := Lib.hid (HB8.out.setCell (p := ⟨w.heap.size, 0, none⟩) (Nat.le_refl _) (.slice a2 S.nb c2))
    generalize w8.setCell ⟨w.heap.size, 0, none⟩ (.slice a2 S.nb c2) = w18 at HR18 HO18 HZ18 HB18 ⊢
    refine hK.out _ _ trivial (fun hHeld => ?_)
    clear hK K
    refine tk 11 (mo 13 (.fieldAddr 35 (.tmp 1) 1)) (.pointer (some ⟨w.heap.size, 1, none⟩)) rfl ?_
    refine rdH [12] ?_
    refine AllReadyH.cons (o := ⟨none, .store 33 (.tmp 13) (.tmp 8), _, _, _, _⟩) rfl (fun K hK => ?_) AllReadyH.nil
    have hcell := rf_tg HR18.out
    have hfz := HR18.out.free 1
    go_simp
    clear hcell hfz
    have HR19 : Hid (RowAt (w18.setCell ⟨w.heap.size, 1, none⟩ (.slice a5 S.ng c5)) w.heap.size REf (rfL { S with ab := a2, cb := c2, ag := a5, cg := c5 } r.head r.at_)) := Lib.hid (HR18.out.set 1 (.slice a5 S.ng c5))
    have HO19 := Lib.hid (holds_setBox HO18.out HR18.out NEr3 1 (.slice a5 S.ng c5))
    have HZ19 := Lib.hid (HZ18.out.other (a := ⟨w.heap.size, 1, none⟩) (Nat.succ_ne_self _) (.slice a5 S.ng c5))
    have HB19 := Lib.hid (HB18.out.setCell (p := ⟨w.heap.size, 1, none⟩) (Nat.le_refl _) (.slice a5 S.ng c5))
    generalize w18.setCell ⟨w.heap.size, 1, none⟩ (.slice a5 S.ng c5) = w19 at HR19 HO19 HZ19 HB19 ⊢
    refine hK.out _ _ trivial (fun hHeld => ?_)
    clear hK K
    refine tk 13 (mo 14 (.fieldAddr 35 (.tmp 1) 4)) (.pointer (some ⟨w.heap.size, 35, none⟩)) rfl ?_
    refine rdH [14] ?_
    refine AllReadyH.cons (o := ⟨none, .store 25 (.tmp 14) (.tmp 11), _, _, _, _⟩) rfl (fun K hK => ?_) AllReadyH.nil
    have hcell := rf_log HAT.out HR19.out
    have hfz := HR19.out.free 35
    go_simp
    clear hcell hfz
    have hrow := HR19.out.set 35 (.slice a8 S.nl c8)
    rw [rfL_log ({ S with ab := a2, cb := c2, ag := a5, cg := c5 }) r.head r.at_ HAT.out] at hrow
    have HR20 : Hid (RowAt (w19.setCell ⟨w.heap.size, 35, none⟩ (.slice a8 S.nl c8)) w.heap.size REf (rfL { S with ab := a2, cb := c2, ag := a5, cg := c5, al := a8, cl := c8 } r.head r.at_)) := Lib.hid hrow
    have HO20 := Lib.hid (holds_setBox HO19.out HR19.out NEr3 35 (.slice a8 S.nl c8))
    have HZ20 := Lib.hid (HZ19.out.other (a := ⟨w.heap.size, 35, none⟩) (Nat.succ_ne_self _) (.slice a8 S.nl c8))
    have HB20 := Lib.hid (HB19.out.setCell (p := ⟨w.heap.size, 35, none⟩) (Nat.le_refl _) (.slice a8 S.nl c8))
    generalize w19.setCell ⟨w.heap.size, 35, none⟩ (.slice a8 S.nl c8) = w20 at HR20 HO20 HZ20 HB20 ⊢
    refine hK.out _ _ trivial (fun hHeld => ?_)
    clear hK K
    refine wpAnyH_done (by kernel_rfl) ?_ _
    go_wp2_with (first
     | ((with_reducible refine atS 15 ?_); go_must (refine wl_ex rfl (exec_loadRf _ rfl _ { S with ab := a2, cb := c2, ag := a5, cg := c5, al := a8, cl := c8 } r.head r.at_ HAT.out rfl HR20.out) ?_))
     | ((with_reducible refine atT 2 ?_); go_must (refine wl_store_rf (S := { S with ab := a2, cb := c2, ag := a5, cg := c5, al := a8, cl := c8 }) (h := r.head) (a := r.at_) HAT.out HZ20.out (len36 rfl) rfl _ _ rfl rfl rfl ?_); intro w21 hr21 hg21; have HR21 := Lib.hid hr21; have HG21 := Lib.hid hg21; clear hr21 hg21))
    refine bodyPost_ret (results_row rfl _ _ (w.heap.size + 1) REf (rfL { S with ab := a2, cb := c2, ag := a5, cg := c5, al := a8, cl := c8 } r.head r.at_) _ rfl HR21.out Tryd.underlying35 rfl (size36 HAT.out)) rfl ?_
    refine ⟨{ S with ab := a2, cb := c2, ag := a5, cg := c5, al := a8, cl := c8 }, rfl, ⟨HO20.out.grownOut HG21.out NEr3 HZ20.out, HK2.out, HK5.out, HK8.out, HAT.out⟩, HB20.out.grown HG21.out HB20.out.size (fun k hk => by cases hk; omega)⟩
  ·have hcell := rf_tg HR0.out
   go_simp
   clear hcell
   refine hK.out _ _ trivial (fun hHeld => ?_)
   clear hK K
   refine rdH [1] ?_
   refine AllReadyH.cons (o := ⟨some 4, .load 33 (.tmp 3), _, _, _, _⟩) rfl (fun K hK => ?_) AllReadyH.nil
   have hcell := rf_br HR0.out
   go_simp
   clear hcell
   refine hK.out _ _ trivial (fun hHeld => ?_)
   clear hK K
   refine rdH [2] ?_
   refine AllReadyH.cons (o := ⟨some 5, .call { callee := .value (.func 72), args := #[(.tmp 4)], argTypes := #[33] }, _, _, _, _⟩) rfl (fun K hK => ?_) AllReadyH.nil
   go_simp
   refine (HCB.out _ HB0.out).mono ?_
   rintro e w2 ⟨a2, c2, rfl, ho2, hb2⟩
   have HH2 := Lib.hid (Holds.add (base := w.heap.size) (h := hG rnK NEf (.slice a2 S.nb c2) r.br) Holds.nil ho2.1 hb2 HB0.out.size)
   have HK2 := Lib.hid ho2.2
   have HR2 := Lib.hid (HR0.out.below hb2)
   have HZ2 := Lib.hid (HZ0.out.below hb2)
   have HB2 := thn HB0 hb2
   clear ho2 hb2
   refine hK.out _ _ trivial (fun hHeld => ?_)
   clear hK K
   refine tk 9 (mo 12 (.fieldAddr 35 (.tmp 1) 0)) (.pointer (some ⟨w.heap.size, 0, none⟩)) rfl ?_
   refine rdH [5] ?_
   refine AllReadyH.cons (o := ⟨some 8, .call { callee := .value (.func 72), args := #[(.tmp 7)], argTypes := #[33] }, _, _, _, _⟩) rfl (fun K hK => ?_) AllReadyH.nil
   go_simp
   refine (HCG.out _ HB2.out).mono ?_
   rintro e w5 ⟨a5, c5, rfl, ho5, hb5⟩
   have HH5 := Lib.hid (Holds.add (base := w.heap.size) (h := hG rnK NEf (.slice a5 S.ng c5) r.tg) HH2.out ho5.1 hb5 HB2.out.size)
   have HK5 := Lib.hid ho5.2
   have HR5 := Lib.hid (HR2.out.below hb5)
   have HZ5 := Lib.hid (HZ2.out.below hb5)
   have HB5 := thn HB2 hb5
   clear ho5 hb5
   refine hK.out _ _ trivial (fun hHeld => ?_)
   clear hK K
   refine rdH [8] ?_
   refine AllReadyH.cons (o := ⟨some 11, .call { callee := .value (.func 73), args := #[(.tmp 10)], argTypes := #[25] }, _, _, _, _⟩) rfl (fun K hK => ?_) AllReadyH.nil
   go_simp
   refine (HCL.out _ HB5.out).mono ?_
   rintro e w8 ⟨a8, c8, rfl, ho8, hb8⟩
   have HH8 := Lib.hid (Holds.add (base := w.heap.size) (h := hG enK EEf (.slice a8 S.nl c8) r.log) HH5.out ho8.1 hb8 HB5.out.size)
   have HK8 := Lib.hid ho8.2
   have HR8 := Lib.hid (HR5.out.below hb8)
   have HZ8 := Lib.hid (HZ5.out.below hb8)
   have HB8 := thn HB5 hb8
   clear ho8 hb8
   refine hK.out _ _ trivial (fun hHeld => ?_)
   clear hK K
   have HO8 := Lib.hid (Holds.perm HH8.out (List.reverse_perm _).symm)
   have NEr3 : ∀ x ∈ [hG rnK NEf (.slice a2 S.nb c2) r.br, hG rnK NEf (.slice a5 S.ng c5) r.tg, hG enK EEf (.slice a8 S.nl c8) r.log], x.E ≠ REf := fun x hx => by simp only [List.mem_cons, List.not_mem_nil, or_false] at hx; rcases hx with rfl | rfl | rfl <;> first | exact NErf | exact EErf
   refine rdH [10] ?_
   refine AllReadyH.cons (o := ⟨none, .store 33 (.tmp 12) (.tmp 5), _, _, _, _⟩) rfl (fun K hK => ?_) AllReadyH.nil
   have hcell := rf_br HR8.out
   have hfz := HR8.out.free 0
   go_simp
   clear hcell hfz
   have HR18 : Hid (RowAt (w8.setCell ⟨w.heap.size, 0, none⟩ (.slice a2 S.nb c2)) w.heap.size REf (rfL { S with ab := a2, cb := c2 } r.head r.at_)) := Lib.hid (HR8.out.set 0 (.slice a2 S.nb c2))
   have HO18 := Lib.hid (holds_setBox HO8.out HR8.out NEr3 0 (.slice a2 S.nb c2))
   have HZ18 := Lib.hid (HZ8.out.other (a := ⟨w.heap.size, 0, none⟩) (Nat.succ_ne_self _) (.slice a2 S.nb c2))
   have HB18 := Lib.hid (HB8.out.setCell (p := ⟨w.heap.size, 0, none⟩) (Nat.le_refl _) (.slice a2 S.nb c2))
   generalize w8.setCell ⟨w.heap.size, 0, none⟩ (.slice a2 S.nb c2) = w18 at HR18 HO18 HZ18 HB18 ⊢
   refine hK.out _ _ trivial (fun hHeld => ?_)
   clear hK K
   refine tk 11 (mo 13 (.fieldAddr 35 (.tmp 1) 1)) (.pointer (some ⟨w.heap.size, 1, none⟩)) rfl ?_
   refine rdH [12] ?_
   refine AllReadyH.cons (o := ⟨none, .store 33 (.tmp 13) (.tmp 8), _, _, _, _⟩) rfl (fun K hK => ?_) AllReadyH.nil
   have hcell := rf_tg HR18.out
   have hfz := HR18.out.free 1
   go_simp
   clear hcell hfz
   have HR19 : Hid (RowAt (w18.setCell ⟨w.heap.size, 1, none⟩ (.slice a5 S.ng c5)) w.heap.size REf (rfL { S with ab := a2, cb := c2, ag := a5, cg := c5 } r.head r.at_)) := Lib.hid (HR18.out.set 1 (.slice a5 S.ng c5))
   have HO19 := Lib.hid (holds_setBox HO18.out HR18.out NEr3 1 (.slice a5 S.ng c5))
   have HZ19 := Lib.hid (HZ18.out.other (a := ⟨w.heap.size, 1, none⟩) (Nat.succ_ne_self _) (.slice a5 S.ng c5))
   have HB19 := Lib.hid (HB18.out.setCell (p := ⟨w.heap.size, 1, none⟩) (Nat.le_refl _) (.slice a5 S.ng c5))
   generalize w18.setCell ⟨w.heap.size, 1, none⟩ (.slice a5 S.ng c5) = w19 at HR19 HO19 HZ19 HB19 ⊢
   refine hK.out _ _ trivial (fun hHeld => ?_)
   clear hK K
   refine tk 13 (mo 14 (.fieldAddr 35 (.tmp 1) 4)) (.pointer (some ⟨w.heap.size, 35, none⟩)) rfl ?_
   refine rdH [14] ?_
   refine AllReadyH.cons (o := ⟨none, .store 25 (.tmp 14) (.tmp 11), _, _, _, _⟩) rfl (fun K hK => ?_) AllReadyH.nil
   have hcell := rf_log HAT.out HR19.out
   have hfz := HR19.out.free 35
   go_simp
   clear hcell hfz
   have hrow := HR19.out.set 35 (.slice a8 S.nl c8)
   rw [rfL_log ({ S with ab := a2, cb := c2, ag := a5, cg := c5 }) r.head r.at_ HAT.out] at hrow
   have HR20 : Hid (RowAt (w19.setCell ⟨w.heap.size, 35, none⟩ (.slice a8 S.nl c8)) w.heap.size REf (rfL { S with ab := a2, cb := c2, ag := a5, cg := c5, al := a8, cl := c8 } r.head r.at_)) := Lib.hid hrow
   have HO20 := Lib.hid (holds_setBox HO19.out HR19.out NEr3 35 (.slice a8 S.nl c8))
   have HZ20 := Lib.hid (HZ19.out.other (a := ⟨w.heap.size, 35, none⟩) (Nat.succ_ne_self _) (.slice a8 S.nl c8))
   have HB20 := Lib.hid (HB19.out.setCell (p := ⟨w.heap.size, 35, none⟩) (Nat.le_refl _) (.slice a8 S.nl c8))
   generalize w19.setCell ⟨w.heap.size, 35, none⟩ (.slice a8 S.nl c8) = w20 at HR20 HO20 HZ20 HB20 ⊢
   refine hK.out _ _ trivial (fun hHeld => ?_)
   clear hK K
   refine wpAnyH_done (by kernel_rfl) ?_ _
   go_wp2_with (first
    | ((with_reducible refine atS 15 ?_); go_must (refine wl_ex rfl (exec_loadRf _ rfl _ { S with ab := a2, cb := c2, ag := a5, cg := c5, al := a8, cl := c8 } r.head r.at_ HAT.out rfl HR20.out) ?_))
    | ((with_reducible refine atT 2 ?_); go_must (refine wl_store_rf (S := { S with ab := a2, cb := c2, ag := a5, cg := c5, al := a8, cl := c8 }) (h := r.head) (a := r.at_) HAT.out HZ20.out (len36 rfl) rfl _ _ rfl rfl rfl ?_); intro w21 hr21 hg21; have HR21 := Lib.hid hr21; have HG21 := Lib.hid hg21; clear hr21 hg21))
   refine bodyPost_ret (results_row rfl _ _ (w.heap.size + 1) REf (rfL { S with ab := a2, cb := c2, ag := a5, cg := c5, al := a8, cl := c8 } r.head r.at_) _ rfl HR21.out Tryd.underlying35 rfl (size36 HAT.out)) rfl ?_
   refine ⟨{ S with ab := a2, cb := c2, ag := a5, cg := c5, al := a8, cl := c8 }, rfl, ⟨HO20.out.grownOut HG21.out NEr3 HZ20.out, HK2.out, HK5.out, HK8.out, HAT.out⟩, HB20.out.grown HG21.out HB20.out.size (fun k hk => by cases hk; omega)⟩
end Go.Proofs.YthihmlojdopmfaaDoor
