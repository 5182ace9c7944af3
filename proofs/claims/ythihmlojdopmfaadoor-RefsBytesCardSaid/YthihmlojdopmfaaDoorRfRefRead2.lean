/-
 The walk of the reference's Reader of refs: id.
-/
import Derived.Test.YthihmlojdopmfaaDoorRfRefRead
import Derived.Test.YthihmlojdopmfaaDoorGrp1
namespace Go.Proofs.YthihmlojdopmfaaDoor
open Go.RowKit

theorem Rdq.other {w0 w w1 : World} {gr n c at_ k : Nat} {a : Option Addr} {B : List UInt8} {ok : Bool} (h : Rdq w0 w gr a n c B at_ ok) (hg : w.grownBy w1 (some k)) (hk : gr < k) : Rdq w0 w1 gr a n c B at_ ok := ⟨h.row.grown hg (fun e => by cases e; exact Nat.lt_irrefl _ hk), h.src, h.low, h.bel.grown hg h.bel.size (fun j hj => by cases hj; have := h.low; omega)⟩
def ZI (v : Value) (_ : World) : Prop := v = .agg (idCells idZero)
set_option maxRecDepth 100000 in
set_option maxHeartbeats 8000000 in
theorem qid_any {w0 w : World} {gr n c at_ : Nat} {a : Option Addr} {B : List UInt8} {ok : Bool} (h : Rdq w0 w gr a n c B at_ ok) (Pq : Option (List UInt8 × Nat)) (hq : (if ok = true then pD B at_ else none) = Pq) :
  Calls Tryd.prog 20 #[.pointer (some ⟨gr, 0, none⟩)] w (QdIs VI ZI Pq w0 w gr a n c B) := by
 obtain ⟨tl, tu, te, hT⟩ : ∃ tl tu te, getD_ B at_ = (tl, tu, te) := ⟨_, _, _, rfl⟩
 have HTL : Hid (tl.length = 32) := Lib.hid (by have := getD_length B at_; rw [hT] at this; exact this)
 have HT := Lib.hid hT
 have HQ := Lib.hid hq
 have HH := Lib.hid h
 clear hT hq h
 cases ok
 ·have HP : Hid (Pq = none) := Lib.hid (HQ.out.symm.trans rfl)
  by_cases he : te = 0
  ·subst he
   go_enter Tryd.func20, Tryd.ntmps20
   go_wp2_with ((with_reducible refine atS 2 ?_); go_must (refine alloc_id rfl rfl ?_); intro w1 hi hb hs; have HI1 := Lib.hid hi; have HR1 := Lib.hid (HH.out.below hb); have HG1 := Lib.hid (grown_bel hb (some gr)); have HGL : Hid (gr < w.heap.size) := Lib.hid HH.out.row.lt; have HGLW : Hid (w.heap.size ≤ w.heap.size) := Lib.hid (Nat.le_refl _); clear hb hs; generalize hG2 : w.heap.size = g2 at hi HI1 HGL ⊢; have HGLW : Hid (w.heap.size ≤ g2) := Lib.hid (Nat.le_of_eq hG2); clear hG2; clear hi)
   have HRa := Lib.hid HR1.out.drew
   have HGa := Lib.hid (HG1.out.trans (grown_bel (Below.refl w1.heap.size w1).drew (some gr)))
   have HIa : Hid (IdAt w1.drew g2 idZero) := Lib.hid HI1.out
   refine wp_region_held_drew (S := fun W => RowAt W gr RRDf (rqL a n c at_ false)) (by kernel_rfl) HRa.out.row (fun hHeld => ?_)
   generalize w1.drew = wa at HRa HGa HIa hHeld ⊢
   refine tk 0 (mo 7 (.move (.tmp 0))) (.pointer (some ⟨gr, 0, none⟩)) rfl ?_
   refine tk 1 (mo 8 (.nilCheck (.tmp 7))) (.pointer (some ⟨gr, 0, none⟩)) rfl ?_
   refine tk 2 (mo 9 (.fieldAddr 61 (.tmp 8) 0)) (.pointer (some ⟨gr, 0, none⟩)) rfl ?_
   refine tk 3 (mo 10 (.load 28 (.tmp 9))) (.slice a n c) rfl ?_ (Or.inl ⟨by rfl, fun W hW => by have hcell := hW.cell 0 rfl; go_simp⟩)
   refine tk 4 (mo 11 (.move (.tmp 0))) (.pointer (some ⟨gr, 0, none⟩)) rfl ?_
   refine tk 5 (mo 12 (.nilCheck (.tmp 11))) (.pointer (some ⟨gr, 0, none⟩)) rfl ?_
   refine tk 6 (mo 13 (.fieldAddr 61 (.tmp 12) 1)) (.pointer (some ⟨gr, 1, none⟩)) rfl ?_
   refine tk 7 (mo 14 (.load 3 (.tmp 13))) (.int .i64 (at_ : Nat)) rfl ?_ (Or.inl ⟨by rfl, fun W hW => by have hcell := (hW.cell 1 rfl : W.cell? ⟨gr, 1, none⟩ = some (.int .i64 (at_ : Int))); go_simp⟩)
   refine rdH [8, 13] ?_
   refine AllReadyH.cons (o := ⟨some 15, .call { callee := .value (.func 49), args := #[(.tmp 10), (.tmp 14)], argTypes := #[28, 3] }, _, _, _, _⟩) rfl (fun K hK => ?_) (AllReadyH.cons (o := ⟨some 3, .alloc 24, _, _, _, _⟩) rfl (fun K hK => ?_) AllReadyH.nil)
   ·go_simp
    refine (refGetId_any a n c B at_ _ HRa.out.bytes).mono ?_
    rintro e wb ⟨he2, hb⟩
    rw [HT.out] at he2
    subst he2
    have HRb := Lib.hid (HRa.out.below hb)
    have HGb := Lib.hid (HGa.out.trans (grown_bel hb (some gr)))
    have HIb := Lib.hid (HIa.out.below hb)
    clear hb
    refine hK.out _ _ HRb.out.row (fun hHeld => ?_)
    clear hK K
    refine tk 9 (mo 6 (.move (.tmp 15))) (.tuple #[(.agg (idCells tl)), (.int .i64 (tu : Nat)), (.int .i64 (0 : Nat))]) rfl ?_
    refine tk 10 (mo 16 (.extract (.tmp 6) 0)) (.agg (idCells tl)) rfl ?_
    refine tk 11 (mo 17 (.extract (.tmp 6) 1)) (.int .i64 (tu : Nat)) rfl ?_
    refine tk 12 (mo 18 (.extract (.tmp 6) 2)) (.int .i64 (0 : Nat)) rfl ?_
    refine rdH [13] ?_
    refine AllReadyH.cons (o := ⟨some 3, .alloc 24, _, _, _, _⟩) rfl (fun K hK => ?_) AllReadyH.nil
    refine ready_step (wp_alloc_id rfl ?_)
    intro wc hi hb
    have HYc := Lib.hid hi
    have HL3 := Lib.hid (show gr < wb.heap.size ∧ g2 < wb.heap.size from ⟨HRb.out.row.lt, HIb.out.lt⟩)
    have HRc := Lib.hid (HRb.out.below hb)
    have HGc := Lib.hid (HGb.out.trans (grown_bel hb (some gr)))
    have HIc := Lib.hid (HIb.out.below hb)
    clear hb
    have HL3W := Lib.hid (show w.heap.size ≤ wb.heap.size from HGb.out.size)
    generalize wb.heap.size = g3 at hi HYc HL3 HL3W ⊢
    clear hi
    refine hK.out _ _ HRc.out.row (fun hHeld => ?_)
    clear hK K
    refine rdH [14] ?_
    refine AllReadyH.cons (o := ⟨none, .store 24 (.tmp 3) (.tmp 16), _, _, _, _⟩) rfl (fun K hK => ?_) AllReadyH.nil
    refine ready_step (wp_store_id _ _ rfl g3 idZero tl rfl rfl HYc.out HTL.out ?_)
    intro wd hi hg
    have HYd := Lib.hid hi
    have HRd := Lib.hid (HRc.out.other hg HL3.out.1)
    have HGd := Lib.hid (HGc.out.andThen hg (fun j hj => by cases hj; exact .inl HL3W.out))
    have HId := Lib.hid (HIc.out.ne_grown hg (Nat.ne_of_lt HL3.out.2))
    clear hi hg
    refine hK.out _ _ HRd.out.row (fun hHeld => ?_)
    clear hK K
    refine tk 15 (mo 4 (.assign (.tmp 17))) (.int .i64 (tu : Nat)) rfl ?_
    refine tk 16 (mo 5 (.assign (.tmp 18))) (.int .i64 (0 : Nat)) rfl ?_
    refine wpAnyH_done (by kernel_rfl) ?_ _
    have c2 := HRd.out.row.cell 2 rfl
    have f2 := HRd.out.row.free 2
    have f1 := HRd.out.row.free 1
    have c1 : wd.cell? ⟨gr, 1, none⟩ = some (.int .i64 (at_ : Int)) := HRd.out.row.cell 1 rfl
    obtain ⟨wx, hwx⟩ : ∃ W, wd.setCell ⟨gr, 2, none⟩ (.bool false) = W := ⟨_, rfl⟩
    have hgs : wd.grownBy wx (some gr) := hwx ▸ grown_set _ _ _ _
    have HRx : Hid (Rdq w0 wx gr a n c B at_ false) := Lib.hid (HRd.out.setB (hwx ▸ HRd.out.row.set 2 _) hgs)
    have HGx := Lib.hid (HGd.out.trans hgs)
    have HIx := Lib.hid (HId.out.ne_grown hgs (Nat.ne_of_gt HGL.out))
    have HYx := Lib.hid (HYd.out.ne_grown hgs (Nat.ne_of_gt HL3.out.1))
    clear hgs
    go_wp2_with (first
     | ((with_reducible refine atS 31 ?_); go_must (refine build_id rfl rfl ?_))
     | ((with_reducible refine atT 2 ?_); go_must (refine store_id rfl _ _ rfl g2 idZero idZero rfl rfl HIx.out idZero_length ?_); intro wz hi hg hs; have HIz := Lib.hid hi; have HRz := Lib.hid (HRx.out.other hg HGL.out); have HGz := Lib.hid (HGx.out.andThen hg (fun j hj => by cases hj; exact .inl HGLW.out)); clear hi hg hs))
    refine bodyPost_ret (results_idr rfl _ _ g2 _ rfl HIz.out) rfl ?_
    rw [HP.out]
    exact ⟨_, rfl, rfl, at_, HRz.out, HGz.out⟩
   ·refine ready_step (wp_alloc_id rfl ?_)
    intro wb hi hb
    have HYb := Lib.hid hi
    have HL3 := Lib.hid (show gr < wa.heap.size ∧ g2 < wa.heap.size from ⟨HRa.out.row.lt, HIa.out.lt⟩)
    have HRb := Lib.hid (HRa.out.below hb)
    have HGb := Lib.hid (HGa.out.trans (grown_bel hb (some gr)))
    have HIb := Lib.hid (HIa.out.below hb)
    clear hb
    have HL3W := Lib.hid (show w.heap.size ≤ wa.heap.size from HGa.out.size)
    generalize wa.heap.size = g3 at hi HYb HL3 HL3W ⊢
    clear hi
    refine hK.out _ _ HRb.out.row (fun hHeld => ?_)
    clear hK K
    refine rdH [8] ?_
    refine AllReadyH.cons (o := ⟨some 15, .call { callee := .value (.func 49), args := #[(.tmp 10), (.tmp 14)], argTypes := #[28, 3] }, _, _, _, _⟩) rfl (fun K hK => ?_) AllReadyH.nil
    go_simp
    refine (refGetId_any a n c B at_ _ HRb.out.bytes).mono ?_
    rintro e wc ⟨he2, hb⟩
    rw [HT.out] at he2
    subst he2
    have HRc := Lib.hid (HRb.out.below hb)
    have HGc := Lib.hid (HGb.out.trans (grown_bel hb (some gr)))
    have HIc := Lib.hid (HIb.out.below hb)
    have HYc := Lib.hid (HYb.out.below hb)
    clear hb
    refine hK.out _ _ HRc.out.row (fun hHeld => ?_)
    clear hK K
    refine tk 9 (mo 6 (.move (.tmp 15))) (.tuple #[(.agg (idCells tl)), (.int .i64 (tu : Nat)), (.int .i64 (0 : Nat))]) rfl ?_
    refine tk 10 (mo 16 (.extract (.tmp 6) 0)) (.agg (idCells tl)) rfl ?_
    refine tk 11 (mo 17 (.extract (.tmp 6) 1)) (.int .i64 (tu : Nat)) rfl ?_
    refine tk 12 (mo 18 (.extract (.tmp 6) 2)) (.int .i64 (0 : Nat)) rfl ?_
    refine rdH [14] ?_
    refine AllReadyH.cons (o := ⟨none, .store 24 (.tmp 3) (.tmp 16), _, _, _, _⟩) rfl (fun K hK => ?_) AllReadyH.nil
    refine ready_step (wp_store_id _ _ rfl g3 idZero tl rfl rfl HYc.out HTL.out ?_)
    intro wd hi hg
    have HYd := Lib.hid hi
    have HRd := Lib.hid (HRc.out.other hg HL3.out.1)
    have HGd := Lib.hid (HGc.out.andThen hg (fun j hj => by cases hj; exact .inl HL3W.out))
    have HId := Lib.hid (HIc.out.ne_grown hg (Nat.ne_of_lt HL3.out.2))
    clear hi hg
    refine hK.out _ _ HRd.out.row (fun hHeld => ?_)
    clear hK K
    refine tk 15 (mo 4 (.assign (.tmp 17))) (.int .i64 (tu : Nat)) rfl ?_
    refine tk 16 (mo 5 (.assign (.tmp 18))) (.int .i64 (0 : Nat)) rfl ?_
    refine wpAnyH_done (by kernel_rfl) ?_ _
    have c2 := HRd.out.row.cell 2 rfl
    have f2 := HRd.out.row.free 2
    have f1 := HRd.out.row.free 1
    have c1 : wd.cell? ⟨gr, 1, none⟩ = some (.int .i64 (at_ : Int)) := HRd.out.row.cell 1 rfl
    obtain ⟨wx, hwx⟩ : ∃ W, wd.setCell ⟨gr, 2, none⟩ (.bool false) = W := ⟨_, rfl⟩
    have hgs : wd.grownBy wx (some gr) := hwx ▸ grown_set _ _ _ _
    have HRx : Hid (Rdq w0 wx gr a n c B at_ false) := Lib.hid (HRd.out.setB (hwx ▸ HRd.out.row.set 2 _) hgs)
    have HGx := Lib.hid (HGd.out.trans hgs)
    have HIx := Lib.hid (HId.out.ne_grown hgs (Nat.ne_of_gt HGL.out))
    have HYx := Lib.hid (HYd.out.ne_grown hgs (Nat.ne_of_gt HL3.out.1))
    clear hgs
    go_wp2_with (first
     | ((with_reducible refine atS 31 ?_); go_must (refine build_id rfl rfl ?_))
     | ((with_reducible refine atT 2 ?_); go_must (refine store_id rfl _ _ rfl g2 idZero idZero rfl rfl HIx.out idZero_length ?_); intro wz hi hg hs; have HIz := Lib.hid hi; have HRz := Lib.hid (HRx.out.other hg HGL.out); have HGz := Lib.hid (HGx.out.andThen hg (fun j hj => by cases hj; exact .inl HGLW.out)); clear hi hg hs))
    refine bodyPost_ret (results_idr rfl _ _ g2 _ rfl HIz.out) rfl ?_
    rw [HP.out]
    exact ⟨_, rfl, rfl, at_, HRz.out, HGz.out⟩
  ·have heI : ((te : Int) == 0) = false := by rw [beq_eq_false_iff_ne]; omega
   go_enter Tryd.func20, Tryd.ntmps20
   go_wp2_with ((with_reducible refine atS 2 ?_); go_must (refine alloc_id rfl rfl ?_); intro w1 hi hb hs; have HI1 := Lib.hid hi; have HR1 := Lib.hid (HH.out.below hb); have HG1 := Lib.hid (grown_bel hb (some gr)); have HGL : Hid (gr < w.heap.size) := Lib.hid HH.out.row.lt; have HGLW : Hid (w.heap.size ≤ w.heap.size) := Lib.hid (Nat.le_refl _); clear hb hs; generalize hG2 : w.heap.size = g2 at hi HI1 HGL ⊢; have HGLW : Hid (w.heap.size ≤ g2) := Lib.hid (Nat.le_of_eq hG2); clear hG2; clear hi)
   have HRa := Lib.hid HR1.out.drew
   have HGa := Lib.hid (HG1.out.trans (grown_bel (Below.refl w1.heap.size w1).drew (some gr)))
   have HIa : Hid (IdAt w1.drew g2 idZero) := Lib.hid HI1.out
   refine wp_region_held_drew (S := fun W => RowAt W gr RRDf (rqL a n c at_ false)) (by kernel_rfl) HRa.out.row (fun hHeld => ?_)
   generalize w1.drew = wa at HRa HGa HIa hHeld ⊢
   refine tk 0 (mo 7 (.move (.tmp 0))) (.pointer (some ⟨gr, 0, none⟩)) rfl ?_
   refine tk 1 (mo 8 (.nilCheck (.tmp 7))) (.pointer (some ⟨gr, 0, none⟩)) rfl ?_
   refine tk 2 (mo 9 (.fieldAddr 61 (.tmp 8) 0)) (.pointer (some ⟨gr, 0, none⟩)) rfl ?_
   refine tk 3 (mo 10 (.load 28 (.tmp 9))) (.slice a n c) rfl ?_ (Or.inl ⟨by rfl, fun W hW => by have hcell := hW.cell 0 rfl; go_simp⟩)
   refine tk 4 (mo 11 (.move (.tmp 0))) (.pointer (some ⟨gr, 0, none⟩)) rfl ?_
   refine tk 5 (mo 12 (.nilCheck (.tmp 11))) (.pointer (some ⟨gr, 0, none⟩)) rfl ?_
   refine tk 6 (mo 13 (.fieldAddr 61 (.tmp 12) 1)) (.pointer (some ⟨gr, 1, none⟩)) rfl ?_
   refine tk 7 (mo 14 (.load 3 (.tmp 13))) (.int .i64 (at_ : Nat)) rfl ?_ (Or.inl ⟨by rfl, fun W hW => by have hcell := (hW.cell 1 rfl : W.cell? ⟨gr, 1, none⟩ = some (.int .i64 (at_ : Int))); go_simp⟩)
   refine rdH [8, 13] ?_
   refine AllReadyH.cons (o := ⟨some 15, .call { callee := .value (.func 49), args := #[(.tmp 10), (.tmp 14)], argTypes := #[28, 3] }, _, _, _, _⟩) rfl (fun K hK => ?_) (AllReadyH.cons (o := ⟨some 3, .alloc 24, _, _, _, _⟩) rfl (fun K hK => ?_) AllReadyH.nil)
   ·go_simp
    refine (refGetId_any a n c B at_ _ HRa.out.bytes).mono ?_
    rintro e wb ⟨he2, hb⟩
    rw [HT.out] at he2
    subst he2
    have HRb := Lib.hid (HRa.out.below hb)
    have HGb := Lib.hid (HGa.out.trans (grown_bel hb (some gr)))
    have HIb := Lib.hid (HIa.out.below hb)
    clear hb
    refine hK.out _ _ HRb.out.row (fun hHeld => ?_)
    clear hK K
    refine tk 9 (mo 6 (.move (.tmp 15))) (.tuple #[(.agg (idCells tl)), (.int .i64 (tu : Nat)), (.int .i64 (te : Nat))]) rfl ?_
    refine tk 10 (mo 16 (.extract (.tmp 6) 0)) (.agg (idCells tl)) rfl ?_
    refine tk 11 (mo 17 (.extract (.tmp 6) 1)) (.int .i64 (tu : Nat)) rfl ?_
    refine tk 12 (mo 18 (.extract (.tmp 6) 2)) (.int .i64 (te : Nat)) rfl ?_
    refine rdH [13] ?_
    refine AllReadyH.cons (o := ⟨some 3, .alloc 24, _, _, _, _⟩) rfl (fun K hK => ?_) AllReadyH.nil
    refine ready_step (wp_alloc_id rfl ?_)
    intro wc hi hb
    have HYc := Lib.hid hi
    have HL3 := Lib.hid (show gr < wb.heap.size ∧ g2 < wb.heap.size from ⟨HRb.out.row.lt, HIb.out.lt⟩)
    have HRc := Lib.hid (HRb.out.below hb)
    have HGc := Lib.hid (HGb.out.trans (grown_bel hb (some gr)))
    have HIc := Lib.hid (HIb.out.below hb)
    clear hb
    have HL3W := Lib.hid (show w.heap.size ≤ wb.heap.size from HGb.out.size)
    generalize wb.heap.size = g3 at hi HYc HL3 HL3W ⊢
    clear hi
    refine hK.out _ _ HRc.out.row (fun hHeld => ?_)
    clear hK K
    refine rdH [14] ?_
    refine AllReadyH.cons (o := ⟨none, .store 24 (.tmp 3) (.tmp 16), _, _, _, _⟩) rfl (fun K hK => ?_) AllReadyH.nil
    refine ready_step (wp_store_id _ _ rfl g3 idZero tl rfl rfl HYc.out HTL.out ?_)
    intro wd hi hg
    have HYd := Lib.hid hi
    have HRd := Lib.hid (HRc.out.other hg HL3.out.1)
    have HGd := Lib.hid (HGc.out.andThen hg (fun j hj => by cases hj; exact .inl HL3W.out))
    have HId := Lib.hid (HIc.out.ne_grown hg (Nat.ne_of_lt HL3.out.2))
    clear hi hg
    refine hK.out _ _ HRd.out.row (fun hHeld => ?_)
    clear hK K
    refine tk 15 (mo 4 (.assign (.tmp 17))) (.int .i64 (tu : Nat)) rfl ?_
    refine tk 16 (mo 5 (.assign (.tmp 18))) (.int .i64 (te : Nat)) rfl ?_
    refine wpAnyH_done (by kernel_rfl) ?_ _
    have c2 := HRd.out.row.cell 2 rfl
    have f2 := HRd.out.row.free 2
    have f1 := HRd.out.row.free 1
    have c1 : wd.cell? ⟨gr, 1, none⟩ = some (.int .i64 (at_ : Int)) := HRd.out.row.cell 1 rfl
    obtain ⟨wx, hwx⟩ : ∃ W, wd.setCell ⟨gr, 2, none⟩ (.bool false) = W := ⟨_, rfl⟩
    have hgs : wd.grownBy wx (some gr) := hwx ▸ grown_set _ _ _ _
    have HRx : Hid (Rdq w0 wx gr a n c B at_ false) := Lib.hid (HRd.out.setB (hwx ▸ HRd.out.row.set 2 _) hgs)
    have HGx := Lib.hid (HGd.out.trans hgs)
    have HIx := Lib.hid (HId.out.ne_grown hgs (Nat.ne_of_gt HGL.out))
    have HYx := Lib.hid (HYd.out.ne_grown hgs (Nat.ne_of_gt HL3.out.1))
    clear hgs
    go_wp2_with (first
     | ((with_reducible refine atS 31 ?_); go_must (refine build_id rfl rfl ?_))
     | ((with_reducible refine atT 2 ?_); go_must (refine store_id rfl _ _ rfl g2 idZero idZero rfl rfl HIx.out idZero_length ?_); intro wz hi hg hs; have HIz := Lib.hid hi; have HRz := Lib.hid (HRx.out.other hg HGL.out); have HGz := Lib.hid (HGx.out.andThen hg (fun j hj => by cases hj; exact .inl HGLW.out)); clear hi hg hs))
    refine bodyPost_ret (results_idr rfl _ _ g2 _ rfl HIz.out) rfl ?_
    rw [HP.out]
    exact ⟨_, rfl, rfl, at_, HRz.out, HGz.out⟩
   ·refine ready_step (wp_alloc_id rfl ?_)
    intro wb hi hb
    have HYb := Lib.hid hi
    have HL3 := Lib.hid (show gr < wa.heap.size ∧ g2 < wa.heap.size from ⟨HRa.out.row.lt, HIa.out.lt⟩)
    have HRb := Lib.hid (HRa.out.below hb)
    have HGb := Lib.hid (HGa.out.trans (grown_bel hb (some gr)))
    have HIb := Lib.hid (HIa.out.below hb)
    clear hb
    have HL3W := Lib.hid (show w.heap.size ≤ wa.heap.size from HGa.out.size)
    generalize wa.heap.size = g3 at hi HYb HL3 HL3W ⊢
    clear hi
    refine hK.out _ _ HRb.out.row (fun hHeld => ?_)
    clear hK K
    refine rdH [8] ?_
    refine AllReadyH.cons (o := ⟨some 15, .call { callee := .value (.func 49), args := #[(.tmp 10), (.tmp 14)], argTypes := #[28, 3] }, _, _, _, _⟩) rfl (fun K hK => ?_) AllReadyH.nil
    go_simp
    refine (refGetId_any a n c B at_ _ HRb.out.bytes).mono ?_
    rintro e wc ⟨he2, hb⟩
    rw [HT.out] at he2
    subst he2
    have HRc := Lib.hid (HRb.out.below hb)
    have HGc := Lib.hid (HGb.out.trans (grown_bel hb (some gr)))
    have HIc := Lib.hid (HIb.out.below hb)
    have HYc := Lib.hid (HYb.out.below hb)
    clear hb
    refine hK.out _ _ HRc.out.row (fun hHeld => ?_)
    clear hK K
    refine tk 9 (mo 6 (.move (.tmp 15))) (.tuple #[(.agg (idCells tl)), (.int .i64 (tu : Nat)), (.int .i64 (te : Nat))]) rfl ?_
    refine tk 10 (mo 16 (.extract (.tmp 6) 0)) (.agg (idCells tl)) rfl ?_
    refine tk 11 (mo 17 (.extract (.tmp 6) 1)) (.int .i64 (tu : Nat)) rfl ?_
    refine tk 12 (mo 18 (.extract (.tmp 6) 2)) (.int .i64 (te : Nat)) rfl ?_
    refine rdH [14] ?_
    refine AllReadyH.cons (o := ⟨none, .store 24 (.tmp 3) (.tmp 16), _, _, _, _⟩) rfl (fun K hK => ?_) AllReadyH.nil
    refine ready_step (wp_store_id _ _ rfl g3 idZero tl rfl rfl HYc.out HTL.out ?_)
    intro wd hi hg
    have HYd := Lib.hid hi
    have HRd := Lib.hid (HRc.out.other hg HL3.out.1)
    have HGd := Lib.hid (HGc.out.andThen hg (fun j hj => by cases hj; exact .inl HL3W.out))
    have HId := Lib.hid (HIc.out.ne_grown hg (Nat.ne_of_lt HL3.out.2))
    clear hi hg
    refine hK.out _ _ HRd.out.row (fun hHeld => ?_)
    clear hK K
    refine tk 15 (mo 4 (.assign (.tmp 17))) (.int .i64 (tu : Nat)) rfl ?_
    refine tk 16 (mo 5 (.assign (.tmp 18))) (.int .i64 (te : Nat)) rfl ?_
    refine wpAnyH_done (by kernel_rfl) ?_ _
    have c2 := HRd.out.row.cell 2 rfl
    have f2 := HRd.out.row.free 2
    have f1 := HRd.out.row.free 1
    have c1 : wd.cell? ⟨gr, 1, none⟩ = some (.int .i64 (at_ : Int)) := HRd.out.row.cell 1 rfl
    obtain ⟨wx, hwx⟩ : ∃ W, wd.setCell ⟨gr, 2, none⟩ (.bool false) = W := ⟨_, rfl⟩
    have hgs : wd.grownBy wx (some gr) := hwx ▸ grown_set _ _ _ _
    have HRx : Hid (Rdq w0 wx gr a n c B at_ false) := Lib.hid (HRd.out.setB (hwx ▸ HRd.out.row.set 2 _) hgs)
    have HGx := Lib.hid (HGd.out.trans hgs)
    have HIx := Lib.hid (HId.out.ne_grown hgs (Nat.ne_of_gt HGL.out))
    have HYx := Lib.hid (HYd.out.ne_grown hgs (Nat.ne_of_gt HL3.out.1))
    clear hgs
    go_wp2_with (first
     | ((with_reducible refine atS 31 ?_); go_must (refine build_id rfl rfl ?_))
     | ((with_reducible refine atT 2 ?_); go_must (refine store_id rfl _ _ rfl g2 idZero idZero rfl rfl HIx.out idZero_length ?_); intro wz hi hg hs; have HIz := Lib.hid hi; have HRz := Lib.hid (HRx.out.other hg HGL.out); have HGz := Lib.hid (HGx.out.andThen hg (fun j hj => by cases hj; exact .inl HGLW.out)); clear hi hg hs))
    refine bodyPost_ret (results_idr rfl _ _ g2 _ rfl HIz.out) rfl ?_
    rw [HP.out]
    exact ⟨_, rfl, rfl, at_, HRz.out, HGz.out⟩
 ·by_cases he : te = 0
  ·subst he
   have HP : Hid (Pq = some (tl, tu)) := Lib.hid (HQ.out.symm.trans (by rw [if_pos rfl]; exact pD_yes HT.out))
   go_enter Tryd.func20, Tryd.ntmps20
   go_wp2_with ((with_reducible refine atS 2 ?_); go_must (refine alloc_id rfl rfl ?_); intro w1 hi hb hs; have HI1 := Lib.hid hi; have HR1 := Lib.hid (HH.out.below hb); have HG1 := Lib.hid (grown_bel hb (some gr)); have HGL : Hid (gr < w.heap.size) := Lib.hid HH.out.row.lt; have HGLW : Hid (w.heap.size ≤ w.heap.size) := Lib.hid (Nat.le_refl _); clear hb hs; generalize hG2 : w.heap.size = g2 at hi HI1 HGL ⊢; have HGLW : Hid (w.heap.size ≤ g2) := Lib.hid (Nat.le_of_eq hG2); clear hG2; clear hi)
   have HRa := Lib.hid HR1.out.drew
   have HGa := Lib.hid (HG1.out.trans (grown_bel (Below.refl w1.heap.size w1).drew (some gr)))
   have HIa : Hid (IdAt w1.drew g2 idZero) := Lib.hid HI1.out
   refine wp_region_held_drew (S := fun W => RowAt W gr RRDf (rqL a n c at_ true)) (by kernel_rfl) HRa.out.row (fun hHeld => ?_)
   generalize w1.drew = wa at HRa HGa HIa hHeld ⊢
   refine tk 0 (mo 7 (.move (.tmp 0))) (.pointer (some ⟨gr, 0, none⟩)) rfl ?_
   refine tk 1 (mo 8 (.nilCheck (.tmp 7))) (.pointer (some ⟨gr, 0, none⟩)) rfl ?_
   refine tk 2 (mo 9 (.fieldAddr 61 (.tmp 8) 0)) (.pointer (some ⟨gr, 0, none⟩)) rfl ?_
   refine tk 3 (mo 10 (.load 28 (.tmp 9))) (.slice a n c) rfl ?_ (Or.inl ⟨by rfl, fun W hW => by have hcell := hW.cell 0 rfl; go_simp⟩)
   refine tk 4 (mo 11 (.move (.tmp 0))) (.pointer (some ⟨gr, 0, none⟩)) rfl ?_
   refine tk 5 (mo 12 (.nilCheck (.tmp 11))) (.pointer (some ⟨gr, 0, none⟩)) rfl ?_
   refine tk 6 (mo 13 (.fieldAddr 61 (.tmp 12) 1)) (.pointer (some ⟨gr, 1, none⟩)) rfl ?_
   refine tk 7 (mo 14 (.load 3 (.tmp 13))) (.int .i64 (at_ : Nat)) rfl ?_ (Or.inl ⟨by rfl, fun W hW => by have hcell := (hW.cell 1 rfl : W.cell? ⟨gr, 1, none⟩ = some (.int .i64 (at_ : Int))); go_simp⟩)
   refine rdH [8, 13] ?_
   refine AllReadyH.cons (o := ⟨some 15, .call { callee := .value (.func 49), args := #[(.tmp 10), (.tmp 14)], argTypes := #[28, 3] }, _, _, _, _⟩) rfl (fun K hK => ?_) (AllReadyH.cons (o := ⟨some 3, .alloc 24, _, _, _, _⟩) rfl (fun K hK => ?_) AllReadyH.nil)
   ·go_simp
    refine (refGetId_any a n c B at_ _ HRa.out.bytes).mono ?_
    rintro e wb ⟨he2, hb⟩
    rw [HT.out] at he2
    subst he2
    have HRb := Lib.hid (HRa.out.below hb)
    have HGb := Lib.hid (HGa.out.trans (grown_bel hb (some gr)))
    have HIb := Lib.hid (HIa.out.below hb)
    clear hb
    refine hK.out _ _ HRb.out.row (fun hHeld => ?_)
    clear hK K
    refine tk 9 (mo 6 (.move (.tmp 15))) (.tuple #[(.agg (idCells tl)), (.int .i64 (tu : Nat)), (.int .i64 (0 : Nat))]) rfl ?_
    refine tk 10 (mo 16 (.extract (.tmp 6) 0)) (.agg (idCells tl)) rfl ?_
    refine tk 11 (mo 17 (.extract (.tmp 6) 1)) (.int .i64 (tu : Nat)) rfl ?_
    refine tk 12 (mo 18 (.extract (.tmp 6) 2)) (.int .i64 (0 : Nat)) rfl ?_
    refine rdH [13] ?_
    refine AllReadyH.cons (o := ⟨some 3, .alloc 24, _, _, _, _⟩) rfl (fun K hK => ?_) AllReadyH.nil
    refine ready_step (wp_alloc_id rfl ?_)
    intro wc hi hb
    have HYc := Lib.hid hi
    have HL3 := Lib.hid (show gr < wb.heap.size ∧ g2 < wb.heap.size from ⟨HRb.out.row.lt, HIb.out.lt⟩)
    have HRc := Lib.hid (HRb.out.below hb)
    have HGc := Lib.hid (HGb.out.trans (grown_bel hb (some gr)))
    have HIc := Lib.hid (HIb.out.below hb)
    clear hb
    have HL3W := Lib.hid (show w.heap.size ≤ wb.heap.size from HGb.out.size)
    generalize wb.heap.size = g3 at hi HYc HL3 HL3W ⊢
    clear hi
    refine hK.out _ _ HRc.out.row (fun hHeld => ?_)
    clear hK K
    refine rdH [14] ?_
    refine AllReadyH.cons (o := ⟨none, .store 24 (.tmp 3) (.tmp 16), _, _, _, _⟩) rfl (fun K hK => ?_) AllReadyH.nil
    refine ready_step (wp_store_id _ _ rfl g3 idZero tl rfl rfl HYc.out HTL.out ?_)
    intro wd hi hg
    have HYd := Lib.hid hi
    have HRd := Lib.hid (HRc.out.other hg HL3.out.1)
    have HGd := Lib.hid (HGc.out.andThen hg (fun j hj => by cases hj; exact .inl HL3W.out))
    have HId := Lib.hid (HIc.out.ne_grown hg (Nat.ne_of_lt HL3.out.2))
    clear hi hg
    refine hK.out _ _ HRd.out.row (fun hHeld => ?_)
    clear hK K
    refine tk 15 (mo 4 (.assign (.tmp 17))) (.int .i64 (tu : Nat)) rfl ?_
    refine tk 16 (mo 5 (.assign (.tmp 18))) (.int .i64 (0 : Nat)) rfl ?_
    refine wpAnyH_done (by kernel_rfl) ?_ _
    have c2 := HRd.out.row.cell 2 rfl
    have f2 := HRd.out.row.free 2
    have f1 := HRd.out.row.free 1
    have c1 : wd.cell? ⟨gr, 1, none⟩ = some (.int .i64 (at_ : Int)) := HRd.out.row.cell 1 rfl
    obtain ⟨wx, hwx⟩ : ∃ W, wd.setCell ⟨gr, 1, none⟩ (.int .i64 (tu : Int)) = W := ⟨_, rfl⟩
    have hgs : wd.grownBy wx (some gr) := hwx ▸ grown_set _ _ _ _
    have HRx : Hid (Rdq w0 wx gr a n c B tu true) := Lib.hid (HRd.out.set (hwx ▸ HRd.out.row.set 1 _) hgs)
    have HGx := Lib.hid (HGd.out.trans hgs)
    have HIx := Lib.hid (HId.out.ne_grown hgs (Nat.ne_of_gt HGL.out))
    have HYx := Lib.hid (HYd.out.ne_grown hgs (Nat.ne_of_gt HL3.out.1))
    clear hgs
    go_wp2_with (first
     | ((with_reducible refine atS 36 ?_); go_must (refine load_id rfl (.tmp 3) rfl g3 tl rfl HYx.out ?_))
     | ((with_reducible refine atT 2 ?_); go_must (refine store_id rfl _ _ rfl g2 idZero tl rfl rfl HIx.out HTL.out ?_); intro wz hi hg hs; have HIz := Lib.hid hi; have HRz := Lib.hid (HRx.out.other hg HGL.out); have HGz := Lib.hid (HGx.out.andThen hg (fun j hj => by cases hj; exact .inl HGLW.out)); clear hi hg hs))
    refine bodyPost_ret (results_idr rfl _ _ g2 _ rfl HIz.out) rfl ?_
    rw [HP.out]
    exact ⟨_, rfl, ⟨rfl, HTL.out⟩, HRz.out, HGz.out⟩
   ·refine ready_step (wp_alloc_id rfl ?_)
    intro wb hi hb
    have HYb := Lib.hid hi
    have HL3 := Lib.hid (show gr < wa.heap.size ∧ g2 < wa.heap.size from ⟨HRa.out.row.lt, HIa.out.lt⟩)
    have HRb := Lib.hid (HRa.out.below hb)
    have HGb := Lib.hid (HGa.out.trans (grown_bel hb (some gr)))
    have HIb := Lib.hid (HIa.out.below hb)
    clear hb
    have HL3W := Lib.hid (show w.heap.size ≤ wa.heap.size from HGa.out.size)
    generalize wa.heap.size = g3 at hi HYb HL3 HL3W ⊢
    clear hi
    refine hK.out _ _ HRb.out.row (fun hHeld => ?_)
    clear hK K
    refine rdH [8] ?_
    refine AllReadyH.cons (o := ⟨some 15, .call { callee := .value (.func 49), args := #[(.tmp 10), (.tmp 14)], argTypes := #[28, 3] }, _, _, _, _⟩) rfl (fun K hK => ?_) AllReadyH.nil
    go_simp
    refine (refGetId_any a n c B at_ _ HRb.out.bytes).mono ?_
    rintro e wc ⟨he2, hb⟩
    rw [HT.out] at he2
    subst he2
    have HRc := Lib.hid (HRb.out.below hb)
    have HGc := Lib.hid (HGb.out.trans (grown_bel hb (some gr)))
    have HIc := Lib.hid (HIb.out.below hb)
    have HYc := Lib.hid (HYb.out.below hb)
    clear hb
    refine hK.out _ _ HRc.out.row (fun hHeld => ?_)
    clear hK K
    refine tk 9 (mo 6 (.move (.tmp 15))) (.tuple #[(.agg (idCells tl)), (.int .i64 (tu : Nat)), (.int .i64 (0 : Nat))]) rfl ?_
    refine tk 10 (mo 16 (.extract (.tmp 6) 0)) (.agg (idCells tl)) rfl ?_
    refine tk 11 (mo 17 (.extract (.tmp 6) 1)) (.int .i64 (tu : Nat)) rfl ?_
    refine tk 12 (mo 18 (.extract (.tmp 6) 2)) (.int .i64 (0 : Nat)) rfl ?_
    refine rdH [14] ?_
    refine AllReadyH.cons (o := ⟨none, .store 24 (.tmp 3) (.tmp 16), _, _, _, _⟩) rfl (fun K hK => ?_) AllReadyH.nil
    refine ready_step (wp_store_id _ _ rfl g3 idZero tl rfl rfl HYc.out HTL.out ?_)
    intro wd hi hg
    have HYd := Lib.hid hi
    have HRd := Lib.hid (HRc.out.other hg HL3.out.1)
    have HGd := Lib.hid (HGc.out.andThen hg (fun j hj => by cases hj; exact .inl HL3W.out))
    have HId := Lib.hid (HIc.out.ne_grown hg (Nat.ne_of_lt HL3.out.2))
    clear hi hg
    refine hK.out _ _ HRd.out.row (fun hHeld => ?_)
    clear hK K
    refine tk 15 (mo 4 (.assign (.tmp 17))) (.int .i64 (tu : Nat)) rfl ?_
    refine tk 16 (mo 5 (.assign (.tmp 18))) (.int .i64 (0 : Nat)) rfl ?_
    refine wpAnyH_done (by kernel_rfl) ?_ _
    have c2 := HRd.out.row.cell 2 rfl
    have f2 := HRd.out.row.free 2
    have f1 := HRd.out.row.free 1
    have c1 : wd.cell? ⟨gr, 1, none⟩ = some (.int .i64 (at_ : Int)) := HRd.out.row.cell 1 rfl
    obtain ⟨wx, hwx⟩ : ∃ W, wd.setCell ⟨gr, 1, none⟩ (.int .i64 (tu : Int)) = W := ⟨_, rfl⟩
    have hgs : wd.grownBy wx (some gr) := hwx ▸ grown_set _ _ _ _
    have HRx : Hid (Rdq w0 wx gr a n c B tu true) := Lib.hid (HRd.out.set (hwx ▸ HRd.out.row.set 1 _) hgs)
    have HGx := Lib.hid (HGd.out.trans hgs)
    have HIx := Lib.hid (HId.out.ne_grown hgs (Nat.ne_of_gt HGL.out))
    have HYx := Lib.hid (HYd.out.ne_grown hgs (Nat.ne_of_gt HL3.out.1))
    clear hgs
    go_wp2_with (first
     | ((with_reducible refine atS 36 ?_); go_must (refine load_id rfl (.tmp 3) rfl g3 tl rfl HYx.out ?_))
     | ((with_reducible refine atT 2 ?_); go_must (refine store_id rfl _ _ rfl g2 idZero tl rfl rfl HIx.out HTL.out ?_); intro wz hi hg hs; have HIz := Lib.hid hi; have HRz := Lib.hid (HRx.out.other hg HGL.out); have HGz := Lib.hid (HGx.out.andThen hg (fun j hj => by cases hj; exact .inl HGLW.out)); clear hi hg hs))
    refine bodyPost_ret (results_idr rfl _ _ g2 _ rfl HIz.out) rfl ?_
    rw [HP.out]
    exact ⟨_, rfl, ⟨rfl, HTL.out⟩, HRz.out, HGz.out⟩
  ·have HP : Hid (Pq = none) := Lib.hid (HQ.out.symm.trans (by rw [if_pos rfl]; exact pD_no HT.out he))
   have heI : ((te : Int) == 0) = false := by rw [beq_eq_false_iff_ne]; omega
   go_enter Tryd.func20, Tryd.ntmps20
   go_wp2_with ((with_reducible refine atS 2 ?_); go_must (refine alloc_id rfl rfl ?_); intro w1 hi hb hs; have HI1 := Lib.hid hi; have HR1 := Lib.hid (HH.out.below hb); have HG1 := Lib.hid (grown_bel hb (some gr)); have HGL : Hid (gr < w.heap.size) := Lib.hid HH.out.row.lt; have HGLW : Hid (w.heap.size ≤ w.heap.size) := Lib.hid (Nat.le_refl _); clear hb hs; generalize hG2 : w.heap.size = g2 at hi HI1 HGL ⊢; have HGLW : Hid (w.heap.size ≤ g2) := Lib.hid (Nat.le_of_eq hG2); clear hG2; clear hi)
   have HRa := Lib.hid HR1.out.drew
   have HGa := Lib.hid (HG1.out.trans (grown_bel (Below.refl w1.heap.size w1).drew (some gr)))
   have HIa : Hid (IdAt w1.drew g2 idZero) := Lib.hid HI1.out
   refine wp_region_held_drew (S := fun W => RowAt W gr RRDf (rqL a n c at_ true)) (by kernel_rfl) HRa.out.row (fun hHeld => ?_)
   generalize w1.drew = wa at HRa HGa HIa hHeld ⊢
   refine tk 0 (mo 7 (.move (.tmp 0))) (.pointer (some ⟨gr, 0, none⟩)) rfl ?_
   refine tk 1 (mo 8 (.nilCheck (.tmp 7))) (.pointer (some ⟨gr, 0, none⟩)) rfl ?_
   refine tk 2 (mo 9 (.fieldAddr 61 (.tmp 8) 0)) (.pointer (some ⟨gr, 0, none⟩)) rfl ?_
   refine tk 3 (mo 10 (.load 28 (.tmp 9))) (.slice a n c) rfl ?_ (Or.inl ⟨by rfl, fun W hW => by have hcell := hW.cell 0 rfl; go_simp⟩)
   refine tk 4 (mo 11 (.move (.tmp 0))) (.pointer (some ⟨gr, 0, none⟩)) rfl ?_
   refine tk 5 (mo 12 (.nilCheck (.tmp 11))) (.pointer (some ⟨gr, 0, none⟩)) rfl ?_
   refine tk 6 (mo 13 (.fieldAddr 61 (.tmp 12) 1)) (.pointer (some ⟨gr, 1, none⟩)) rfl ?_
   refine tk 7 (mo 14 (.load 3 (.tmp 13))) (.int .i64 (at_ : Nat)) rfl ?_ (Or.inl ⟨by rfl, fun W hW => by have hcell := (hW.cell 1 rfl : W.cell? ⟨gr, 1, none⟩ = some (.int .i64 (at_ : Int))); go_simp⟩)
   refine rdH [8, 13] ?_
   refine AllReadyH.cons (o := ⟨some 15, .call { callee := .value (.func 49), args := #[(.tmp 10), (.tmp 14)], argTypes := #[28, 3] }, _, _, _, _⟩) rfl (fun K hK => ?_) (AllReadyH.cons (o := ⟨some 3, .alloc 24, _, _, _, _⟩) rfl (fun K hK => ?_) AllReadyH.nil)
   ·go_simp
    refine (refGetId_any a n c B at_ _ HRa.out.bytes).mono ?_
    rintro e wb ⟨he2, hb⟩
    rw [HT.out] at he2
    subst he2
    have HRb := Lib.hid (HRa.out.below hb)
    have HGb := Lib.hid (HGa.out.trans (grown_bel hb (some gr)))
    have HIb := Lib.hid (HIa.out.below hb)
    clear hb
    refine hK.out _ _ HRb.out.row (fun hHeld => ?_)
    clear hK K
    refine tk 9 (mo 6 (.move (.tmp 15))) (.tuple #[(.agg (idCells tl)), (.int .i64 (tu : Nat)), (.int .i64 (te : Nat))]) rfl ?_
    refine tk 10 (mo 16 (.extract (.tmp 6) 0)) (.agg (idCells tl)) rfl ?_
    refine tk 11 (mo 17 (.extract (.tmp 6) 1)) (.int .i64 (tu : Nat)) rfl ?_
    refine tk 12 (mo 18 (.extract (.tmp 6) 2)) (.int .i64 (te : Nat)) rfl ?_
    refine rdH [13] ?_
    refine AllReadyH.cons (o := ⟨some 3, .alloc 24, _, _, _, _⟩) rfl (fun K hK => ?_) AllReadyH.nil
    refine ready_step (wp_alloc_id rfl ?_)
    intro wc hi hb
    have HYc := Lib.hid hi
    have HL3 := Lib.hid (show gr < wb.heap.size ∧ g2 < wb.heap.size from ⟨HRb.out.row.lt, HIb.out.lt⟩)
    have HRc := Lib.hid (HRb.out.below hb)
    have HGc := Lib.hid (HGb.out.trans (grown_bel hb (some gr)))
    have HIc := Lib.hid (HIb.out.below hb)
    clear hb
    have HL3W := Lib.hid (show w.heap.size ≤ wb.heap.size from HGb.out.size)
    generalize wb.heap.size = g3 at hi HYc HL3 HL3W ⊢
    clear hi
    refine hK.out _ _ HRc.out.row (fun hHeld => ?_)
    clear hK K
    refine rdH [14] ?_
    refine AllReadyH.cons (o := ⟨none, .store 24 (.tmp 3) (.tmp 16), _, _, _, _⟩) rfl (fun K hK => ?_) AllReadyH.nil
    refine ready_step (wp_store_id _ _ rfl g3 idZero tl rfl rfl HYc.out HTL.out ?_)
    intro wd hi hg
    have HYd := Lib.hid hi
    have HRd := Lib.hid (HRc.out.other hg HL3.out.1)
    have HGd := Lib.hid (HGc.out.andThen hg (fun j hj => by cases hj; exact .inl HL3W.out))
    have HId := Lib.hid (HIc.out.ne_grown hg (Nat.ne_of_lt HL3.out.2))
    clear hi hg
    refine hK.out _ _ HRd.out.row (fun hHeld => ?_)
    clear hK K
    refine tk 15 (mo 4 (.assign (.tmp 17))) (.int .i64 (tu : Nat)) rfl ?_
    refine tk 16 (mo 5 (.assign (.tmp 18))) (.int .i64 (te : Nat)) rfl ?_
    refine wpAnyH_done (by kernel_rfl) ?_ _
    have c2 := HRd.out.row.cell 2 rfl
    have f2 := HRd.out.row.free 2
    have f1 := HRd.out.row.free 1
    have c1 : wd.cell? ⟨gr, 1, none⟩ = some (.int .i64 (at_ : Int)) := HRd.out.row.cell 1 rfl
    obtain ⟨wx, hwx⟩ : ∃ W, wd.setCell ⟨gr, 2, none⟩ (.bool false) = W := ⟨_, rfl⟩
    have hgs : wd.grownBy wx (some gr) := hwx ▸ grown_set _ _ _ _
    have HRx : Hid (Rdq w0 wx gr a n c B at_ false) := Lib.hid (HRd.out.setB (hwx ▸ HRd.out.row.set 2 _) hgs)
    have HGx := Lib.hid (HGd.out.trans hgs)
    have HIx := Lib.hid (HId.out.ne_grown hgs (Nat.ne_of_gt HGL.out))
    have HYx := Lib.hid (HYd.out.ne_grown hgs (Nat.ne_of_gt HL3.out.1))
    clear hgs
    go_wp2_with (first
     | ((with_reducible refine atS 31 ?_); go_must (refine build_id rfl rfl ?_))
     | ((with_reducible refine atT 2 ?_); go_must (refine store_id rfl _ _ rfl g2 idZero idZero rfl rfl HIx.out idZero_length ?_); intro wz hi hg hs; have HIz := Lib.hid hi; have HRz := Lib.hid (HRx.out.other hg HGL.out); have HGz := Lib.hid (HGx.out.andThen hg (fun j hj => by cases hj; exact .inl HGLW.out)); clear hi hg hs))
    refine bodyPost_ret (results_idr rfl _ _ g2 _ rfl HIz.out) rfl ?_
    rw [HP.out]
    exact ⟨_, rfl, rfl, at_, HRz.out, HGz.out⟩
   ·refine ready_step (wp_alloc_id rfl ?_)
    intro wb hi hb
    have HYb := Lib.hid hi
    have HL3 := Lib.hid (show gr < wa.heap.size ∧ g2 < wa.heap.size from ⟨HRa.out.row.lt, HIa.out.lt⟩)
    have HRb := Lib.hid (HRa.out.below hb)
    have HGb := Lib.hid (HGa.out.trans (grown_bel hb (some gr)))
    have HIb := Lib.hid (HIa.out.below hb)
    clear hb
    have HL3W := Lib.hid (show w.heap.size ≤ wa.heap.size from HGa.out.size)
    generalize wa.heap.size = g3 at hi HYb HL3 HL3W ⊢
    clear hi
    refine hK.out _ _ HRb.out.row (fun hHeld => ?_)
    clear hK K
    refine rdH [8] ?_
    refine AllReadyH.cons (o := ⟨some 15, .call { callee := .value (.func 49), args := #[(.tmp 10), (.tmp 14)], argTypes := #[28, 3] }, _, _, _, _⟩) rfl (fun K hK => ?_) AllReadyH.nil
    go_simp
    refine (refGetId_any a n c B at_ _ HRb.out.bytes).mono ?_
    rintro e wc ⟨he2, hb⟩
    rw [HT.out] at he2
    subst he2
    have HRc := Lib.hid (HRb.out.below hb)
    have HGc := Lib.hid (HGb.out.trans (grown_bel hb (some gr)))
    have HIc := Lib.hid (HIb.out.below hb)
    have HYc := Lib.hid (HYb.out.below hb)
    clear hb
    refine hK.out _ _ HRc.out.row (fun hHeld => ?_)
    clear hK K
    refine tk 9 (mo 6 (.move (.tmp 15))) (.tuple #[(.agg (idCells tl)), (.int .i64 (tu : Nat)), (.int .i64 (te : Nat))]) rfl ?_
    refine tk 10 (mo 16 (.extract (.tmp 6) 0)) (.agg (idCells tl)) rfl ?_
    refine tk 11 (mo 17 (.extract (.tmp 6) 1)) (.int .i64 (tu : Nat)) rfl ?_
    refine tk 12 (mo 18 (.extract (.tmp 6) 2)) (.int .i64 (te : Nat)) rfl ?_
    refine rdH [14] ?_
    refine AllReadyH.cons (o := ⟨none, .store 24 (.tmp 3) (.tmp 16), _, _, _, _⟩) rfl (fun K hK => ?_) AllReadyH.nil
    refine ready_step (wp_store_id _ _ rfl g3 idZero tl rfl rfl HYc.out HTL.out ?_)
    intro wd hi hg
    have HYd := Lib.hid hi
    have HRd := Lib.hid (HRc.out.other hg HL3.out.1)
    have HGd := Lib.hid (HGc.out.andThen hg (fun j hj => by cases hj; exact .inl HL3W.out))
    have HId := Lib.hid (HIc.out.ne_grown hg (Nat.ne_of_lt HL3.out.2))
    clear hi hg
    refine hK.out _ _ HRd.out.row (fun hHeld => ?_)
    clear hK K
    refine tk 15 (mo 4 (.assign (.tmp 17))) (.int .i64 (tu : Nat)) rfl ?_
    refine tk 16 (mo 5 (.assign (.tmp 18))) (.int .i64 (te : Nat)) rfl ?_
    refine wpAnyH_done (by kernel_rfl) ?_ _
    have c2 := HRd.out.row.cell 2 rfl
    have f2 := HRd.out.row.free 2
    have f1 := HRd.out.row.free 1
    have c1 : wd.cell? ⟨gr, 1, none⟩ = some (.int .i64 (at_ : Int)) := HRd.out.row.cell 1 rfl
    obtain ⟨wx, hwx⟩ : ∃ W, wd.setCell ⟨gr, 2, none⟩ (.bool false) = W := ⟨_, rfl⟩
    have hgs : wd.grownBy wx (some gr) := hwx ▸ grown_set _ _ _ _
    have HRx : Hid (Rdq w0 wx gr a n c B at_ false) := Lib.hid (HRd.out.setB (hwx ▸ HRd.out.row.set 2 _) hgs)
    have HGx := Lib.hid (HGd.out.trans hgs)
    have HIx := Lib.hid (HId.out.ne_grown hgs (Nat.ne_of_gt HGL.out))
    have HYx := Lib.hid (HYd.out.ne_grown hgs (Nat.ne_of_gt HL3.out.1))
    clear hgs
    go_wp2_with (first
     | ((with_reducible refine atS 31 ?_); go_must (refine build_id rfl rfl ?_))
     | ((with_reducible refine atT 2 ?_); go_must (refine store_id rfl _ _ rfl g2 idZero idZero rfl rfl HIx.out idZero_length ?_); intro wz hi hg hs; have HIz := Lib.hid hi; have HRz := Lib.hid (HRx.out.other hg HGL.out); have HGz := Lib.hid (HGx.out.andThen hg (fun j hj => by cases hj; exact .inl HGLW.out)); clear hi hg hs))
    refine bodyPost_ret (results_idr rfl _ _ g2 _ rfl HIz.out) rfl ?_
    rw [HP.out]
    exact ⟨_, rfl, rfl, at_, HRz.out, HGz.out⟩
end Go.Proofs.YthihmlojdopmfaaDoor
