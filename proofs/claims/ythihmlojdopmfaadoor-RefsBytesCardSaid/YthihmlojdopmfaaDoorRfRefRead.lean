/-
 The walks of the reference's Reader of refs: number, text: what is read, or a zero and Ok false.
-/
import Derived.Test.YthihmlojdopmfaaDoorRfRead
import Derived.Test.YthihmlojdopmfaaDoorGrp1
import Derived.Test.YthihmlojdopmfaaDoorGrp24
import Derived.Test.YthihmlojdopmfaaDoorRefGetId
namespace Go.Proofs.YthihmlojdopmfaaDoor
open Go.RowKit

abbrev RRDf : TypeId := 61
def rqL (a : Option Addr) (n c at_ : Nat) (ok : Bool) : List Value := [.slice a n c, .int .i64 (at_ : Int), .bool ok]
structure Rdq (w0 w : World) (gr : Nat) (a : Option Addr) (n c : Nat) (B : List UInt8) (at_ : Nat) (ok : Bool) : Prop where
 row : RowAt w gr RRDf (rqL a n c at_ ok)
 src : Bytes w0 a n c B
 low : w0.heap.size ≤ gr
 bel : Below w0.heap.size w0 w
section
variable {w0 w w1 : World} {gr n c at_ u : Nat} {a : Option Addr} {B : List UInt8} {ok ok' : Bool}
theorem Rdq.bytes (h : Rdq w0 w gr a n c B at_ ok) : Bytes w a n c B := h.src.below h.bel
theorem Rdq.below (h : Rdq w0 w gr a n c B at_ ok) (hb : Below w.heap.size w w1) : Rdq w0 w1 gr a n c B at_ ok := ⟨h.row.below hb, h.src, h.low, h.bel.trans (hb.mono h.bel.size)⟩
theorem Rdq.drew (h : Rdq w0 w gr a n c B at_ ok) : Rdq w0 w.drew gr a n c B at_ ok := h.below (Below.refl _ _).drew
theorem Rdq.set (h : Rdq w0 w gr a n c B at_ ok) (hr : RowAt w1 gr RRDf (rqL a n c u ok)) (hg : w.grownBy w1 (some gr)) : Rdq w0 w1 gr a n c B u ok := ⟨hr, h.src, h.low, h.bel.grown hg h.bel.size (fun k hk => by cases hk; exact h.low)⟩
theorem Rdq.setB (h : Rdq w0 w gr a n c B at_ ok) (hr : RowAt w1 gr RRDf (rqL a n c at_ ok')) (hg : w.grownBy w1 (some gr)) : Rdq w0 w1 gr a n c B at_ ok' := ⟨hr, h.src, h.low, h.bel.grown hg h.bel.size (fun k hk => by cases hk; exact h.low)⟩
theorem Rdq.own {row : Option Nat} (h : Rdq w0 w gr a n c B at_ ok) (hg : w.grownBy w1 row) (hne : some gr ≠ row) (hlt : ∀ k, row = some k → gr ≤ k) : Rdq w0 w1 gr a n c B at_ ok := ⟨h.row.grown hg hne, h.src, h.low, h.bel.grown hg h.bel.size (fun j hj => by have := hlt j hj; have := h.low; omega)⟩
end
theorem qN_yes {B : List UInt8} {at_ n u most : Nat} (h : getI B at_ = (n, u, 0)) (hn : n ≤ most) : pN B at_ most = some (n, u) := by unfold pN; rw [h]; exact if_pos hn
theorem qN_big {B : List UInt8} {at_ n u most : Nat} (h : getI B at_ = (n, u, 0)) (hn : ¬ n ≤ most) : pN B at_ most = none := by unfold pN; rw [h]; exact if_neg hn
theorem qN_no {B : List UInt8} {at_ n u e most : Nat} (h : getI B at_ = (n, u, e)) (he : e ≠ 0) : pN B at_ most = none := by
 unfold pN; rw [h]
 cases e with
 | zero => exact absurd rfl he
 | succ e => rfl
def QdIs {α : Type} (V : α → Value → World → Prop) (Z : Value → World → Prop) (P : Option (α × Nat)) (w0 w : World) (gr : Nat) (a : Option Addr) (n c : Nat) (B : List UInt8) (e : Ending) (w' : World) : Prop :=
 match P with
 | some (x, u) => ∃ v, e = .returned v ∧ V x v w' ∧ Rdq w0 w' gr a n c B u true ∧ w.grownBy w' (some gr)
 | none => ∃ v, e = .returned v ∧ Z v w' ∧ ∃ u, Rdq w0 w' gr a n c B u false ∧ w.grownBy w' (some gr)
def VI0 (k : Nat) (v : Value) (_ : World) : Prop := v = .int .i64 (k : Nat)
def Z0 (v : Value) (_ : World) : Prop := v = .int .i64 0
def ZS (v : Value) (_ : World) : Prop := v = .string ⟨#[]⟩
set_option maxRecDepth 100000 in
set_option maxHeartbeats 4000000 in
theorem qnum_any {w0 w : World} {gr n c at_ : Nat} {a : Option Addr} {B : List UInt8} {ok : Bool} (h : Rdq w0 w gr a n c B at_ ok) (most : Nat) (Pq : Option (Nat × Nat)) (hq : (if ok = true then pN B at_ most else none) = Pq) :
  Calls Tryd.prog 21 #[.pointer (some ⟨gr, 0, none⟩), .int .i64 most] w (QdIs VI0 Z0 Pq w0 w gr a n c B) := by
 obtain ⟨tl, tu, te, hT⟩ : ∃ tl tu te, getI B at_ = (tl, tu, te) := ⟨_, _, _, rfl⟩
 have HT := Lib.hid hT
 have HQ := Lib.hid hq
 clear hT hq
 cases ok
 ·have HP : Hid (Pq = none) := Lib.hid (HQ.out.symm.trans rfl)
  by_cases he : te = 0
  ·subst he
   by_cases hm : tl ≤ most
   ·have hmI : decide ((most : Int) < (tl : Int)) = false := decide_eq_false (by omega)
    have HD : Hid (Rdq w0 w.drew gr a n c B at_ false) := Lib.hid h.drew
    have HRq : Hid (RowAt w.drew gr RRDf (rqL a n c at_ false)) := Lib.hid h.row
    have HSR := Lib.hid h.drew.bytes
    have HGD := Lib.hid (grown_bel (Below.refl w.heap.size w).drew (some gr))
    clear h
    go_enter Tryd.func21, Tryd.ntmps21
    go_wp2
    refine wp_region_held_drew (S := fun W => RowAt W gr RRDf (rqL a n c at_ false)) (by kernel_rfl) HRq.out (fun hHeld => ?_)
    refine tk 0 (mo 9 (.move (.tmp 0))) (.pointer (some ⟨gr, 0, none⟩)) rfl ?_
    refine tk 1 (mo 10 (.nilCheck (.tmp 9))) (.pointer (some ⟨gr, 0, none⟩)) rfl ?_
    refine tk 2 (mo 11 (.fieldAddr 61 (.tmp 10) 0)) (.pointer (some ⟨gr, 0, none⟩)) rfl ?_
    refine tk 3 (mo 12 (.load 28 (.tmp 11))) (.slice a n c) rfl ?_ (Or.inl ⟨by rfl, fun W hW => by have hcell := hW.cell 0 rfl; go_simp⟩)
    refine tk 4 (mo 13 (.move (.tmp 0))) (.pointer (some ⟨gr, 0, none⟩)) rfl ?_
    refine tk 5 (mo 14 (.nilCheck (.tmp 13))) (.pointer (some ⟨gr, 0, none⟩)) rfl ?_
    refine tk 6 (mo 15 (.fieldAddr 61 (.tmp 14) 1)) (.pointer (some ⟨gr, 1, none⟩)) rfl ?_
    refine tk 7 (mo 16 (.load 3 (.tmp 15))) (.int .i64 (at_ : Nat)) rfl ?_ (Or.inl ⟨by rfl, fun W hW => by have hcell := (hW.cell 1 rfl : W.cell? ⟨gr, 1, none⟩ = some (.int .i64 (at_ : Int))); go_simp⟩)
    refine rdH [8] ?_
    refine AllReadyH.cons (o := ⟨some 17, .call { callee := .value (.func 50), args := #[(.tmp 12), (.tmp 16)], argTypes := #[28, 3] }, _, _, _, _⟩) rfl (fun K hK => ?_) AllReadyH.nil
    go_simp
    refine (refGet_any a n c B at_ _ HSR.out _ _ _ HT.out).mono ?_
    rintro e wt ⟨rfl, rfl⟩
    refine hK.out _ _ HRq.out (fun hHeld => ?_)
    clear hK K
    refine tk 9 (mo 8 (.move (.tmp 17))) (.tuple #[(.int .i64 (tl : Nat)), (.int .i64 (tu : Nat)), (.int .i64 (0 : Nat))]) rfl ?_
    refine tk 10 (mo 18 (.extract (.tmp 8) 0)) (.int .i64 (tl : Nat)) rfl ?_
    refine tk 11 (mo 19 (.extract (.tmp 8) 1)) (.int .i64 (tu : Nat)) rfl ?_
    refine tk 12 (mo 20 (.extract (.tmp 8) 2)) (.int .i64 (0 : Nat)) rfl ?_
    refine tk 13 (mo 5 (.assign (.tmp 18))) (.int .i64 (tl : Nat)) rfl ?_
    refine tk 14 (mo 6 (.assign (.tmp 19))) (.int .i64 (tu : Nat)) rfl ?_
    refine tk 15 (mo 7 (.assign (.tmp 20))) (.int .i64 (0 : Nat)) rfl ?_
    refine wpAnyH_done (by kernel_rfl) ?_ _
    have c2 := HRq.out.cell 2 rfl
    have f2 := HRq.out.free 2
    have f1 := HRq.out.free 1
    have c1 : w.drew.cell? ⟨gr, 1, none⟩ = some (.int .i64 (at_ : Int)) := HRq.out.cell 1 rfl
    go_wp2
    go_ret
    rw [HP.out]
    exact ⟨_, rfl, rfl, at_, HD.out.setB (HD.out.row.set 2 _) (grown_set w.drew gr 2 _), HGD.out.trans (grown_set w.drew gr 2 _)⟩
   ·have hmI : decide ((most : Int) < (tl : Int)) = true := decide_eq_true (by omega)
    have HD : Hid (Rdq w0 w.drew gr a n c B at_ false) := Lib.hid h.drew
    have HRq : Hid (RowAt w.drew gr RRDf (rqL a n c at_ false)) := Lib.hid h.row
    have HSR := Lib.hid h.drew.bytes
    have HGD := Lib.hid (grown_bel (Below.refl w.heap.size w).drew (some gr))
    clear h
    go_enter Tryd.func21, Tryd.ntmps21
    go_wp2
    refine wp_region_held_drew (S := fun W => RowAt W gr RRDf (rqL a n c at_ false)) (by kernel_rfl) HRq.out (fun hHeld => ?_)
    refine tk 0 (mo 9 (.move (.tmp 0))) (.pointer (some ⟨gr, 0, none⟩)) rfl ?_
    refine tk 1 (mo 10 (.nilCheck (.tmp 9))) (.pointer (some ⟨gr, 0, none⟩)) rfl ?_
    refine tk 2 (mo 11 (.fieldAddr 61 (.tmp 10) 0)) (.pointer (some ⟨gr, 0, none⟩)) rfl ?_
    refine tk 3 (mo 12 (.load 28 (.tmp 11))) (.slice a n c) rfl ?_ (Or.inl ⟨by rfl, fun W hW => by have hcell := hW.cell 0 rfl; go_simp⟩)
    refine tk 4 (mo 13 (.move (.tmp 0))) (.pointer (some ⟨gr, 0, none⟩)) rfl ?_
    refine tk 5 (mo 14 (.nilCheck (.tmp 13))) (.pointer (some ⟨gr, 0, none⟩)) rfl ?_
    refine tk 6 (mo 15 (.fieldAddr 61 (.tmp 14) 1)) (.pointer (some ⟨gr, 1, none⟩)) rfl ?_
    refine tk 7 (mo 16 (.load 3 (.tmp 15))) (.int .i64 (at_ : Nat)) rfl ?_ (Or.inl ⟨by rfl, fun W hW => by have hcell := (hW.cell 1 rfl : W.cell? ⟨gr, 1, none⟩ = some (.int .i64 (at_ : Int))); go_simp⟩)
    refine rdH [8] ?_
    refine AllReadyH.cons (o := ⟨some 17, .call { callee := .value (.func 50), args := #[(.tmp 12), (.tmp 16)], argTypes := #[28, 3] }, _, _, _, _⟩) rfl (fun K hK => ?_) AllReadyH.nil
    go_simp
    refine (refGet_any a n c B at_ _ HSR.out _ _ _ HT.out).mono ?_
    rintro e wt ⟨rfl, rfl⟩
    refine hK.out _ _ HRq.out (fun hHeld => ?_)
    clear hK K
    refine tk 9 (mo 8 (.move (.tmp 17))) (.tuple #[(.int .i64 (tl : Nat)), (.int .i64 (tu : Nat)), (.int .i64 (0 : Nat))]) rfl ?_
    refine tk 10 (mo 18 (.extract (.tmp 8) 0)) (.int .i64 (tl : Nat)) rfl ?_
    refine tk 11 (mo 19 (.extract (.tmp 8) 1)) (.int .i64 (tu : Nat)) rfl ?_
    refine tk 12 (mo 20 (.extract (.tmp 8) 2)) (.int .i64 (0 : Nat)) rfl ?_
    refine tk 13 (mo 5 (.assign (.tmp 18))) (.int .i64 (tl : Nat)) rfl ?_
    refine tk 14 (mo 6 (.assign (.tmp 19))) (.int .i64 (tu : Nat)) rfl ?_
    refine tk 15 (mo 7 (.assign (.tmp 20))) (.int .i64 (0 : Nat)) rfl ?_
    refine wpAnyH_done (by kernel_rfl) ?_ _
    have c2 := HRq.out.cell 2 rfl
    have f2 := HRq.out.free 2
    have f1 := HRq.out.free 1
    have c1 : w.drew.cell? ⟨gr, 1, none⟩ = some (.int .i64 (at_ : Int)) := HRq.out.cell 1 rfl
    go_wp2
    go_ret
    rw [HP.out]
    exact ⟨_, rfl, rfl, at_, HD.out.setB (HD.out.row.set 2 _) (grown_set w.drew gr 2 _), HGD.out.trans (grown_set w.drew gr 2 _)⟩
  ·have heI : ((te : Int) == 0) = false := by rw [beq_eq_false_iff_ne]; omega
   have HD : Hid (Rdq w0 w.drew gr a n c B at_ false) := Lib.hid h.drew
   have HRq : Hid (RowAt w.drew gr RRDf (rqL a n c at_ false)) := Lib.hid h.row
   have HSR := Lib.hid h.drew.bytes
   have HGD := Lib.hid (grown_bel (Below.refl w.heap.size w).drew (some gr))
   clear h
   go_enter Tryd.func21, Tryd.ntmps21
   go_wp2
   refine wp_region_held_drew (S := fun W => RowAt W gr RRDf (rqL a n c at_ false)) (by kernel_rfl) HRq.out (fun hHeld => ?_)
   refine tk 0 (mo 9 (.move (.tmp 0))) (.pointer (some ⟨gr, 0, none⟩)) rfl ?_
   refine tk 1 (mo 10 (.nilCheck (.tmp 9))) (.pointer (some ⟨gr, 0, none⟩)) rfl ?_
   refine tk 2 (mo 11 (.fieldAddr 61 (.tmp 10) 0)) (.pointer (some ⟨gr, 0, none⟩)) rfl ?_
   refine tk 3 (mo 12 (.load 28 (.tmp 11))) (.slice a n c) rfl ?_ (Or.inl ⟨by rfl, fun W hW => by have hcell := hW.cell 0 rfl; go_simp⟩)
   refine tk 4 (mo 13 (.move (.tmp 0))) (.pointer (some ⟨gr, 0, none⟩)) rfl ?_
   refine tk 5 (mo 14 (.nilCheck (.tmp 13))) (.pointer (some ⟨gr, 0, none⟩)) rfl ?_
   refine tk 6 (mo 15 (.fieldAddr 61 (.tmp 14) 1)) (.pointer (some ⟨gr, 1, none⟩)) rfl ?_
   refine tk 7 (mo 16 (.load 3 (.tmp 15))) (.int .i64 (at_ : Nat)) rfl ?_ (Or.inl ⟨by rfl, fun W hW => by have hcell := (hW.cell 1 rfl : W.cell? ⟨gr, 1, none⟩ = some (.int .i64 (at_ : Int))); go_simp⟩)
   refine rdH [8] ?_
   refine AllReadyH.cons (o := ⟨some 17, .call { callee := .value (.func 50), args := #[(.tmp 12), (.tmp 16)], argTypes := #[28, 3] }, _, _, _, _⟩) rfl (fun K hK => ?_) AllReadyH.nil
   go_simp
   refine (refGet_any a n c B at_ _ HSR.out _ _ _ HT.out).mono ?_
   rintro e wt ⟨rfl, rfl⟩
   refine hK.out _ _ HRq.out (fun hHeld => ?_)
   clear hK K
   refine tk 9 (mo 8 (.move (.tmp 17))) (.tuple #[(.int .i64 (tl : Nat)), (.int .i64 (tu : Nat)), (.int .i64 (te : Nat))]) rfl ?_
   refine tk 10 (mo 18 (.extract (.tmp 8) 0)) (.int .i64 (tl : Nat)) rfl ?_
   refine tk 11 (mo 19 (.extract (.tmp 8) 1)) (.int .i64 (tu : Nat)) rfl ?_
   refine tk 12 (mo 20 (.extract (.tmp 8) 2)) (.int .i64 (te : Nat)) rfl ?_
   refine tk 13 (mo 5 (.assign (.tmp 18))) (.int .i64 (tl : Nat)) rfl ?_
   refine tk 14 (mo 6 (.assign (.tmp 19))) (.int .i64 (tu : Nat)) rfl ?_
   refine tk 15 (mo 7 (.assign (.tmp 20))) (.int .i64 (te : Nat)) rfl ?_
   refine wpAnyH_done (by kernel_rfl) ?_ _
   have c2 := HRq.out.cell 2 rfl
   have f2 := HRq.out.free 2
   have f1 := HRq.out.free 1
   have c1 : w.drew.cell? ⟨gr, 1, none⟩ = some (.int .i64 (at_ : Int)) := HRq.out.cell 1 rfl
   go_wp2
   go_ret
   rw [HP.out]
   exact ⟨_, rfl, rfl, at_, HD.out.setB (HD.out.row.set 2 _) (grown_set w.drew gr 2 _), HGD.out.trans (grown_set w.drew gr 2 _)⟩
 ·by_cases he : te = 0
  ·subst he
   by_cases hm : tl ≤ most
   ·have HP : Hid (Pq = some (tl, tu)) := Lib.hid (HQ.out.symm.trans (by rw [if_pos rfl]; exact qN_yes HT.out hm))
    have hmI : decide ((most : Int) < (tl : Int)) = false := decide_eq_false (by omega)
    have HD : Hid (Rdq w0 w.drew gr a n c B at_ true) := Lib.hid h.drew
    have HRq : Hid (RowAt w.drew gr RRDf (rqL a n c at_ true)) := Lib.hid h.row
    have HSR := Lib.hid h.drew.bytes
    have HGD := Lib.hid (grown_bel (Below.refl w.heap.size w).drew (some gr))
    clear h
    go_enter Tryd.func21, Tryd.ntmps21
    go_wp2
    refine wp_region_held_drew (S := fun W => RowAt W gr RRDf (rqL a n c at_ true)) (by kernel_rfl) HRq.out (fun hHeld => ?_)
    refine tk 0 (mo 9 (.move (.tmp 0))) (.pointer (some ⟨gr, 0, none⟩)) rfl ?_
    refine tk 1 (mo 10 (.nilCheck (.tmp 9))) (.pointer (some ⟨gr, 0, none⟩)) rfl ?_
    refine tk 2 (mo 11 (.fieldAddr 61 (.tmp 10) 0)) (.pointer (some ⟨gr, 0, none⟩)) rfl ?_
    refine tk 3 (mo 12 (.load 28 (.tmp 11))) (.slice a n c) rfl ?_ (Or.inl ⟨by rfl, fun W hW => by have hcell := hW.cell 0 rfl; go_simp⟩)
    refine tk 4 (mo 13 (.move (.tmp 0))) (.pointer (some ⟨gr, 0, none⟩)) rfl ?_
    refine tk 5 (mo 14 (.nilCheck (.tmp 13))) (.pointer (some ⟨gr, 0, none⟩)) rfl ?_
    refine tk 6 (mo 15 (.fieldAddr 61 (.tmp 14) 1)) (.pointer (some ⟨gr, 1, none⟩)) rfl ?_
    refine tk 7 (mo 16 (.load 3 (.tmp 15))) (.int .i64 (at_ : Nat)) rfl ?_ (Or.inl ⟨by rfl, fun W hW => by have hcell := (hW.cell 1 rfl : W.cell? ⟨gr, 1, none⟩ = some (.int .i64 (at_ : Int))); go_simp⟩)
    refine rdH [8] ?_
    refine AllReadyH.cons (o := ⟨some 17, .call { callee := .value (.func 50), args := #[(.tmp 12), (.tmp 16)], argTypes := #[28, 3] }, _, _, _, _⟩) rfl (fun K hK => ?_) AllReadyH.nil
    go_simp
    refine (refGet_any a n c B at_ _ HSR.out _ _ _ HT.out).mono ?_
    rintro e wt ⟨rfl, rfl⟩
    refine hK.out _ _ HRq.out (fun hHeld => ?_)
    clear hK K
    refine tk 9 (mo 8 (.move (.tmp 17))) (.tuple #[(.int .i64 (tl : Nat)), (.int .i64 (tu : Nat)), (.int .i64 (0 : Nat))]) rfl ?_
    refine tk 10 (mo 18 (.extract (.tmp 8) 0)) (.int .i64 (tl : Nat)) rfl ?_
    refine tk 11 (mo 19 (.extract (.tmp 8) 1)) (.int .i64 (tu : Nat)) rfl ?_
    refine tk 12 (mo 20 (.extract (.tmp 8) 2)) (.int .i64 (0 : Nat)) rfl ?_
    refine tk 13 (mo 5 (.assign (.tmp 18))) (.int .i64 (tl : Nat)) rfl ?_
    refine tk 14 (mo 6 (.assign (.tmp 19))) (.int .i64 (tu : Nat)) rfl ?_
    refine tk 15 (mo 7 (.assign (.tmp 20))) (.int .i64 (0 : Nat)) rfl ?_
    refine wpAnyH_done (by kernel_rfl) ?_ _
    have c2 := HRq.out.cell 2 rfl
    have f2 := HRq.out.free 2
    have f1 := HRq.out.free 1
    have c1 : w.drew.cell? ⟨gr, 1, none⟩ = some (.int .i64 (at_ : Int)) := HRq.out.cell 1 rfl
    go_wp2
    go_ret
    rw [HP.out]
    exact ⟨_, rfl, rfl, HD.out.set (HD.out.row.set 1 _) (grown_set w.drew gr 1 _), HGD.out.trans (grown_set w.drew gr 1 _)⟩
   ·have HP : Hid (Pq = none) := Lib.hid (HQ.out.symm.trans (by rw [if_pos rfl]; exact qN_big HT.out hm))
    have hmI : decide ((most : Int) < (tl : Int)) = true := decide_eq_true (by omega)
    have HD : Hid (Rdq w0 w.drew gr a n c B at_ true) := Lib.hid h.drew
    have HRq : Hid (RowAt w.drew gr RRDf (rqL a n c at_ true)) := Lib.hid h.row
    have HSR := Lib.hid h.drew.bytes
    have HGD := Lib.hid (grown_bel (Below.refl w.heap.size w).drew (some gr))
    clear h
    go_enter Tryd.func21, Tryd.ntmps21
    go_wp2
    refine wp_region_held_drew (S := fun W => RowAt W gr RRDf (rqL a n c at_ true)) (by kernel_rfl) HRq.out (fun hHeld => ?_)
    refine tk 0 (mo 9 (.move (.tmp 0))) (.pointer (some ⟨gr, 0, none⟩)) rfl ?_
    refine tk 1 (mo 10 (.nilCheck (.tmp 9))) (.pointer (some ⟨gr, 0, none⟩)) rfl ?_
    refine tk 2 (mo 11 (.fieldAddr 61 (.tmp 10) 0)) (.pointer (some ⟨gr, 0, none⟩)) rfl ?_
    refine tk 3 (mo 12 (.load 28 (.tmp 11))) (.slice a n c) rfl ?_ (Or.inl ⟨by rfl, fun W hW => by have hcell := hW.cell 0 rfl; go_simp⟩)
    refine tk 4 (mo 13 (.move (.tmp 0))) (.pointer (some ⟨gr, 0, none⟩)) rfl ?_
    refine tk 5 (mo 14 (.nilCheck (.tmp 13))) (.pointer (some ⟨gr, 0, none⟩)) rfl ?_
    refine tk 6 (mo 15 (.fieldAddr 61 (.tmp 14) 1)) (.pointer (some ⟨gr, 1, none⟩)) rfl ?_
    refine tk 7 (mo 16 (.load 3 (.tmp 15))) (.int .i64 (at_ : Nat)) rfl ?_ (Or.inl ⟨by rfl, fun W hW => by have hcell := (hW.cell 1 rfl : W.cell? ⟨gr, 1, none⟩ = some (.int .i64 (at_ : Int))); go_simp⟩)
    refine rdH [8] ?_
    refine AllReadyH.cons (o := ⟨some 17, .call { callee := .value (.func 50), args := #[(.tmp 12), (.tmp 16)], argTypes := #[28, 3] }, _, _, _, _⟩) rfl (fun K hK => ?_) AllReadyH.nil
    go_simp
    refine (refGet_any a n c B at_ _ HSR.out _ _ _ HT.out).mono ?_
    rintro e wt ⟨rfl, rfl⟩
    refine hK.out _ _ HRq.out (fun hHeld => ?_)
    clear hK K
    refine tk 9 (mo 8 (.move (.tmp 17))) (.tuple #[(.int .i64 (tl : Nat)), (.int .i64 (tu : Nat)), (.int .i64 (0 : Nat))]) rfl ?_
    refine tk 10 (mo 18 (.extract (.tmp 8) 0)) (.int .i64 (tl : Nat)) rfl ?_
    refine tk 11 (mo 19 (.extract (.tmp 8) 1)) (.int .i64 (tu : Nat)) rfl ?_
    refine tk 12 (mo 20 (.extract (.tmp 8) 2)) (.int .i64 (0 : Nat)) rfl ?_
    refine tk 13 (mo 5 (.assign (.tmp 18))) (.int .i64 (tl : Nat)) rfl ?_
    refine tk 14 (mo 6 (.assign (.tmp 19))) (.int .i64 (tu : Nat)) rfl ?_
    refine tk 15 (mo 7 (.assign (.tmp 20))) (.int .i64 (0 : Nat)) rfl ?_
    refine wpAnyH_done (by kernel_rfl) ?_ _
    have c2 := HRq.out.cell 2 rfl
    have f2 := HRq.out.free 2
    have f1 := HRq.out.free 1
    have c1 : w.drew.cell? ⟨gr, 1, none⟩ = some (.int .i64 (at_ : Int)) := HRq.out.cell 1 rfl
    go_wp2
    go_ret
    rw [HP.out]
    exact ⟨_, rfl, rfl, at_, HD.out.setB (HD.out.row.set 2 _) (grown_set w.drew gr 2 _), HGD.out.trans (grown_set w.drew gr 2 _)⟩
  ·have HP : Hid (Pq = none) := Lib.hid (HQ.out.symm.trans (by rw [if_pos rfl]; exact qN_no HT.out he))
   have heI : ((te : Int) == 0) = false := by rw [beq_eq_false_iff_ne]; omega
   have HD : Hid (Rdq w0 w.drew gr a n c B at_ true) := Lib.hid h.drew
   have HRq : Hid (RowAt w.drew gr RRDf (rqL a n c at_ true)) := Lib.hid h.row
   have HSR := Lib.hid h.drew.bytes
   have HGD := Lib.hid (grown_bel (Below.refl w.heap.size w).drew (some gr))
   clear h
   go_enter Tryd.func21, Tryd.ntmps21
   go_wp2
   refine wp_region_held_drew (S := fun W => RowAt W gr RRDf (rqL a n c at_ true)) (by kernel_rfl) HRq.out (fun hHeld => ?_)
   refine tk 0 (mo 9 (.move (.tmp 0))) (.pointer (some ⟨gr, 0, none⟩)) rfl ?_
   refine tk 1 (mo 10 (.nilCheck (.tmp 9))) (.pointer (some ⟨gr, 0, none⟩)) rfl ?_
   refine tk 2 (mo 11 (.fieldAddr 61 (.tmp 10) 0)) (.pointer (some ⟨gr, 0, none⟩)) rfl ?_
   refine tk 3 (mo 12 (.load 28 (.tmp 11))) (.slice a n c) rfl ?_ (Or.inl ⟨by rfl, fun W hW => by have hcell := hW.cell 0 rfl; go_simp⟩)
   refine tk 4 (mo 13 (.move (.tmp 0))) (.pointer (some ⟨gr, 0, none⟩)) rfl ?_
   refine tk 5 (mo 14 (.nilCheck (.tmp 13))) (.pointer (some ⟨gr, 0, none⟩)) rfl ?_
   refine tk 6 (mo 15 (.fieldAddr 61 (.tmp 14) 1)) (.pointer (some ⟨gr, 1, none⟩)) rfl ?_
   refine tk 7 (mo 16 (.load 3 (.tmp 15))) (.int .i64 (at_ : Nat)) rfl ?_ (Or.inl ⟨by rfl, fun W hW => by have hcell := (hW.cell 1 rfl : W.cell? ⟨gr, 1, none⟩ = some (.int .i64 (at_ : Int))); go_simp⟩)
   refine rdH [8] ?_
   refine AllReadyH.cons (o := ⟨some 17, .call { callee := .value (.func 50), args := #[(.tmp 12), (.tmp 16)], argTypes := #[28, 3] }, _, _, _, _⟩) rfl (fun K hK => ?_) AllReadyH.nil
   go_simp
   refine (refGet_any a n c B at_ _ HSR.out _ _ _ HT.out).mono ?_
   rintro e wt ⟨rfl, rfl⟩
   refine hK.out _ _ HRq.out (fun hHeld => ?_)
   clear hK K
   refine tk 9 (mo 8 (.move (.tmp 17))) (.tuple #[(.int .i64 (tl : Nat)), (.int .i64 (tu : Nat)), (.int .i64 (te : Nat))]) rfl ?_
   refine tk 10 (mo 18 (.extract (.tmp 8) 0)) (.int .i64 (tl : Nat)) rfl ?_
   refine tk 11 (mo 19 (.extract (.tmp 8) 1)) (.int .i64 (tu : Nat)) rfl ?_
   refine tk 12 (mo 20 (.extract (.tmp 8) 2)) (.int .i64 (te : Nat)) rfl ?_
   refine tk 13 (mo 5 (.assign (.tmp 18))) (.int .i64 (tl : Nat)) rfl ?_
   refine tk 14 (mo 6 (.assign (.tmp 19))) (.int .i64 (tu : Nat)) rfl ?_
   refine tk 15 (mo 7 (.assign (.tmp 20))) (.int .i64 (te : Nat)) rfl ?_
   refine wpAnyH_done (by kernel_rfl) ?_ _
   have c2 := HRq.out.cell 2 rfl
   have f2 := HRq.out.free 2
   have f1 := HRq.out.free 1
   have c1 : w.drew.cell? ⟨gr, 1, none⟩ = some (.int .i64 (at_ : Int)) := HRq.out.cell 1 rfl
   go_wp2
   go_ret
   rw [HP.out]
   exact ⟨_, rfl, rfl, at_, HD.out.setB (HD.out.row.set 2 _) (grown_set w.drew gr 2 _), HGD.out.trans (grown_set w.drew gr 2 _)⟩
set_option maxRecDepth 100000 in
set_option maxHeartbeats 4000000 in
theorem qtext_any {w0 w : World} {gr n c at_ : Nat} {a : Option Addr} {B : List UInt8} {ok : Bool} (h : Rdq w0 w gr a n c B at_ ok) (Pq : Option (List UInt8 × Nat)) (hq : (if ok = true then pT B at_ 256 else none) = Pq) :
  Calls Tryd.prog 19 #[.pointer (some ⟨gr, 0, none⟩)] w (QdIs VS ZS Pq w0 w gr a n c B) := by
 obtain ⟨tl, tu, te, hT⟩ : ∃ tl tu te, getT B at_ 256 = (tl, tu, te) := ⟨_, _, _, rfl⟩
 have HT := Lib.hid hT
 have HQ := Lib.hid hq
 clear hT hq
 cases ok
 ·have HP : Hid (Pq = none) := Lib.hid (HQ.out.symm.trans rfl)
  by_cases he : te = 0
  ·subst he
   have HD : Hid (Rdq w0 w.drew gr a n c B at_ false) := Lib.hid h.drew
   have HRq : Hid (RowAt w.drew gr RRDf (rqL a n c at_ false)) := Lib.hid h.row
   have HSR := Lib.hid h.drew.bytes
   have HGD := Lib.hid (grown_bel (Below.refl w.heap.size w).drew (some gr))
   clear h
   go_enter Tryd.func19, Tryd.ntmps19
   go_wp2
   refine wp_region_held_drew (S := fun W => RowAt W gr RRDf (rqL a n c at_ false)) (by kernel_rfl) HRq.out (fun hHeld => ?_)
   refine tk 0 (mo 7 (.move (.tmp 0))) (.pointer (some ⟨gr, 0, none⟩)) rfl ?_
   refine tk 1 (mo 8 (.nilCheck (.tmp 7))) (.pointer (some ⟨gr, 0, none⟩)) rfl ?_
   refine tk 2 (mo 9 (.fieldAddr 61 (.tmp 8) 0)) (.pointer (some ⟨gr, 0, none⟩)) rfl ?_
   refine tk 3 (mo 10 (.load 28 (.tmp 9))) (.slice a n c) rfl ?_ (Or.inl ⟨by rfl, fun W hW => by have hcell := hW.cell 0 rfl; go_simp⟩)
   refine tk 4 (mo 11 (.move (.tmp 0))) (.pointer (some ⟨gr, 0, none⟩)) rfl ?_
   refine tk 5 (mo 12 (.nilCheck (.tmp 11))) (.pointer (some ⟨gr, 0, none⟩)) rfl ?_
   refine tk 6 (mo 13 (.fieldAddr 61 (.tmp 12) 1)) (.pointer (some ⟨gr, 1, none⟩)) rfl ?_
   refine tk 7 (mo 14 (.load 3 (.tmp 13))) (.int .i64 (at_ : Nat)) rfl ?_ (Or.inl ⟨by rfl, fun W hW => by have hcell := (hW.cell 1 rfl : W.cell? ⟨gr, 1, none⟩ = some (.int .i64 (at_ : Int))); go_simp⟩)
   refine rdH [8] ?_
   refine AllReadyH.cons (o := ⟨some 15, .call { callee := .value (.func 48), args := #[(.tmp 10), (.tmp 14), (.const (.int .i64 256))], argTypes := #[28, 3, 3] }, _, _, _, _⟩) rfl (fun K hK => ?_) AllReadyH.nil
   go_simp
   refine (refGetText_any a n c B at_ 256 _ HSR.out).mono ?_
   rintro e wt ⟨he2, rfl⟩
   rw [HT.out] at he2
   subst he2
   refine hK.out _ _ HRq.out (fun hHeld => ?_)
   clear hK K
   refine tk 9 (mo 6 (.move (.tmp 15))) (.tuple #[(.string (strB tl)), (.int .i64 (tu : Nat)), (.int .i64 (0 : Nat))]) rfl ?_
   refine tk 10 (mo 16 (.extract (.tmp 6) 0)) (.string (strB tl)) rfl ?_
   refine tk 11 (mo 17 (.extract (.tmp 6) 1)) (.int .i64 (tu : Nat)) rfl ?_
   refine tk 12 (mo 18 (.extract (.tmp 6) 2)) (.int .i64 (0 : Nat)) rfl ?_
   refine tk 13 (mo 3 (.assign (.tmp 16))) (.string (strB tl)) rfl ?_
   refine tk 14 (mo 4 (.assign (.tmp 17))) (.int .i64 (tu : Nat)) rfl ?_
   refine tk 15 (mo 5 (.assign (.tmp 18))) (.int .i64 (0 : Nat)) rfl ?_
   refine wpAnyH_done (by kernel_rfl) ?_ _
   have c2 := HRq.out.cell 2 rfl
   have f2 := HRq.out.free 2
   have f1 := HRq.out.free 1
   have c1 : w.drew.cell? ⟨gr, 1, none⟩ = some (.int .i64 (at_ : Int)) := HRq.out.cell 1 rfl
   go_wp2
   go_ret
   rw [HP.out]
   exact ⟨_, rfl, rfl, at_, HD.out.setB (HD.out.row.set 2 _) (grown_set w.drew gr 2 _), HGD.out.trans (grown_set w.drew gr 2 _)⟩
  ·have heI : ((te : Int) == 0) = false := by rw [beq_eq_false_iff_ne]; omega
   have HD : Hid (Rdq w0 w.drew gr a n c B at_ false) := Lib.hid h.drew
   have HRq : Hid (RowAt w.drew gr RRDf (rqL a n c at_ false)) := Lib.hid h.row
   have HSR := Lib.hid h.drew.bytes
   have HGD := Lib.hid (grown_bel (Below.refl w.heap.size w).drew (some gr))
   clear h
   go_enter Tryd.func19, Tryd.ntmps19
   go_wp2
   refine wp_region_held_drew (S := fun W => RowAt W gr RRDf (rqL a n c at_ false)) (by kernel_rfl) HRq.out (fun hHeld => ?_)
   refine tk 0 (mo 7 (.move (.tmp 0))) (.pointer (some ⟨gr, 0, none⟩)) rfl ?_
   refine tk 1 (mo 8 (.nilCheck (.tmp 7))) (.pointer (some ⟨gr, 0, none⟩)) rfl ?_
   refine tk 2 (mo 9 (.fieldAddr 61 (.tmp 8) 0)) (.pointer (some ⟨gr, 0, none⟩)) rfl ?_
   refine tk 3 (mo 10 (.load 28 (.tmp 9))) (.slice a n c) rfl ?_ (Or.inl ⟨by rfl, fun W hW => by have hcell := hW.cell 0 rfl; go_simp⟩)
   refine tk 4 (mo 11 (.move (.tmp 0))) (.pointer (some ⟨gr, 0, none⟩)) rfl ?_
   refine tk 5 (mo 12 (.nilCheck (.tmp 11))) (.pointer (some ⟨gr, 0, none⟩)) rfl ?_
   refine tk 6 (mo 13 (.fieldAddr 61 (.tmp 12) 1)) (.pointer (some ⟨gr, 1, none⟩)) rfl ?_
   refine tk 7 (mo 14 (.load 3 (.tmp 13))) (.int .i64 (at_ : Nat)) rfl ?_ (Or.inl ⟨by rfl, fun W hW => by have hcell := (hW.cell 1 rfl : W.cell? ⟨gr, 1, none⟩ = some (.int .i64 (at_ : Int))); go_simp⟩)
   refine rdH [8] ?_
   refine AllReadyH.cons (o := ⟨some 15, .call { callee := .value (.func 48), args := #[(.tmp 10), (.tmp 14), (.const (.int .i64 256))], argTypes := #[28, 3, 3] }, _, _, _, _⟩) rfl (fun K hK => ?_) AllReadyH.nil
   go_simp
   refine (refGetText_any a n c B at_ 256 _ HSR.out).mono ?_
   rintro e wt ⟨he2, rfl⟩
   rw [HT.out] at he2
   subst he2
   refine hK.out _ _ HRq.out (fun hHeld => ?_)
   clear hK K
   refine tk 9 (mo 6 (.move (.tmp 15))) (.tuple #[(.string (strB tl)), (.int .i64 (tu : Nat)), (.int .i64 (te : Nat))]) rfl ?_
   refine tk 10 (mo 16 (.extract (.tmp 6) 0)) (.string (strB tl)) rfl ?_
   refine tk 11 (mo 17 (.extract (.tmp 6) 1)) (.int .i64 (tu : Nat)) rfl ?_
   refine tk 12 (mo 18 (.extract (.tmp 6) 2)) (.int .i64 (te : Nat)) rfl ?_
   refine tk 13 (mo 3 (.assign (.tmp 16))) (.string (strB tl)) rfl ?_
   refine tk 14 (mo 4 (.assign (.tmp 17))) (.int .i64 (tu : Nat)) rfl ?_
   refine tk 15 (mo 5 (.assign (.tmp 18))) (.int .i64 (te : Nat)) rfl ?_
   refine wpAnyH_done (by kernel_rfl) ?_ _
   have c2 := HRq.out.cell 2 rfl
   have f2 := HRq.out.free 2
   have f1 := HRq.out.free 1
   have c1 : w.drew.cell? ⟨gr, 1, none⟩ = some (.int .i64 (at_ : Int)) := HRq.out.cell 1 rfl
   go_wp2
   go_ret
   rw [HP.out]
   exact ⟨_, rfl, rfl, at_, HD.out.setB (HD.out.row.set 2 _) (grown_set w.drew gr 2 _), HGD.out.trans (grown_set w.drew gr 2 _)⟩
 ·by_cases he : te = 0
  ·subst he
   have HP : Hid (Pq = some (tl, tu)) := Lib.hid (HQ.out.symm.trans (by rw [if_pos rfl]; exact pT_yes HT.out))
   have HD : Hid (Rdq w0 w.drew gr a n c B at_ true) := Lib.hid h.drew
   have HRq : Hid (RowAt w.drew gr RRDf (rqL a n c at_ true)) := Lib.hid h.row
   have HSR := Lib.hid h.drew.bytes
   have HGD := Lib.hid (grown_bel (Below.refl w.heap.size w).drew (some gr))
   clear h
   go_enter Tryd.func19, Tryd.ntmps19
   go_wp2
   refine wp_region_held_drew (S := fun W => RowAt W gr RRDf (rqL a n c at_ true)) (by kernel_rfl) HRq.out (fun hHeld => ?_)
   refine tk 0 (mo 7 (.move (.tmp 0))) (.pointer (some ⟨gr, 0, none⟩)) rfl ?_
   refine tk 1 (mo 8 (.nilCheck (.tmp 7))) (.pointer (some ⟨gr, 0, none⟩)) rfl ?_
   refine tk 2 (mo 9 (.fieldAddr 61 (.tmp 8) 0)) (.pointer (some ⟨gr, 0, none⟩)) rfl ?_
   refine tk 3 (mo 10 (.load 28 (.tmp 9))) (.slice a n c) rfl ?_ (Or.inl ⟨by rfl, fun W hW => by have hcell := hW.cell 0 rfl; go_simp⟩)
   refine tk 4 (mo 11 (.move (.tmp 0))) (.pointer (some ⟨gr, 0, none⟩)) rfl ?_
   refine tk 5 (mo 12 (.nilCheck (.tmp 11))) (.pointer (some ⟨gr, 0, none⟩)) rfl ?_
   refine tk 6 (mo 13 (.fieldAddr 61 (.tmp 12) 1)) (.pointer (some ⟨gr, 1, none⟩)) rfl ?_
   refine tk 7 (mo 14 (.load 3 (.tmp 13))) (.int .i64 (at_ : Nat)) rfl ?_ (Or.inl ⟨by rfl, fun W hW => by have hcell := (hW.cell 1 rfl : W.cell? ⟨gr, 1, none⟩ = some (.int .i64 (at_ : Int))); go_simp⟩)
   refine rdH [8] ?_
   refine AllReadyH.cons (o := ⟨some 15, .call { callee := .value (.func 48), args := #[(.tmp 10), (.tmp 14), (.const (.int .i64 256))], argTypes := #[28, 3, 3] }, _, _, _, _⟩) rfl (fun K hK => ?_) AllReadyH.nil
   go_simp
   refine (refGetText_any a n c B at_ 256 _ HSR.out).mono ?_
   rintro e wt ⟨he2, rfl⟩
   rw [HT.out] at he2
   subst he2
   refine hK.out _ _ HRq.out (fun hHeld => ?_)
   clear hK K
   refine tk 9 (mo 6 (.move (.tmp 15))) (.tuple #[(.string (strB tl)), (.int .i64 (tu : Nat)), (.int .i64 (0 : Nat))]) rfl ?_
   refine tk 10 (mo 16 (.extract (.tmp 6) 0)) (.string (strB tl)) rfl ?_
   refine tk 11 (mo 17 (.extract (.tmp 6) 1)) (.int .i64 (tu : Nat)) rfl ?_
   refine tk 12 (mo 18 (.extract (.tmp 6) 2)) (.int .i64 (0 : Nat)) rfl ?_
   refine tk 13 (mo 3 (.assign (.tmp 16))) (.string (strB tl)) rfl ?_
   refine tk 14 (mo 4 (.assign (.tmp 17))) (.int .i64 (tu : Nat)) rfl ?_
   refine tk 15 (mo 5 (.assign (.tmp 18))) (.int .i64 (0 : Nat)) rfl ?_
   refine wpAnyH_done (by kernel_rfl) ?_ _
   have c2 := HRq.out.cell 2 rfl
   have f2 := HRq.out.free 2
   have f1 := HRq.out.free 1
   have c1 : w.drew.cell? ⟨gr, 1, none⟩ = some (.int .i64 (at_ : Int)) := HRq.out.cell 1 rfl
   go_wp2
   go_ret
   rw [HP.out]
   exact ⟨_, rfl, rfl, HD.out.set (HD.out.row.set 1 _) (grown_set w.drew gr 1 _), HGD.out.trans (grown_set w.drew gr 1 _)⟩
  ·have HP : Hid (Pq = none) := Lib.hid (HQ.out.symm.trans (by rw [if_pos rfl]; exact pT_no HT.out he))
   have heI : ((te : Int) == 0) = false := by rw [beq_eq_false_iff_ne]; omega
   have HD : Hid (Rdq w0 w.drew gr a n c B at_ true) := Lib.hid h.drew
   have HRq : Hid (RowAt w.drew gr RRDf (rqL a n c at_ true)) := Lib.hid h.row
   have HSR := Lib.hid h.drew.bytes
   have HGD := Lib.hid (grown_bel (Below.refl w.heap.size w).drew (some gr))
   clear h
   go_enter Tryd.func19, Tryd.ntmps19
   go_wp2
   refine wp_region_held_drew (S := fun W => RowAt W gr RRDf (rqL a n c at_ true)) (by kernel_rfl) HRq.out (fun hHeld => ?_)
   refine tk 0 (mo 7 (.move (.tmp 0))) (.pointer (some ⟨gr, 0, none⟩)) rfl ?_
   refine tk 1 (mo 8 (.nilCheck (.tmp 7))) (.pointer (some ⟨gr, 0, none⟩)) rfl ?_
   refine tk 2 (mo 9 (.fieldAddr 61 (.tmp 8) 0)) (.pointer (some ⟨gr, 0, none⟩)) rfl ?_
   refine tk 3 (mo 10 (.load 28 (.tmp 9))) (.slice a n c) rfl ?_ (Or.inl ⟨by rfl, fun W hW => by have hcell := hW.cell 0 rfl; go_simp⟩)
   refine tk 4 (mo 11 (.move (.tmp 0))) (.pointer (some ⟨gr, 0, none⟩)) rfl ?_
   refine tk 5 (mo 12 (.nilCheck (.tmp 11))) (.pointer (some ⟨gr, 0, none⟩)) rfl ?_
   refine tk 6 (mo 13 (.fieldAddr 61 (.tmp 12) 1)) (.pointer (some ⟨gr, 1, none⟩)) rfl ?_
   refine tk 7 (mo 14 (.load 3 (.tmp 13))) (.int .i64 (at_ : Nat)) rfl ?_ (Or.inl ⟨by rfl, fun W hW => by have hcell := (hW.cell 1 rfl : W.cell? ⟨gr, 1, none⟩ = some (.int .i64 (at_ : Int))); go_simp⟩)
   refine rdH [8] ?_
   refine AllReadyH.cons (o := ⟨some 15, .call { callee := .value (.func 48), args := #[(.tmp 10), (.tmp 14), (.const (.int .i64 256))], argTypes := #[28, 3, 3] }, _, _, _, _⟩) rfl (fun K hK => ?_) AllReadyH.nil
   go_simp
   refine (refGetText_any a n c B at_ 256 _ HSR.out).mono ?_
   rintro e wt ⟨he2, rfl⟩
   rw [HT.out] at he2
   subst he2
   refine hK.out _ _ HRq.out (fun hHeld => ?_)
   clear hK K
   refine tk 9 (mo 6 (.move (.tmp 15))) (.tuple #[(.string (strB tl)), (.int .i64 (tu : Nat)), (.int .i64 (te : Nat))]) rfl ?_
   refine tk 10 (mo 16 (.extract (.tmp 6) 0)) (.string (strB tl)) rfl ?_
   refine tk 11 (mo 17 (.extract (.tmp 6) 1)) (.int .i64 (tu : Nat)) rfl ?_
   refine tk 12 (mo 18 (.extract (.tmp 6) 2)) (.int .i64 (te : Nat)) rfl ?_
   refine tk 13 (mo 3 (.assign (.tmp 16))) (.string (strB tl)) rfl ?_
   refine tk 14 (mo 4 (.assign (.tmp 17))) (.int .i64 (tu : Nat)) rfl ?_
   refine tk 15 (mo 5 (.assign (.tmp 18))) (.int .i64 (te : Nat)) rfl ?_
   refine wpAnyH_done (by kernel_rfl) ?_ _
   have c2 := HRq.out.cell 2 rfl
   have f2 := HRq.out.free 2
   have f1 := HRq.out.free 1
   have c1 : w.drew.cell? ⟨gr, 1, none⟩ = some (.int .i64 (at_ : Int)) := HRq.out.cell 1 rfl
   go_wp2
   go_ret
   rw [HP.out]
   exact ⟨_, rfl, rfl, at_, HD.out.setB (HD.out.row.set 2 _) (grown_set w.drew gr 2 _), HGD.out.trans (grown_set w.drew gr 2 _)⟩
end Go.Proofs.YthihmlojdopmfaaDoor
