/-
 The walks of refs' strict reader: must, step, byte, text, id: what is read, or a panic.
-/
import Derived.Test.YthihmlojdopmfaaDoorGrp15
import Derived.Test.YthihmlojdopmfaaDoorGrp1
import Derived.Test.YthihmlojdopmfaaDoorGetId
import Derived.Test.YthihmlojdopmfaaDoorGrp8
import Derived.WalkLawsBesides
namespace Go.Proofs.YthihmlojdopmfaaDoor
open Go.RowKit

abbrev RDf : TypeId := 88
def rdL (a : Option Addr) (n c at_ : Nat) : List Value := [.slice a n c, .int .i64 (at_ : Int)]
abbrev gaveUp : List PanicEntry := [{ v := .iface 30 (.int .i64 6), recovered := false }]
structure Rdr (w0 w : World) (gr : Nat) (a : Option Addr) (n c : Nat) (B : List UInt8) (at_ : Nat) : Prop where
 row : RowAt w gr RDf (rdL a n c at_)
 src : Bytes w0 a n c B
 low : w0.heap.size ≤ gr
 bel : Below w0.heap.size w0 w
section
variable {w0 w w1 : World} {gr n c at_ u : Nat} {a : Option Addr} {B : List UInt8}
theorem Rdr.bytes (h : Rdr w0 w gr a n c B at_) : Bytes w a n c B := h.src.below h.bel
theorem Rdr.lt (h : Rdr w0 w gr a n c B at_) : gr < w.heap.size := h.row.lt
theorem Rdr.below (h : Rdr w0 w gr a n c B at_) (hb : Below w.heap.size w w1) : Rdr w0 w1 gr a n c B at_ := ⟨h.row.below hb, h.src, h.low, h.bel.trans (hb.mono h.bel.size)⟩
theorem Rdr.drew (h : Rdr w0 w gr a n c B at_) : Rdr w0 w.drew gr a n c B at_ := h.below (Below.refl _ _).drew
theorem Rdr.set (h : Rdr w0 w gr a n c B at_) (hr : RowAt w1 gr RDf (rdL a n c u)) (hg : w.grownBy w1 (some gr)) : Rdr w0 w1 gr a n c B u := ⟨hr, h.src, h.low, h.bel.grown hg h.bel.size (fun k hk => by cases hk; exact h.low)⟩
theorem Rdr.other {k : Nat} (h : Rdr w0 w gr a n c B at_) (hg : w.grownBy w1 (some k)) (hk : gr < k) : Rdr w0 w1 gr a n c B at_ := ⟨h.row.grown hg (fun e => by cases e; exact Nat.lt_irrefl _ hk), h.src, h.low, h.bel.grown hg h.bel.size (fun j hj => by cases hj; have := h.low; omega)⟩
theorem Rdr.own {row : Option Nat} (h : Rdr w0 w gr a n c B at_) (hg : w.grownBy w1 row) (hne : some gr ≠ row) (hlt : ∀ k, row = some k → gr ≤ k) : Rdr w0 w1 gr a n c B at_ := ⟨h.row.grown hg hne, h.src, h.low, h.bel.grown hg h.bel.size (fun j hj => by have := hlt j hj; have := h.low; omega)⟩
end
theorem grown_refl (w : World) (row : Option Nat) : w.grownBy w row := ⟨rfl, rfl, rfl, Nat.le_refl _, fun _ _ _ => rfl⟩
theorem grown_set (w : World) (g o : Nat) (v : Value) : w.grownBy (w.setCell ⟨g, o, none⟩ v) (some g) := ⟨rfl, rfl, rfl, by simp, fun k _ hne => Below.heap_setCell _ _ _ _ (by show k ≠ g; intro e; exact hne (congrArg some e))⟩
theorem grown_bel {w w1 : World} (h : Below w.heap.size w w1) (row : Option Nat) : w.grownBy w1 row := ⟨h.os, h.tape, h.output, h.size, fun k hk _ => h.block k hk⟩
theorem IdAt.ne_grown {w w' : World} {g k : Nat} {l : List UInt8} (h : IdAt w g l) (hg : w.grownBy w' (some k)) (hne : g ≠ k) : IdAt w' g l := ⟨h.1, (show RowAt w g 24 (l.map B) from h.2).grown hg (fun e => by cases e; exact hne rfl)⟩
theorem wp_alloc_id {w : World} {o : Oper} {a : Act} {K : Act → World → Prop} {Q : Exit → Act → World → Prop} (ho : o.op = .alloc 24)
  (h : ∀ w1, IdAt w1 w.heap.size idZero → Below w.heap.size w w1 → K (a.put o.dst (.pointer (some ⟨w.heap.size, 0, none⟩))) w1) : o.wp Tryd.prog a w K Q := by
 have hr : (execOp a.eval o).run Tryd.prog w = .ok (.value (.pointer (some ⟨w.heap.size, 0, none⟩))) (w.alloc (.cells (idCells idZero) 24)) := by
  unfold execOp
  simp only [ho, Sem.run_bind, run_alloc_id, Result.andThen_ok, Sem.run_pure]
 unfold Oper.wp
 rw [hr]
 exact h _ ⟨idZero_length, heap_alloc_new w _⟩ ((Below.refl _ _).alloc (Nat.le_refl _) _)
theorem results_idr {fn : Func} {p : Tmp} (h : fn.results = #[.cell p 24]) (tmps : Array Value) (w : World) (g : Nat) (l : List UInt8)
  (hp : tmps.getD p undef = .pointer (some ⟨g, 0, none⟩)) (hg : IdAt w g l) : (results fn tmps).run Tryd.prog w = .ok (.agg (idCells l)) w := by
 have hp' : tmps[p]?.getD undef = .pointer (some ⟨g, 0, none⟩) := by simpa using hp
 simp [results, h, hp', asAddr, run_load_id hg]
theorem wp_store_id {w : World} {o : Oper} {a : Act} {K : Act → World → Prop} {Q : Exit → Act → World → Prop} (x y : Operand) (ho : o.op = .store 24 x y)
  (g : Nat) (l m : List UInt8) (hx : a.eval x = .pointer (some ⟨g, 0, none⟩)) (hy : a.eval y = .agg (idCells m)) (hg : IdAt w g l) (hm : m.length = 32)
  (h : ∀ w1, IdAt w1 g m → w.grownBy w1 (some g) → K (a.put o.dst undef) w1) : o.wp Tryd.prog a w K Q := by
 have hs := run_storeVar_row (P := Tryd.prog) w g 24 24 (idCells l) (idCells m) hg.2 (by rw [idCells_size hm]; exact info_id) (by rw [idCells_size hm, idCells_size hg.1])
  (by unfold idCells; exact all_oneCell_toArray (fun v hv => by obtain ⟨x, _, rfl⟩ := List.mem_map.1 hv; rfl))
 have hr : (execOp a.eval o).run Tryd.prog w = .ok .skip (w.setRow g (idCells m)) := by
  unfold execOp
  simp only [ho, hx, hy, Instr.storeAt, Instr.sureAddr, Sem.run_bind, Sem.run_pure, Result.andThen_ok, hs]
 unfold Oper.wp
 rw [hr]
 exact h _ ⟨hm, setRow_heap w g (idCells l) (idCells m) 24 (0, 0) hg.2⟩ ⟨rfl, rfl, rfl, by simp, fun k _ hk => setRow_other w g k _ (fun e => hk (by simp [e]))⟩
def RdIs {α : Type} (V : α → Value → World → Prop) (P : Option (α × Nat)) (w0 w : World) (gr : Nat) (a : Option Addr) (n c : Nat) (B : List UInt8) (e : Ending) (w' : World) : Prop :=
 match P with
 | some (x, u) => ∃ v, e = .returned v ∧ V x v w' ∧ Rdr w0 w' gr a n c B u ∧ w.grownBy w' (some gr)
 | none => e = .panicked gaveUp ∧ w.grownBy w' (some gr)
def VS (s : List UInt8) (v : Value) (_ : World) : Prop := v = .string (strB s)
def VI (s : List UInt8) (v : Value) (_ : World) : Prop := v = .agg (idCells s) ∧ s.length = 32
def VB (b : UInt8) (v : Value) (_ : World) : Prop := v = B b

theorem must_yes (p : Value) (w : World) : Calls Tryd.prog 47 #[p, .bool true] w fun e w' => e = .returned (.tuple #[]) ∧ w = w' := by
 go_enter Tryd.func47, Tryd.ntmps47
 go_wp2
 exact bodyPost_end (results_none rfl _ _ _) rfl ⟨rfl, rfl⟩
theorem must_no (p : Value) (w : World) : Calls Tryd.prog 47 #[p, .bool false] w fun e w' => e = .panicked gaveUp ∧ w = w' := by
 go_enter Tryd.func47, Tryd.ntmps47
 go_wp2
 exact ⟨rfl, rfl, rfl⟩
set_option maxRecDepth 100000 in
theorem step_yes {w0 w : World} {gr n c at_ : Nat} {a : Option Addr} {B : List UInt8} (h : Rdr w0 w gr a n c B at_) (u : Nat) :
  Calls Tryd.prog 66 #[.pointer (some ⟨gr, 0, none⟩), .int .i64 u, .int .i64 0] w fun e w' => e = .returned (.tuple #[]) ∧ Rdr w0 w' gr a n c B u ∧ w.grownBy w' (some gr) := by
 have HD := Lib.hid h
 have c1 : w.cell? ⟨gr, 1, none⟩ = some (.int .i64 (at_ : Int)) := h.row.cell 1 rfl
 have f1 : w.frozen? ⟨gr, 1, none⟩ = false := h.row.free 1
 clear h
 go_enter Tryd.func66, Tryd.ntmps66
 go_wp2_with (go_at_call 47; go_must (refine (must_yes _ _).mono ?_); rintro e w1 ⟨rfl, rfl⟩)
 exact bodyPost_end (results_none rfl _ _ _) rfl ⟨rfl, HD.out.set (HD.out.row.set 1 _) (grown_set w gr 1 _), grown_set w gr 1 _⟩
theorem step_no {p q : Value} (w : World) (k : Nat) (hk : k ≠ 0) :
  Calls Tryd.prog 66 #[p, q, .int .i64 k] w fun e w' => e = .panicked gaveUp ∧ w = w' := by
 have hkI : ((k : Int) == 0) = false := by rw [beq_eq_false_iff_ne]; omega
 go_enter Tryd.func66, Tryd.ntmps66
 go_wp2_with (go_at_call 47; go_must (refine (must_no _ _).mono ?_); rintro e w1 ⟨rfl, rfl⟩)
 exact ⟨rfl, rfl, rfl⟩
theorem pT_yes {B : List UInt8} {at_ most : Nat} {s : List UInt8} {u : Nat} (h : getT B at_ most = (s, u, 0)) : pT B at_ most = some (s, u) := by unfold pT; rw [h]; rfl
theorem pT_no {B : List UInt8} {at_ most : Nat} {s : List UInt8} {u e : Nat} (h : getT B at_ most = (s, u, e)) (he : e ≠ 0) : pT B at_ most = none := by
 unfold pT; rw [h]
 cases e with
 | zero => exact absurd rfl he
 | succ e => rfl
theorem pD_yes {B : List UInt8} {at_ : Nat} {s : List UInt8} {u : Nat} (h : getD_ B at_ = (s, u, 0)) : pD B at_ = some (s, u) := by unfold pD; rw [h]; rfl
theorem pD_no {B : List UInt8} {at_ : Nat} {s : List UInt8} {u e : Nat} (h : getD_ B at_ = (s, u, e)) (he : e ≠ 0) : pD B at_ = none := by
 unfold pD; rw [h]
 cases e with
 | zero => exact absurd rfl he
 | succ e => rfl

set_option maxRecDepth 100000 in
set_option maxHeartbeats 2000000 in
theorem rtext_any {w0 w : World} {gr n c at_ : Nat} {a : Option Addr} {B : List UInt8} (h : Rdr w0 w gr a n c B at_) (most : Nat) :
  Calls Tryd.prog 43 #[.pointer (some ⟨gr, 0, none⟩), .int .i64 most] w (RdIs VS (pT B at_ most) w0 w gr a n c B) := by
 obtain ⟨tl, tu, te, hT⟩ : ∃ tl tu te, getT B at_ most = (tl, tu, te) := ⟨_, _, _, rfl⟩
 have HT := Lib.hid hT
 have HD := Lib.hid h.drew
 have HR : Hid (RowAt w.drew gr RDf (rdL a n c at_)) := Lib.hid h.row
 have HSR := Lib.hid h.drew.bytes
 have HGD := Lib.hid (grown_bel (Below.refl w.heap.size w).drew (some gr))
 by_cases he : te = 0
 ·subst he
  have HP := Lib.hid (pT_yes hT)
  clear h hT
  go_enter Tryd.func43, Tryd.ntmps43
  go_wp2
  refine wp_region_held_drew (S := fun W => RowAt W gr RDf (rdL a n c at_)) (by kernel_rfl) HR.out (fun hHeld => ?_)
  refine tk 0 (mo 9 (.move (.tmp 0))) (.pointer (some ⟨gr, 0, none⟩)) rfl ?_
  refine tk 1 (mo 10 (.nilCheck (.tmp 9))) (.pointer (some ⟨gr, 0, none⟩)) rfl ?_
  refine tk 2 (mo 11 (.fieldAddr 88 (.tmp 10) 0)) (.pointer (some ⟨gr, 0, none⟩)) rfl ?_
  refine tk 3 (mo 12 (.load 28 (.tmp 11))) (.slice a n c) rfl ?_ (Or.inl ⟨by rfl, fun W hW => by have hcell := hW.cell 0 rfl; go_simp⟩)
  refine tk 4 (mo 13 (.move (.tmp 0))) (.pointer (some ⟨gr, 0, none⟩)) rfl ?_
  refine tk 5 (mo 14 (.nilCheck (.tmp 13))) (.pointer (some ⟨gr, 0, none⟩)) rfl ?_
  refine tk 6 (mo 15 (.fieldAddr 88 (.tmp 14) 1)) (.pointer (some ⟨gr, 1, none⟩)) rfl ?_
  refine tk 7 (mo 16 (.load 3 (.tmp 15))) (.int .i64 (at_ : Nat)) rfl ?_ (Or.inl ⟨by rfl, fun W hW => by have hcell := (hW.cell 1 rfl : W.cell? ⟨gr, 1, none⟩ = some (.int .i64 (at_ : Int))); go_simp⟩)
  refine tk 8 (mo 17 (.move (.tmp 1))) (.int .i64 (most : Nat)) rfl ?_
  refine rdH [9] ?_
  refine AllReadyH.cons (o := ⟨some 18, .call { callee := .value (.func 65), args := #[(.tmp 12), (.tmp 16), (.tmp 17)], argTypes := #[28, 3, 3] }, _, _, _, _⟩) rfl (fun K hK => ?_) AllReadyH.nil
  go_simp
  refine (getText_any a n c B at_ most _ HSR.out).mono ?_
  rintro e wt ⟨he2, rfl⟩
  rw [HT.out] at he2
  subst he2
  refine hK.out _ _ HR.out (fun hHeld => ?_)
  clear hK K
  refine tk 10 (mo 8 (.move (.tmp 18))) (.tuple #[(.string (strB tl)), (.int .i64 (tu : Nat)), (.int .i64 (0 : Nat))]) rfl ?_
  refine tk 11 (mo 19 (.extract (.tmp 8) 0)) (.string (strB tl)) rfl ?_
  refine tk 12 (mo 20 (.extract (.tmp 8) 1)) (.int .i64 (tu : Nat)) rfl ?_
  refine tk 13 (mo 21 (.extract (.tmp 8) 2)) (.int .i64 (0 : Nat)) rfl ?_
  refine tk 14 (mo 5 (.assign (.tmp 19))) (.string (strB tl)) rfl ?_
  refine tk 15 (mo 6 (.assign (.tmp 20))) (.int .i64 (tu : Nat)) rfl ?_
  refine tk 16 (mo 7 (.assign (.tmp 21))) (.int .i64 (0 : Nat)) rfl ?_
  refine wpAnyH_done (by kernel_rfl) ?_ _
  go_wp2_with (go_at_call 66; go_must (refine (step_yes HD.out tu).mono ?_); rintro e w2 ⟨rfl, hr, hg⟩; have HRD := Lib.hid hr; have HG := Lib.hid (HGD.out.trans hg); clear hr hg)
  go_ret
  rw [HP.out]
  exact ⟨_, rfl, rfl, HRD.out, HG.out⟩
 ·have HP := Lib.hid (pT_no hT he)
  have HE := Lib.hid he
  clear h hT he
  go_enter Tryd.func43, Tryd.ntmps43
  go_wp2
  refine wp_region_held_drew (S := fun W => RowAt W gr RDf (rdL a n c at_)) (by kernel_rfl) HR.out (fun hHeld => ?_)
  refine tk 0 (mo 9 (.move (.tmp 0))) (.pointer (some ⟨gr, 0, none⟩)) rfl ?_
  refine tk 1 (mo 10 (.nilCheck (.tmp 9))) (.pointer (some ⟨gr, 0, none⟩)) rfl ?_
  refine tk 2 (mo 11 (.fieldAddr 88 (.tmp 10) 0)) (.pointer (some ⟨gr, 0, none⟩)) rfl ?_
  refine tk 3 (mo 12 (.load 28 (.tmp 11))) (.slice a n c) rfl ?_ (Or.inl ⟨by rfl, fun W hW => by have hcell := hW.cell 0 rfl; go_simp⟩)
  refine tk 4 (mo 13 (.move (.tmp 0))) (.pointer (some ⟨gr, 0, none⟩)) rfl ?_
  refine tk 5 (mo 14 (.nilCheck (.tmp 13))) (.pointer (some ⟨gr, 0, none⟩)) rfl ?_
  refine tk 6 (mo 15 (.fieldAddr 88 (.tmp 14) 1)) (.pointer (some ⟨gr, 1, none⟩)) rfl ?_
  refine tk 7 (mo 16 (.load 3 (.tmp 15))) (.int .i64 (at_ : Nat)) rfl ?_ (Or.inl ⟨by rfl, fun W hW => by have hcell := (hW.cell 1 rfl : W.cell? ⟨gr, 1, none⟩ = some (.int .i64 (at_ : Int))); go_simp⟩)
  refine tk 8 (mo 17 (.move (.tmp 1))) (.int .i64 (most : Nat)) rfl ?_
  refine rdH [9] ?_
  refine AllReadyH.cons (o := ⟨some 18, .call { callee := .value (.func 65), args := #[(.tmp 12), (.tmp 16), (.tmp 17)], argTypes := #[28, 3, 3] }, _, _, _, _⟩) rfl (fun K hK => ?_) AllReadyH.nil
  go_simp
  refine (getText_any a n c B at_ most _ HSR.out).mono ?_
  rintro e wt ⟨he2, rfl⟩
  rw [HT.out] at he2
  subst he2
  refine hK.out _ _ HR.out (fun hHeld => ?_)
  clear hK K
  refine tk 10 (mo 8 (.move (.tmp 18))) (.tuple #[(.string (strB tl)), (.int .i64 (tu : Nat)), (.int .i64 (te : Nat))]) rfl ?_
  refine tk 11 (mo 19 (.extract (.tmp 8) 0)) (.string (strB tl)) rfl ?_
  refine tk 12 (mo 20 (.extract (.tmp 8) 1)) (.int .i64 (tu : Nat)) rfl ?_
  refine tk 13 (mo 21 (.extract (.tmp 8) 2)) (.int .i64 (te : Nat)) rfl ?_
  refine tk 14 (mo 5 (.assign (.tmp 19))) (.string (strB tl)) rfl ?_
  refine tk 15 (mo 6 (.assign (.tmp 20))) (.int .i64 (tu : Nat)) rfl ?_
  refine tk 16 (mo 7 (.assign (.tmp 21))) (.int .i64 (te : Nat)) rfl ?_
  refine wpAnyH_done (by kernel_rfl) ?_ _
  go_wp2_with (go_at_call 66; go_must (refine (step_no _ te HE.out).mono ?_); rintro e w2 ⟨rfl, rfl⟩)
  rw [HP.out]
  exact ⟨rfl, rfl, HGD.out⟩
set_option maxRecDepth 100000 in
set_option maxHeartbeats 2000000 in
theorem rbyte_any {w0 w : World} {gr n c at_ : Nat} {a : Option Addr} {B : List UInt8} (h : Rdr w0 w gr a n c B at_) :
  Calls Tryd.prog 69 #[.pointer (some ⟨gr, 0, none⟩)] w (RdIs VB (pB B at_) w0 w gr a n c B) := by
 have HD := Lib.hid h.drew
 have HR : Hid (RowAt w.drew gr RDf (rdL a n c at_)) := Lib.hid h.row
 have HGD := Lib.hid (grown_bel (Below.refl w.heap.size w).drew (some gr))
 have hl : B.length = n := h.src.1
 have hnM : (n : Int) ≤ 9223372036854775807 := by have := h.src.2.1; have := h.src.2.2.1; omega
 have ha0 : (0 : Int) ≤ (at_ : Int) := by omega
 by_cases hi : (at_ : Int) < (n : Int)
 ·have HP : Hid (pB B at_ = some (B.getD at_ 0, at_ + 1)) := Lib.hid (by unfold pB; rw [if_pos (by omega)])
  have hd1 : decide ((at_ : Int) < (n : Int)) = true := decide_eq_true hi
  obtain ⟨b, off, rfl⟩ : ∃ b off, a = some ⟨b, off, none⟩ := by
   rcases h.src.2.2.2 with h4 | ⟨b, off, h4, _⟩
   ·omega
   ·exact ⟨b, off, h4⟩
  have HCB : Hid (∀ W, Below w0.heap.size w0 W → W.cell? ⟨b, off + at_, none⟩ = some (.int .u8 ((B.getD at_ 0).toNat : Int))) := Lib.hid (fun W hW => (h.src.below hW).cells at_ (by omega))
  have hw1 : IntKind.i64.wrap ((at_ : Int) + 1) = (at_ : Int) + 1 := IntWalk.i64_in _ (by omega)
  have hat1 : (at_ : Int) + 1 - 1 = (at_ : Int) := by omega
  have hatW : IntKind.i64.wrap (at_ : Int) = (at_ : Int) := IntWalk.i64_in _ (by omega)
  have HD0 := Lib.hid h
  clear h hl
  go_enter Tryd.func69, Tryd.ntmps69
  go_wp2
  refine wp_region_held_drew (S := fun W => RowAt W gr RDf (rdL (some ⟨b, off, none⟩) n c at_)) (by kernel_rfl) HR.out (fun hHeld => ?_)
  refine tk 0 (mo 3 (.move (.tmp 0))) (.pointer (some ⟨gr, 0, none⟩)) rfl ?_
  refine tk 1 (mo 4 (.move (.tmp 0))) (.pointer (some ⟨gr, 0, none⟩)) rfl ?_
  refine tk 2 (mo 5 (.nilCheck (.tmp 4))) (.pointer (some ⟨gr, 0, none⟩)) rfl ?_
  refine tk 3 (mo 6 (.fieldAddr 88 (.tmp 5) 1)) (.pointer (some ⟨gr, 1, none⟩)) rfl ?_
  refine tk 4 (mo 7 (.load 3 (.tmp 6))) (.int .i64 (at_ : Nat)) rfl ?_ (Or.inl ⟨by rfl, fun W hW => by have hcell := (hW.cell 1 rfl : W.cell? ⟨gr, 1, none⟩ = some (.int .i64 (at_ : Int))); go_simp⟩)
  refine tk 5 (mo 8 (.move (.tmp 0))) (.pointer (some ⟨gr, 0, none⟩)) rfl ?_
  refine tk 6 (mo 9 (.nilCheck (.tmp 8))) (.pointer (some ⟨gr, 0, none⟩)) rfl ?_
  refine tk 7 (mo 10 (.fieldAddr 88 (.tmp 9) 0)) (.pointer (some ⟨gr, 0, none⟩)) rfl ?_
  refine tk 8 (mo 11 (.load 28 (.tmp 10))) (.slice (some ⟨b, off, none⟩) n c) rfl ?_ (Or.inl ⟨by rfl, fun W hW => by have hcell := hW.cell 0 rfl; go_simp⟩)
  refine tk 9 (mo 12 (.call { callee := .builtin .len, args := #[(.tmp 11)], argTypes := #[28] })) (.int .i64 (n : Nat)) rfl ?_
  refine tk 10 (mo 13 (.binOp .lss 3 (.tmp 7) (.tmp 12) 3)) (.bool true) rfl ?_
  refine rdH [11] ?_
  refine AllReadyH.cons (o := ⟨some 14, .call { callee := .value (.func 47), args := #[(.tmp 3), (.tmp 13)], argTypes := #[86, 4] }, _, _, _, _⟩) rfl (fun K hK => ?_) AllReadyH.nil
  go_simp
  refine (must_yes _ _).mono ?_
  rintro e w2 ⟨rfl, rfl⟩
  refine hK.out _ _ HR.out (fun hHeld => ?_)
  clear hK K
  refine wpAnyH_done (by kernel_rfl) ?_ _
  have c1 : w.cell? ⟨gr, 1, none⟩ = some (.int .i64 (at_ : Int)) := HR.out.cell 1 rfl
  have f1 : w.frozen? ⟨gr, 1, none⟩ = false := HR.out.free 1
  go_wp2_with fail
  have hgs := grown_set w gr 1 (.int .i64 ((at_ : Int) + 1))
  have HRS : Hid (Rdr w0 (w.setCell ⟨gr, 1, none⟩ (.int .i64 ((at_ : Int) + 1))) gr (some ⟨b, off, none⟩) n c B (at_ + 1)) := Lib.hid (HD0.out.set (HD0.out.row.set 1 _) hgs)
  have HG := Lib.hid hgs
  clear hgs c1 f1
  generalize w.setCell ⟨gr, 1, none⟩ (.int .i64 ((at_ : Int) + 1)) = w3 at HRS HG ⊢
  have HR3 : Hid (RowAt w3.drew.drew gr RDf (rdL (some ⟨b, off, none⟩) n c (at_ + 1))) := Lib.hid HRS.out.row
  have HB3 := Lib.hid HRS.out.drew.drew.bel
  refine wp_region_held_drew (S := fun W => RowAt W gr RDf (rdL (some ⟨b, off, none⟩) n c (at_ + 1)) ∧ Below w0.heap.size w0 W) (by kernel_rfl) ⟨HR3.out, HB3.out⟩ (fun hHeld => ?_)
  refine tk 0 (mo 22 (.move (.tmp 0))) (.pointer (some ⟨gr, 0, none⟩)) rfl ?_
  refine tk 1 (mo 23 (.nilCheck (.tmp 22))) (.pointer (some ⟨gr, 0, none⟩)) rfl ?_
  refine tk 2 (mo 24 (.fieldAddr 88 (.tmp 23) 0)) (.pointer (some ⟨gr, 0, none⟩)) rfl ?_
  refine tk 3 (mo 25 (.load 28 (.tmp 24))) (.slice (some ⟨b, off, none⟩) n c) rfl ?_ (Or.inl ⟨by rfl, fun W hW => by have hcell := hW.1.cell 0 rfl; go_simp⟩)
  refine tk 4 (mo 26 (.move (.tmp 0))) (.pointer (some ⟨gr, 0, none⟩)) rfl ?_
  refine tk 5 (mo 27 (.nilCheck (.tmp 26))) (.pointer (some ⟨gr, 0, none⟩)) rfl ?_
  refine tk 6 (mo 28 (.fieldAddr 88 (.tmp 27) 1)) (.pointer (some ⟨gr, 1, none⟩)) rfl ?_
  refine tk 7 (mo 29 (.load 3 (.tmp 28))) (.int .i64 ((at_ : Int) + 1)) rfl ?_ (Or.inl ⟨by rfl, fun W hW => by have hcell := (hW.1.cell 1 rfl : W.cell? ⟨gr, 1, none⟩ = some (.int .i64 (((at_ + 1 : Nat) : Int)))); go_simp⟩)
  refine tk 8 (mo 30 (.binOp .sub 3 (.tmp 29) (.const (.int .i64 1)) 3)) (.int .i64 (at_ : Nat)) rfl ?_
  refine tk 9 (mo 31 (.indexAddr 28 (.tmp 25) (.tmp 30))) (.pointer (some ⟨b, off + at_, none⟩)) rfl ?_
  refine tk 10 (mo 32 (.load 5 (.tmp 31))) (.int .u8 ((B.getD at_ 0).toNat : Int)) rfl ?_ (Or.inl ⟨by rfl, fun W hW => by have hcell := HCB.out W hW.2; go_simp⟩)
  refine tk 11 (mo 2 (.assign (.tmp 32))) (.int .u8 ((B.getD at_ 0).toNat : Int)) rfl ?_
  refine wpAnyH_done (by kernel_rfl) ?_ _
  go_wp2_with fail
  go_ret
  rw [HP.out]
  exact ⟨_, rfl, rfl, HRS.out.drew.drew, HG.out.trans (grown_bel (Below.refl w3.heap.size w3).drew.drew (some gr))⟩
 ·have HP : Hid (pB B at_ = none) := Lib.hid (by unfold pB; rw [if_neg (by omega)])
  have hd1 : decide ((at_ : Int) < (n : Int)) = false := decide_eq_false hi
  have hni : n ≤ at_ := by omega
  clear h hl
  go_enter Tryd.func69, Tryd.ntmps69
  go_wp2
  refine wp_region_held_drew (S := fun W => RowAt W gr RDf (rdL a n c at_)) (by kernel_rfl) HR.out (fun hHeld => ?_)
  refine tk 0 (mo 3 (.move (.tmp 0))) (.pointer (some ⟨gr, 0, none⟩)) rfl ?_
  refine tk 1 (mo 4 (.move (.tmp 0))) (.pointer (some ⟨gr, 0, none⟩)) rfl ?_
  refine tk 2 (mo 5 (.nilCheck (.tmp 4))) (.pointer (some ⟨gr, 0, none⟩)) rfl ?_
  refine tk 3 (mo 6 (.fieldAddr 88 (.tmp 5) 1)) (.pointer (some ⟨gr, 1, none⟩)) rfl ?_
  refine tk 4 (mo 7 (.load 3 (.tmp 6))) (.int .i64 (at_ : Nat)) rfl ?_ (Or.inl ⟨by rfl, fun W hW => by have hcell := (hW.cell 1 rfl : W.cell? ⟨gr, 1, none⟩ = some (.int .i64 (at_ : Int))); go_simp⟩)
  refine tk 5 (mo 8 (.move (.tmp 0))) (.pointer (some ⟨gr, 0, none⟩)) rfl ?_
  refine tk 6 (mo 9 (.nilCheck (.tmp 8))) (.pointer (some ⟨gr, 0, none⟩)) rfl ?_
  refine tk 7 (mo 10 (.fieldAddr 88 (.tmp 9) 0)) (.pointer (some ⟨gr, 0, none⟩)) rfl ?_
  refine tk 8 (mo 11 (.load 28 (.tmp 10))) (.slice a n c) rfl ?_ (Or.inl ⟨by rfl, fun W hW => by have hcell := hW.cell 0 rfl; go_simp⟩)
  refine tk 9 (mo 12 (.call { callee := .builtin .len, args := #[(.tmp 11)], argTypes := #[28] })) (.int .i64 (n : Nat)) rfl ?_
  refine tk 10 (mo 13 (.binOp .lss 3 (.tmp 7) (.tmp 12) 3)) (.bool false) rfl ?_
  refine rdH [11] ?_
  refine AllReadyH.cons (o := ⟨some 14, .call { callee := .value (.func 47), args := #[(.tmp 3), (.tmp 13)], argTypes := #[86, 4] }, _, _, _, _⟩) rfl (fun K hK => ?_) AllReadyH.nil
  go_simp
  refine (must_no _ _).mono ?_
  rintro e w2 ⟨rfl, rfl⟩
  rw [HP.out]
  exact ⟨rfl, rfl, HGD.out⟩
set_option maxRecDepth 100000 in
set_option maxHeartbeats 4000000 in
theorem rid_any {w0 w : World} {gr n c at_ : Nat} {a : Option Addr} {B : List UInt8} (h : Rdr w0 w gr a n c B at_) :
  Calls Tryd.prog 44 #[.pointer (some ⟨gr, 0, none⟩)] w (RdIs VI (pD B at_) w0 w gr a n c B) := by
 obtain ⟨tl, tu, te, hT⟩ : ∃ tl tu te, getD_ B at_ = (tl, tu, te) := ⟨_, _, _, rfl⟩
 have HTL : Hid (tl.length = 32) := Lib.hid (by have := getD_length B at_; rw [hT] at this; exact this)
 have HT := Lib.hid hT
 have HH := Lib.hid h
 by_cases he : te = 0
 ·subst he
  have HP := Lib.hid (pD_yes hT)
  clear h hT
  go_enter Tryd.func44, Tryd.ntmps44
  go_wp2_with ((with_reducible refine atS 2 ?_); go_must (refine alloc_id rfl rfl ?_); intro w1 hi hb hs; have HI1 := Lib.hid hi; have HR1 := Lib.hid (HH.out.below hb); have HG1 := Lib.hid (grown_bel hb (some gr)); have HGL : Hid (gr < w.heap.size) := Lib.hid HH.out.lt; have HGLW : Hid (w.heap.size ≤ w.heap.size) := Lib.hid (Nat.le_refl _); clear hb hs; generalize hG2 : w.heap.size = g2 at hi HI1 HGL ⊢; have HGLW : Hid (w.heap.size ≤ g2) := Lib.hid (Nat.le_of_eq hG2); clear hG2; clear hi)
  have HRa := Lib.hid HR1.out.drew
  have HGa := Lib.hid (HG1.out.trans (grown_bel (Below.refl w1.heap.size w1).drew (some gr)))
  have HIa : Hid (IdAt w1.drew g2 idZero) := Lib.hid HI1.out
  refine wp_region_held_drew (S := fun W => RowAt W gr RDf (rdL a n c at_)) (by kernel_rfl) HRa.out.row (fun hHeld => ?_)
  generalize w1.drew = wa at HRa HGa HIa hHeld ⊢
  refine tk 0 (mo 7 (.move (.tmp 0))) (.pointer (some ⟨gr, 0, none⟩)) rfl ?_
  refine tk 1 (mo 8 (.nilCheck (.tmp 7))) (.pointer (some ⟨gr, 0, none⟩)) rfl ?_
  refine tk 2 (mo 9 (.fieldAddr 88 (.tmp 8) 0)) (.pointer (some ⟨gr, 0, none⟩)) rfl ?_
  refine tk 3 (mo 10 (.load 28 (.tmp 9))) (.slice a n c) rfl ?_ (Or.inl ⟨by rfl, fun W hW => by have hcell := hW.cell 0 rfl; go_simp⟩)
  refine tk 4 (mo 11 (.move (.tmp 0))) (.pointer (some ⟨gr, 0, none⟩)) rfl ?_
  refine tk 5 (mo 12 (.nilCheck (.tmp 11))) (.pointer (some ⟨gr, 0, none⟩)) rfl ?_
  refine tk 6 (mo 13 (.fieldAddr 88 (.tmp 12) 1)) (.pointer (some ⟨gr, 1, none⟩)) rfl ?_
  refine tk 7 (mo 14 (.load 3 (.tmp 13))) (.int .i64 (at_ : Nat)) rfl ?_ (Or.inl ⟨by rfl, fun W hW => by have hcell := (hW.cell 1 rfl : W.cell? ⟨gr, 1, none⟩ = some (.int .i64 (at_ : Int))); go_simp⟩)
  refine rdH [8, 13] ?_
  refine AllReadyH.cons (o := ⟨some 15, .call { callee := .value (.func 67), args := #[(.tmp 10), (.tmp 14)], argTypes := #[28, 3] }, _, _, _, _⟩) rfl (fun K hK => ?_) (AllReadyH.cons (o := ⟨some 3, .alloc 24, _, _, _, _⟩) rfl (fun K hK => ?_) AllReadyH.nil)
  ·go_simp
   refine (getId_any a n c B at_ _ HRa.out.bytes).mono ?_
   rintro e wb ⟨he2, hb⟩
   rw [HT.out] at he2
   subst he2
   have HRb := Lib.hid (HRa.out.below hb)
   have HGb := Lib.hid (HGa.out.trans (grown_bel hb (some gr)))
   have HIb := Lib.hid (HIa.out.below hb)
   clear hb
   refine hK.out _ _ HRb.out.row (fun hHeld => ?_)
   clear hK K
   refine tk 9 (mo 6 (.move (.tmp 15))) (.tuple #[(.agg (idCells tl)), (.int .i64 (tu : Nat)), (.int .i64 (0 : Nat))]) rfl ?_
   refine tk 10 (mo 16 (.extract (.tmp 6) 0)) (.agg (idCells tl)) rfl ?_
   refine tk 11 (mo 17 (.extract (.tmp 6) 1)) (.int .i64 (tu : Nat)) rfl ?_
   refine tk 12 (mo 18 (.extract (.tmp 6) 2)) (.int .i64 (0 : Nat)) rfl ?_
   refine rdH [13] ?_
   refine AllReadyH.cons (o := ⟨some 3, .alloc 24, _, _, _, _⟩) rfl (fun K hK => ?_) AllReadyH.nil
   refine ready_step (wp_alloc_id rfl ?_)
   intro wc hi hb
   have HYc := Lib.hid hi
   have HL3 := Lib.hid (show gr < wb.heap.size ∧ g2 < wb.heap.size from ⟨HRb.out.lt, HIb.out.lt⟩)
   have HRc := Lib.hid (HRb.out.below hb)
   have HGc := Lib.hid (HGb.out.trans (grown_bel hb (some gr)))
   have HIc := Lib.hid (HIb.out.below hb)
   clear hb
   have HL3W := Lib.hid (show w.heap.size ≤ wb.heap.size from HGb.out.size)
   generalize wb.heap.size = g3 at hi HYc HL3 HL3W ⊢
   clear hi
   refine hK.out _ _ HRc.out.row (fun hHeld => ?_)
   clear hK K
   refine rdH [14] ?_
   refine AllReadyH.cons (o := ⟨none, .store 24 (.tmp 3) (.tmp 16), _, _, _, _⟩) rfl (fun K hK => ?_) AllReadyH.nil
   refine ready_step (wp_store_id _ _ rfl g3 idZero tl rfl rfl HYc.out HTL.out ?_)
   intro wd hi hg
   have HYd := Lib.hid hi
   have HRd := Lib.hid (HRc.out.other hg HL3.out.1)
   have HGd := Lib.hid (HGc.out.andThen hg (fun j hj => by cases hj; exact .inl HL3W.out))
   have HId := Lib.hid (HIc.out.ne_grown hg (Nat.ne_of_lt HL3.out.2))
   clear hi hg
   refine hK.out _ _ HRd.out.row (fun hHeld => ?_)
   clear hK K
   refine tk 15 (mo 4 (.assign (.tmp 17))) (.int .i64 (tu : Nat)) rfl ?_
   refine tk 16 (mo 5 (.assign (.tmp 18))) (.int .i64 (0 : Nat)) rfl ?_
   refine wpAnyH_done (by kernel_rfl) ?_ _
   go_wp2_with (first
    | (go_at_call 66; go_must (refine (step_yes HRd.out tu).mono ?_); rintro e wy ⟨rfl, hr, hg⟩; have HRy := Lib.hid hr; have HGy := Lib.hid (HGd.out.trans hg); have HIy := Lib.hid (HId.out.ne_grown hg (Nat.ne_of_gt HGL.out)); have HYy := Lib.hid (HYd.out.ne_grown hg (Nat.ne_of_gt HL3.out.1)); clear hr hg)
    | ((with_reducible refine atS 23 ?_); go_must (refine load_id rfl (.tmp 3) rfl g3 tl rfl HYy.out ?_))
    | ((with_reducible refine atT 2 ?_); go_must (refine store_id rfl _ _ rfl g2 idZero tl rfl rfl HIy.out HTL.out ?_); intro wz hi hg hs; have HIz := Lib.hid hi; have HRz := Lib.hid (HRy.out.other hg HGL.out); have HGz := Lib.hid (HGy.out.andThen hg (fun j hj => by cases hj; exact .inl HGLW.out)); clear hi hg hs))
   refine bodyPost_ret (results_idr rfl _ _ g2 _ rfl HIz.out) rfl ?_
   rw [HP.out]
   exact ⟨_, rfl, ⟨rfl, HTL.out⟩, HRz.out, HGz.out⟩
  ·refine ready_step (wp_alloc_id rfl ?_)
   intro wb hi hb
   have HYb := Lib.hid hi
   have HL3 := Lib.hid (show gr < wa.heap.size ∧ g2 < wa.heap.size from ⟨HRa.out.lt, HIa.out.lt⟩)
   have HRb := Lib.hid (HRa.out.below hb)
   have HGb := Lib.hid (HGa.out.trans (grown_bel hb (some gr)))
   have HIb := Lib.hid (HIa.out.below hb)
   clear hb
   have HL3W := Lib.hid (show w.heap.size ≤ wa.heap.size from HGa.out.size)
   generalize wa.heap.size = g3 at hi HYb HL3 HL3W ⊢
   clear hi
   refine hK.out _ _ HRb.out.row (fun hHeld => ?_)
   clear hK K
   refine rdH [8] ?_
   refine AllReadyH.cons (o := ⟨some 15, .call { callee := .value (.func 67), args := #[(.tmp 10), (.tmp 14)], argTypes := #[28, 3] }, _, _, _, _⟩) rfl (fun K hK => ?_) AllReadyH.nil
   go_simp
   refine (getId_any a n c B at_ _ HRb.out.bytes).mono ?_
   rintro e wc ⟨he2, hb⟩
   rw [HT.out] at he2
   subst he2
   have HRc := Lib.hid (HRb.out.below hb)
   have HGc := Lib.hid (HGb.out.trans (grown_bel hb (some gr)))
   have HIc := Lib.hid (HIb.out.below hb)
   have HYc := Lib.hid (HYb.out.below hb)
   clear hb
   refine hK.out _ _ HRc.out.row (fun hHeld => ?_)
   clear hK K
   refine tk 9 (mo 6 (.move (.tmp 15))) (.tuple #[(.agg (idCells tl)), (.int .i64 (tu : Nat)), (.int .i64 (0 : Nat))]) rfl ?_
   refine tk 10 (mo 16 (.extract (.tmp 6) 0)) (.agg (idCells tl)) rfl ?_
   refine tk 11 (mo 17 (.extract (.tmp 6) 1)) (.int .i64 (tu : Nat)) rfl ?_
   refine tk 12 (mo 18 (.extract (.tmp 6) 2)) (.int .i64 (0 : Nat)) rfl ?_
   refine rdH [14] ?_
   refine AllReadyH.cons (o := ⟨none, .store 24 (.tmp 3) (.tmp 16), _, _, _, _⟩) rfl (fun K hK => ?_) AllReadyH.nil
   refine ready_step (wp_store_id _ _ rfl g3 idZero tl rfl rfl HYc.out HTL.out ?_)
   intro wd hi hg
   have HYd := Lib.hid hi
   have HRd := Lib.hid (HRc.out.other hg HL3.out.1)
   have HGd := Lib.hid (HGc.out.andThen hg (fun j hj => by cases hj; exact .inl HL3W.out))
   have HId := Lib.hid (HIc.out.ne_grown hg (Nat.ne_of_lt HL3.out.2))
   clear hi hg
   refine hK.out _ _ HRd.out.row (fun hHeld => ?_)
   clear hK K
   refine tk 15 (mo 4 (.assign (.tmp 17))) (.int .i64 (tu : Nat)) rfl ?_
   refine tk 16 (mo 5 (.assign (.tmp 18))) (.int .i64 (0 : Nat)) rfl ?_
   refine wpAnyH_done (by kernel_rfl) ?_ _
   go_wp2_with (first
    | (go_at_call 66; go_must (refine (step_yes HRd.out tu).mono ?_); rintro e wy ⟨rfl, hr, hg⟩; have HRy := Lib.hid hr; have HGy := Lib.hid (HGd.out.trans hg); have HIy := Lib.hid (HId.out.ne_grown hg (Nat.ne_of_gt HGL.out)); have HYy := Lib.hid (HYd.out.ne_grown hg (Nat.ne_of_gt HL3.out.1)); clear hr hg)
    | ((with_reducible refine atS 23 ?_); go_must (refine load_id rfl (.tmp 3) rfl g3 tl rfl HYy.out ?_))
    | ((with_reducible refine atT 2 ?_); go_must (refine store_id rfl _ _ rfl g2 idZero tl rfl rfl HIy.out HTL.out ?_); intro wz hi hg hs; have HIz := Lib.hid hi; have HRz := Lib.hid (HRy.out.other hg HGL.out); have HGz := Lib.hid (HGy.out.andThen hg (fun j hj => by cases hj; exact .inl HGLW.out)); clear hi hg hs))
   refine bodyPost_ret (results_idr rfl _ _ g2 _ rfl HIz.out) rfl ?_
   rw [HP.out]
   exact ⟨_, rfl, ⟨rfl, HTL.out⟩, HRz.out, HGz.out⟩
 ·have HP := Lib.hid (pD_no hT he)
  have HE := Lib.hid he
  clear h hT he
  go_enter Tryd.func44, Tryd.ntmps44
  go_wp2_with ((with_reducible refine atS 2 ?_); go_must (refine alloc_id rfl rfl ?_); intro w1 hi hb hs; have HI1 := Lib.hid hi; have HR1 := Lib.hid (HH.out.below hb); have HG1 := Lib.hid (grown_bel hb (some gr)); have HGL : Hid (gr < w.heap.size) := Lib.hid HH.out.lt; have HGLW : Hid (w.heap.size ≤ w.heap.size) := Lib.hid (Nat.le_refl _); clear hb hs; generalize hG2 : w.heap.size = g2 at hi HI1 HGL ⊢; have HGLW : Hid (w.heap.size ≤ g2) := Lib.hid (Nat.le_of_eq hG2); clear hG2; clear hi)
  have HRa := Lib.hid HR1.out.drew
  have HGa := Lib.hid (HG1.out.trans (grown_bel (Below.refl w1.heap.size w1).drew (some gr)))
  have HIa : Hid (IdAt w1.drew g2 idZero) := Lib.hid HI1.out
  refine wp_region_held_drew (S := fun W => RowAt W gr RDf (rdL a n c at_)) (by kernel_rfl) HRa.out.row (fun hHeld => ?_)
  generalize w1.drew = wa at HRa HGa HIa hHeld ⊢
  refine tk 0 (mo 7 (.move (.tmp 0))) (.pointer (some ⟨gr, 0, none⟩)) rfl ?_
  refine tk 1 (mo 8 (.nilCheck (.tmp 7))) (.pointer (some ⟨gr, 0, none⟩)) rfl ?_
  refine tk 2 (mo 9 (.fieldAddr 88 (.tmp 8) 0)) (.pointer (some ⟨gr, 0, none⟩)) rfl ?_
  refine tk 3 (mo 10 (.load 28 (.tmp 9))) (.slice a n c) rfl ?_ (Or.inl ⟨by rfl, fun W hW => by have hcell := hW.cell 0 rfl; go_simp⟩)
  refine tk 4 (mo 11 (.move (.tmp 0))) (.pointer (some ⟨gr, 0, none⟩)) rfl ?_
  refine tk 5 (mo 12 (.nilCheck (.tmp 11))) (.pointer (some ⟨gr, 0, none⟩)) rfl ?_
  refine tk 6 (mo 13 (.fieldAddr 88 (.tmp 12) 1)) (.pointer (some ⟨gr, 1, none⟩)) rfl ?_
  refine tk 7 (mo 14 (.load 3 (.tmp 13))) (.int .i64 (at_ : Nat)) rfl ?_ (Or.inl ⟨by rfl, fun W hW => by have hcell := (hW.cell 1 rfl : W.cell? ⟨gr, 1, none⟩ = some (.int .i64 (at_ : Int))); go_simp⟩)
  refine rdH [8, 13] ?_
  refine AllReadyH.cons (o := ⟨some 15, .call { callee := .value (.func 67), args := #[(.tmp 10), (.tmp 14)], argTypes := #[28, 3] }, _, _, _, _⟩) rfl (fun K hK => ?_) (AllReadyH.cons (o := ⟨some 3, .alloc 24, _, _, _, _⟩) rfl (fun K hK => ?_) AllReadyH.nil)
  ·go_simp
   refine (getId_any a n c B at_ _ HRa.out.bytes).mono ?_
   rintro e wb ⟨he2, hb⟩
   rw [HT.out] at he2
   subst he2
   have HRb := Lib.hid (HRa.out.below hb)
   have HGb := Lib.hid (HGa.out.trans (grown_bel hb (some gr)))
   have HIb := Lib.hid (HIa.out.below hb)
   clear hb
   refine hK.out _ _ HRb.out.row (fun hHeld => ?_)
   clear hK K
   refine tk 9 (mo 6 (.move (.tmp 15))) (.tuple #[(.agg (idCells tl)), (.int .i64 (tu : Nat)), (.int .i64 (te : Nat))]) rfl ?_
   refine tk 10 (mo 16 (.extract (.tmp 6) 0)) (.agg (idCells tl)) rfl ?_
   refine tk 11 (mo 17 (.extract (.tmp 6) 1)) (.int .i64 (tu : Nat)) rfl ?_
   refine tk 12 (mo 18 (.extract (.tmp 6) 2)) (.int .i64 (te : Nat)) rfl ?_
   refine rdH [13] ?_
   refine AllReadyH.cons (o := ⟨some 3, .alloc 24, _, _, _, _⟩) rfl (fun K hK => ?_) AllReadyH.nil
   refine ready_step (wp_alloc_id rfl ?_)
   intro wc hi hb
   have HYc := Lib.hid hi
   have HL3 := Lib.hid (show gr < wb.heap.size ∧ g2 < wb.heap.size from ⟨HRb.out.lt, HIb.out.lt⟩)
   have HRc := Lib.hid (HRb.out.below hb)
   have HGc := Lib.hid (HGb.out.trans (grown_bel hb (some gr)))
   have HIc := Lib.hid (HIb.out.below hb)
   clear hb
   have HL3W := Lib.hid (show w.heap.size ≤ wb.heap.size from HGb.out.size)
   generalize wb.heap.size = g3 at hi HYc HL3 HL3W ⊢
   clear hi
   refine hK.out _ _ HRc.out.row (fun hHeld => ?_)
   clear hK K
   refine rdH [14] ?_
   refine AllReadyH.cons (o := ⟨none, .store 24 (.tmp 3) (.tmp 16), _, _, _, _⟩) rfl (fun K hK => ?_) AllReadyH.nil
   refine ready_step (wp_store_id _ _ rfl g3 idZero tl rfl rfl HYc.out HTL.out ?_)
   intro wd hi hg
   have HYd := Lib.hid hi
   have HRd := Lib.hid (HRc.out.other hg HL3.out.1)
   have HGd := Lib.hid (HGc.out.andThen hg (fun j hj => by cases hj; exact .inl HL3W.out))
   have HId := Lib.hid (HIc.out.ne_grown hg (Nat.ne_of_lt HL3.out.2))
   clear hi hg
   refine hK.out _ _ HRd.out.row (fun hHeld => ?_)
   clear hK K
   refine tk 15 (mo 4 (.assign (.tmp 17))) (.int .i64 (tu : Nat)) rfl ?_
   refine tk 16 (mo 5 (.assign (.tmp 18))) (.int .i64 (te : Nat)) rfl ?_
   refine wpAnyH_done (by kernel_rfl) ?_ _
   go_wp2_with (go_at_call 66; go_must (refine (step_no _ te HE.out).mono ?_); rintro e wz ⟨rfl, rfl⟩)
   rw [HP.out]
   exact ⟨rfl, rfl, HGd.out⟩
  ·refine ready_step (wp_alloc_id rfl ?_)
   intro wb hi hb
   have HYb := Lib.hid hi
   have HL3 := Lib.hid (show gr < wa.heap.size ∧ g2 < wa.heap.size from ⟨HRa.out.lt, HIa.out.lt⟩)
   have HRb := Lib.hid (HRa.out.below hb)
   have HGb := Lib.hid (HGa.out.trans (grown_bel hb (some gr)))
   have HIb := Lib.hid (HIa.out.below hb)
   clear hb
   have HL3W := Lib.hid (show w.heap.size ≤ wa.heap.size from HGa.out.size)
   generalize wa.heap.size = g3 at hi HYb HL3 HL3W ⊢
   clear hi
   refine hK.out _ _ HRb.out.row (fun hHeld => ?_)
   clear hK K
   refine rdH [8] ?_
   refine AllReadyH.cons (o := ⟨some 15, .call { callee := .value (.func 67), args := #[(.tmp 10), (.tmp 14)], argTypes := #[28, 3] }, _, _, _, _⟩) rfl (fun K hK => ?_) AllReadyH.nil
   go_simp
   refine (getId_any a n c B at_ _ HRb.out.bytes).mono ?_
   rintro e wc ⟨he2, hb⟩
   rw [HT.out] at he2
   subst he2
   have HRc := Lib.hid (HRb.out.below hb)
   have HGc := Lib.hid (HGb.out.trans (grown_bel hb (some gr)))
   have HIc := Lib.hid (HIb.out.below hb)
   have HYc := Lib.hid (HYb.out.below hb)
   clear hb
   refine hK.out _ _ HRc.out.row (fun hHeld => ?_)
   clear hK K
   refine tk 9 (mo 6 (.move (.tmp 15))) (.tuple #[(.agg (idCells tl)), (.int .i64 (tu : Nat)), (.int .i64 (te : Nat))]) rfl ?_
   refine tk 10 (mo 16 (.extract (.tmp 6) 0)) (.agg (idCells tl)) rfl ?_
   refine tk 11 (mo 17 (.extract (.tmp 6) 1)) (.int .i64 (tu : Nat)) rfl ?_
   refine tk 12 (mo 18 (.extract (.tmp 6) 2)) (.int .i64 (te : Nat)) rfl ?_
   refine rdH [14] ?_
   refine AllReadyH.cons (o := ⟨none, .store 24 (.tmp 3) (.tmp 16), _, _, _, _⟩) rfl (fun K hK => ?_) AllReadyH.nil
   refine ready_step (wp_store_id _ _ rfl g3 idZero tl rfl rfl HYc.out HTL.out ?_)
   intro wd hi hg
   have HYd := Lib.hid hi
   have HRd := Lib.hid (HRc.out.other hg HL3.out.1)
   have HGd := Lib.hid (HGc.out.andThen hg (fun j hj => by cases hj; exact .inl HL3W.out))
   have HId := Lib.hid (HIc.out.ne_grown hg (Nat.ne_of_lt HL3.out.2))
   clear hi hg
   refine hK.out _ _ HRd.out.row (fun hHeld => ?_)
   clear hK K
   refine tk 15 (mo 4 (.assign (.tmp 17))) (.int .i64 (tu : Nat)) rfl ?_
   refine tk 16 (mo 5 (.assign (.tmp 18))) (.int .i64 (te : Nat)) rfl ?_
   refine wpAnyH_done (by kernel_rfl) ?_ _
   go_wp2_with (go_at_call 66; go_must (refine (step_no _ te HE.out).mono ?_); rintro e wz ⟨rfl, rfl⟩)
   rw [HP.out]
   exact ⟨rfl, rfl, HGd.out⟩
end Go.Proofs.YthihmlojdopmfaaDoor
