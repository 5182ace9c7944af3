/-
 The deferred closure of refs' read, in both modes.
-/
import Derived.Test.YthihmlojdopmfaaDoorRfRead3
import Derived.Test.YthihmlojdopmfaaDoorGrp1
import Derived.Test.YthihmlojdopmfaaDoorRfAwake
import Derived.Defers
import Derived.Recover
namespace Go.Proofs.YthihmlojdopmfaaDoor
open Go.RowKit

abbrev BTf : TypeId := 4
def Gone (w w' : World) (g2 g3 : Nat) : Prop := RowAt w' g2 REf (rfL noS [] zId) ∧ RowAt w' g3 BTf [.bool false] ∧ w'.os = w.os ∧ w'.tape = w.tape ∧ w'.output = w.output ∧ w.heap.size ≤ w'.heap.size ∧ ∀ k, k < w.heap.size → k ≠ g2 → k ≠ g3 → w'.heap[k]? = w.heap[k]?
theorem Gone.below {w0 w w' : World} {g2 g3 base : Nat} (h : Gone w w' g2 g3) (hb : Below base w0 w) (h2 : base ≤ g2) (h3 : base ≤ g3) (hs : base ≤ w.heap.size) : Below base w0 w' :=
 ⟨h.2.2.1.trans hb.os, h.2.2.2.1.trans hb.tape, h.2.2.2.2.1.trans hb.output, Nat.le_trans hb.size h.2.2.2.2.2.1, fun k hk => (h.2.2.2.2.2.2 k (by omega) (by omega) (by omega)).trans (hb.block k hk)⟩
theorem built_zrfD : Tryd.prog.built REf [] = some (rfC noS [] zId) := by kernel_rfl
set_option maxRecDepth 100000 in
theorem exec_zrfD {w : World} {o : Oper} {a : Act} (ho : o.op = .build REf #[]) : (execOp a.eval o).run Tryd.prog w = .ok (.value (.agg (rfC noS [] zId))) w := by
 refine exec_build _ _ ho _ ?_
 have e : (#[].map fun (q : Nat × Operand) => (q.1, a.eval q.2)).toList = [] := by simp
 exact (congrArg _ e).trans built_zrfD
set_option maxRecDepth 100000 in
theorem gave_any {g2 g3 : Nat} {S : RfS} {h m : List UInt8} {b : Bool} (w : World) (hm : m.length = 32) (h2 : RowAt w g2 REf (rfL S h m)) (h3 : RowAt w g3 BTf [.bool b]) (hne : g2 ≠ g3) (u : TypeId) (pv : Value) :
  CallsD Tryd.prog 41 #[.pointer (some ⟨g2, 0, none⟩), .pointer (some ⟨g3, 0, none⟩)] (.panicking [{ v := .iface u pv, recovered := false }]) w fun e u' w' =>
   e = .returned (.tuple #[]) ∧ u' = .panicking [{ v := .iface u pv, recovered := true }] ∧ Gone w w' g2 g3 := by
 have H2 := Lib.hid h2
 have H3 := Lib.hid h3
 have HN := Lib.hid hne
 have HM := Lib.hid hm
 clear h2 h3 hne hm
 refine callsD_of_wpS Tryd.func41 rfl fun c₀ cs hu => ?_
 apply wpS_seq
 apply wpS_region
 simp [wpOpsS, go_sem, recoverD, hu, Tryd.ntmps41, Exit.thenS]
 refine wpS_cond (t := true) (by simp [Act.eval, Array.replicate]) ?_
 simp only [if_true]
 refine wpS_of_wp ?_
 have f3 := H3.out.free 0
 have c3 := H3.out.cell 0 rfl
 simp only [Array.replicate_succ, Array.replicate_zero, List.push_toArray, List.nil_append, List.cons_append, List.append_toArray, List.setIfInBounds_toArray, List.set_cons_zero, List.set_cons_succ]
 go_wp2_with (first
  | ((with_reducible refine atS 4 ?_); go_must (refine wl_ex rfl (exec_zrfD rfl) ?_))
  | ((with_reducible refine atT 0 ?_); go_must (refine wl_store_rf (S := noS) (h := []) (a := zId) rfl H2.out (len36 HM.out) rfl _ _ rfl rfl rfl ?_); intro w6 hz hg; have HZ6 := Lib.hid hz; have HG6 := Lib.hid hg; have H36 := Lib.hid (H3.out.grown hg (fun e => HN.out (Option.some.inj e).symm)); have c3 := H36.out.cell 0 rfl; have f3 := H36.out.free 0; clear hz hg))
 have hgs := grown_set w6 g3 0 (.bool false)
 refine ⟨rfl, _, rfl, _, results_none rfl _ _ _, rfl, rfl, HZ6.out.grown hgs (fun e => HN.out (Option.some.inj e)), H36.out.set 0 _, hgs.os.trans HG6.out.os, hgs.tape.trans HG6.out.tape, hgs.output.trans HG6.out.output, Nat.le_trans HG6.out.size hgs.size, fun k hk h1 h2 => ?_⟩
 exact (hgs.block k (Nat.lt_of_lt_of_le hk HG6.out.size) (fun e => h2 (Option.some.inj e))).trans (HG6.out.block k hk (fun e => h1 (Option.some.inj e)))
set_option maxRecDepth 100000 in
theorem idle_any (p q : Value) (w : World) :
  CallsD Tryd.prog 41 #[p, q] .returning w fun e u' w' => e = .returned (.tuple #[]) ∧ u' = .returning ∧ w' = w := by
 refine callsD_of_wpS Tryd.func41 rfl fun c₀ cs hu => ?_
 apply wpS_seq
 apply wpS_region
 simp [wpOpsS, go_sem, recoverD, hu, Tryd.ntmps41, Exit.thenS]
 refine wpS_cond (t := false) (by simp [Act.eval, Array.replicate]) ?_
 simp only [Bool.false_eq_true, if_false]
 refine wpS_of_wp (wp_skip ?_)
 cases c₀
 simp only at hu
 subst hu
 exact ⟨rfl, _, rfl, _, results_none rfl _ _ _, rfl, rfl, rfl⟩
end Go.Proofs.YthihmlojdopmfaaDoor
