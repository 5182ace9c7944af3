/-
  DiskNil: for every input the law returns true, and the input reads as before. No condition.
-/
import Derived.Test.YtfmfaclbanflmaaOpen0
import Derived.Test.YtfmfaclbanflmaaDiskNil
import Derived.Lib.SmallJoins
namespace Go.Proofs.Ytfmfaclbanflmaa.diskNil
open Go.ChangeShapes Go.WideShapes Go.ChangeAt Go.RowKit
open Go.ChangeMaps (open_string shut_string)

theorem cells_act : Try.prog.cellsOf 37 = 6 := by kernel_rfl

/-- The act that came in, opened. -/
theorem open_act {H : Type} {enc : TypeId × Value → H} {W : World} {cs : Array Value} {d : DataW H} {p : List MemPlace} (hsz : cs.size = 6)
    (h : DataW.Trod enc Try.prog W 0 (fun _ => true) true 37 (.agg cs) d p) :
    ∃ (z : Int) (s t : ByteArray) (a : Option Addr) (m c : Nat) (n : Int) (a5 : Option Addr) (m5 c5 : Nat), cs = actC z s t a m c n a5 m5 c5 := by
  obtain ⟨fuel, hf⟩ := h
  obtain ⟨xs, n, _, hx, hl, hlen, hfs⟩ := DataW.trod_struct Try.underlying37 hf
  have hlen6 : xs.length = 6 := hlen
  have hdrop : ∀ j, (hj : j < 6) → cs.toList.drop j = cs[j]'(by omega) :: cs.toList.drop (j + 1) := fun j hj => by
    rw [List.drop_eq_getElem_cons (by simp; omega)]; simp
  have hxs : ∀ i, (hi : i < 6) → xs[i]? = some (xs[i]'(by omega)) := fun i hi => List.getElem?_eq_getElem (by omega)
  have f0 : DataW.trod enc Try.prog W 0 (fun _ => true) true n 3 ((cs.toList.drop 0).take (Try.prog.cellsOf 3)) = xs[0]? := hfs 0 _ rfl
  have f1 : DataW.trod enc Try.prog W 0 (fun _ => true) true n 9 ((cs.toList.drop 1).take (Try.prog.cellsOf 9)) = xs[1]? := hfs 1 _ rfl
  have f2 : DataW.trod enc Try.prog W 0 (fun _ => true) true n 9 ((cs.toList.drop 2).take (Try.prog.cellsOf 9)) = xs[2]? := hfs 2 _ rfl
  have f3 : DataW.trod enc Try.prog W 0 (fun _ => true) true n 35 ((cs.toList.drop 3).take (Try.prog.cellsOf 35)) = xs[3]? := hfs 3 _ rfl
  have f4 : DataW.trod enc Try.prog W 0 (fun _ => true) true n 3 ((cs.toList.drop 4).take (Try.prog.cellsOf 3)) = xs[4]? := hfs 4 _ rfl
  have f5 : DataW.trod enc Try.prog W 0 (fun _ => true) true n 27 ((cs.toList.drop 5).take (Try.prog.cellsOf 27)) = xs[5]? := hfs 5 _ rfl
  have w_n : Try.prog.cellsOf 27 = 1 := by kernel_rfl
  have w_b : Try.prog.cellsOf 35 = 1 := by kernel_rfl
  have w_i : Try.prog.cellsOf 3 = 1 := by kernel_rfl
  have w_s : Try.prog.cellsOf 9 = 1 := by kernel_rfl
  rw [w_i, hxs 0 (by omega), hdrop 0 (by omega), List.take_succ_cons, List.take_zero] at f0
  rw [w_s, hxs 1 (by omega), hdrop 1 (by omega), List.take_succ_cons, List.take_zero] at f1
  rw [w_s, hxs 2 (by omega), hdrop 2 (by omega), List.take_succ_cons, List.take_zero] at f2
  rw [w_b, hxs 3 (by omega), hdrop 3 (by omega), List.take_succ_cons, List.take_zero] at f3
  rw [w_i, hxs 4 (by omega), hdrop 4 (by omega), List.take_succ_cons, List.take_zero] at f4
  rw [w_n, hxs 5 (by omega), hdrop 5 (by omega), List.take_succ_cons, List.take_zero] at f5
  obtain ⟨z, e0, _, _⟩ := DataW.trod_int Try.underlying3 f0
  obtain ⟨s, e1, _, _⟩ := DataW.trod_string Try.underlying9 f1
  obtain ⟨t, e2, _, _⟩ := DataW.trod_string Try.underlying9 f2
  obtain ⟨a, m, c, e3⟩ := Go.Joins.slice_form Try.underlying35 f3
  obtain ⟨k, e4, _, _⟩ := DataW.trod_int Try.underlying3 f4
  obtain ⟨a5, m5, c5, e5⟩ := Go.Joins.slice_form Try.underlying27 f5
  simp only [List.cons.injEq, and_true] at e0 e1 e2 e3 e4 e5
  refine ⟨z, s, t, a, m, c, k, a5, m5, c5, ?_⟩
  apply Array.ext
  · simpa using hsz
  · intro j hj1 hj2
    have hj : j < 6 := by omega
    match j, hj with
    | 0, _ => exact e0
    | 1, _ => exact e1
    | 2, _ => exact e2
    | 3, _ => exact e3
    | 4, _ => exact e4
    | 5, _ => exact e5

set_option maxRecDepth 100000 in
theorem lifted (os : Os) (started : os.Started) (H : Type) (enc : TypeId × Value → H) :
    ReturnsInHanded {} Try.checked os 6 .any (Rows.diskNilSpec.pre6 enc Try.prog Try.f6 Rows.diskNilRow.domain false) (Rows.diskNilSpec.post enc Try.prog Try.f6 false true false false) := by
  refine returnsInHanded_of_change_sized (C := Try.checked) own started (by kernel_rfl) Try.func6
    (ChangeSpec.witness6 (enc := enc) (C := Try.checked) false ⟨#[], #[.agg (actC 0 ByteArray.empty ByteArray.empty none 0 0 0 none 0 0)], []⟩ 8 (by kernel_rfl) (by kernel_rfl) (by kernel_rfl) (by kernel_rfl)) ?_
  intro W base args ds gs before hval0 hW _ hsize _
  have hval : ∀ (j : Nat) t v, Try.f6.params[j]? = some t → args[j]? = some v → Value.okWide Try.prog W .any base t v := hval0
  have hW' := hW
  obtain ⟨p, q, hA0, hV, rfl, hfz, hnd⟩ := hW
  have hA : DataW.TrodAll enc Try.prog W 0 (fun _ => true) true Try.f6.params.toList args.toList ds p := hA0
  rw [Try.params6] at hA hval hsize
  obtain ⟨v0, vs0, d0, ds0, p0, q0, hargs, rfl, rfl, h0, r0⟩ := trodAll_cons hA
  obtain ⟨rfl, rfl, rfl⟩ := trodAll_nil r0
  obtain rfl : args = #[v0] := by cases args; simp_all
  obtain ⟨rfl, rfl⟩ := trodVars_none hV
  obtain ⟨cs, rfl, hsz⟩ := okWide_struct Try.underlying37 (hval 0 37 v0 rfl rfl)
  rw [cells_act] at hsz
  have lt0 := lt_of_trod h0
  obtain ⟨z, s, t, a, m, c, n, a5, m5, c5, rfl⟩ := open_act hsz h0
  clear hA0 hval0
  refine (diskNil_any z s t a m c n a5 m5 c5 W).mono fun e W' ⟨he, bel⟩ => ?_
  subst he
  exact ⟨_, rfl, _, _, _, [], _, [], hW', trodAll_mk1 (shut_bool Try.underlying4 _), (trodAll_cons_mk (Below.trod laidOut (by kernel_rfl) (of_decide_eq_true (by kernel_rfl)) h0 bel lt0) trodAll_mk0), rfl, bel.frame _, fun h => by cases h⟩

theorem over : Rows.diskNilRow.holds Try.pinned (OpenSpec.ofChange Rows.diskNilSpec) :=
  OpenClaim.holds_of_wide 6 Try.f6 rfl rfl rfl rfl rfl rfl rfl ⟨rfl, rfl, rfl, rfl, rfl⟩ rfl rfl rfl rfl rfl (by kernel_rfl) Try.func6 (by kernel_rfl)
    (of_decide_eq_true (by kernel_rfl)) (by unfold Func.isWrapper; first | (rw [if_pos (by decide +kernel)]; kernel_rfl) | (rw [if_neg (by decide +kernel)]; exact ⟨rfl, rfl⟩))
    (fun os started H enc _ => lifted os started H enc)

theorem proved : Rows.DiskNilSaid := over
#print axioms proved
end Go.Proofs.Ytfmfaclbanflmaa.diskNil
