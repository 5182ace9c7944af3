/-
  LebBack: for every input of bulk at most 1048576 the law returns true, and the input reads as before. No other condition.
-/
import Derived.Test.YtkjgcgdfofheeaaUpto
import Derived.Test.YtkjgcgdfofheeaaBack
import Derived.Lib.SmallJoins
namespace Go.Proofs.Ytkjgcgdfofheeaa.lebBack
open Go.ChangeShapes Go.WideShapes Go.ChangeAt Go.RowKit
open Go.ChangeMaps (open_string shut_string)

theorem cells_written : Try.prog.cellsOf 52 = 36 := by kernel_rfl

/-- The struct that came in, opened. -/
theorem open_written {H : Type} {enc : TypeId × Value → H} {W : World} {cs : Array Value} {d : DataW H} {p : List MemPlace} (hsz : cs.size = 36)
    (h : DataW.Trod enc Try.prog W 0 (fun _ => true) true 52 (.agg cs) d p) (hk : Rows.uptoBulk d ≤ 1048576) :
    ∃ (a0 a1 : Option Addr) (n0 c0 n1 c1 : Nat) (m : Int) (l0 l1 il : List UInt8) (s : ByteArray), cs[0]? = some (.slice a0 n0 c0) ∧ cs[1]? = some (.slice a1 n1 c1) ∧ cs[2]? = some (.int .i64 m) ∧ cs[3]? = some (.string s) ∧
      (∀ j, j < 32 → cs[4 + j]? = some (.int .u8 ((il.getD j 0).toNat : Int))) ∧ il.length = 32 ∧ Bytes W a0 n0 c0 l0 ∧ Bytes W a1 n1 c1 l1 ∧ m ≤ 9223372036854775807 ∧ l0.length ≤ 2000000 ∧ l1.length ≤ 2000000 ∧ s.size ≤ 2000000 := by
  obtain ⟨fuel, hf⟩ := h
  obtain ⟨xs, n, _, hx, hl, hlen, hfs⟩ := DataW.trod_struct Try.underlying52 hf
  simp only [Prod.mk.injEq] at hx
  have hlen5 : xs.length = 5 := hlen
  have hag : Rows.uptoBulkAll (xs.map (·.1)) ≤ 1048576 := by rw [hx.1] at hk; simp only [Rows.uptoBulk] at hk; omega
  have hone : ∀ j v, cs.toList.drop j = v :: cs.toList.drop (j + 1) → cs[j]? = some v := fun j v h => by
    have := congrArg (fun l => l[0]?) h
    simpa using this
  have hdrop : ∀ j, (hj : j < 36) → cs.toList.drop j = cs[j]'(by omega) :: cs.toList.drop (j + 1) := fun j hj => by
    rw [List.drop_eq_getElem_cons (by simp; omega)]; simp
  have hget : ∀ j, (hj : j < 36) → cs[j]? = some (cs[j]'(by omega)) := fun j hj => Array.getElem?_eq_getElem (by omega)
  have hxs : ∀ i, (hi : i < 5) → xs[i]? = some (xs[i]'(by omega)) := fun i hi => List.getElem?_eq_getElem (by omega)
  have hb : ∀ i, (hi : i < 5) → Rows.uptoBulk (xs[i]'(by omega)).1 ≤ 1048576 := fun i hi =>
    Nat.le_trans (bulk_mem _ _ (List.mem_map_of_mem (List.getElem_mem _))) hag
  have f0 : DataW.trod enc Try.prog W 0 (fun _ => true) true n 22 ((cs.toList.drop 0).take (Try.prog.cellsOf 22)) = xs[0]? := hfs 0 _ rfl
  have f1 : DataW.trod enc Try.prog W 0 (fun _ => true) true n 22 ((cs.toList.drop 1).take (Try.prog.cellsOf 22)) = xs[1]? := hfs 1 _ rfl
  have f2 : DataW.trod enc Try.prog W 0 (fun _ => true) true n 3 ((cs.toList.drop 2).take (Try.prog.cellsOf 3)) = xs[2]? := hfs 2 _ rfl
  have f3 : DataW.trod enc Try.prog W 0 (fun _ => true) true n 9 ((cs.toList.drop 3).take (Try.prog.cellsOf 9)) = xs[3]? := hfs 3 _ rfl
  have f4 : DataW.trod enc Try.prog W 0 (fun _ => true) true n 41 ((cs.toList.drop 4).take (Try.prog.cellsOf 41)) = xs[4]? := hfs 4 _ rfl
  have w1 : Try.prog.cellsOf 22 = 1 := by kernel_rfl
  have w2 : Try.prog.cellsOf 3 = 1 := by kernel_rfl
  have w3 : Try.prog.cellsOf 9 = 1 := by kernel_rfl
  have w4 : Try.prog.cellsOf 41 = 32 := by kernel_rfl
  rw [w1] at f0 f1
  rw [w2] at f2
  rw [w3] at f3
  rw [w4] at f4
  rw [hxs 0 (by omega), hdrop 0 (by omega), List.take_succ_cons, List.take_zero] at f0
  rw [hxs 1 (by omega), hdrop 1 (by omega), List.take_succ_cons, List.take_zero] at f1
  rw [hxs 2 (by omega), hdrop 2 (by omega), List.take_succ_cons, List.take_zero] at f2
  rw [hxs 3 (by omega), hdrop 3 (by omega), List.take_succ_cons, List.take_zero] at f3
  rw [hxs 4 (by omega)] at f4
  obtain ⟨a0, n0, c0, e0⟩ := Go.Joins.slice_form Try.underlying22 f0
  obtain ⟨a1, n1, c1, e1⟩ := Go.Joins.slice_form Try.underlying22 f1
  obtain ⟨m, e2, _, wm⟩ := DataW.trod_int Try.underlying3 f2
  obtain ⟨s, e3, hs, _⟩ := DataW.trod_string Try.underlying9 f3
  obtain ⟨il, hil, e4⟩ := id_cells f4
  rw [e0] at f0
  rw [e1] at f1
  simp only [List.cons.injEq, and_true] at e0 e1 e2 e3
  obtain ⟨l0, hb0, hd0⟩ := open_bytes (a := a0) (len := n0) (cap := c0) ⟨n, f0⟩
  obtain ⟨l1, hb1, hd1⟩ := open_bytes (a := a1) (len := n1) (cap := c1) ⟨n, f1⟩
  have s0 : c0 ≤ Rows.uptoBulk (xs[0]'(by omega)).1 := bulk_bytes hd0
  have s1 : c1 ≤ Rows.uptoBulk (xs[1]'(by omega)).1 := bulk_bytes hd1
  have t0 := hb 0 (by omega)
  have t1 := hb 1 (by omega)
  have t3 : Rows.uptoBulk (DataW.lit (H := H) (.string s.data.toList)) ≤ 1048576 := by
    have := hb 3 (by omega)
    rw [hs] at this
    exact this
  have s3 := bulk_string (H := H) s.data.toList
  have hss : s.data.toList.length = s.size := by simp
  have k0 := hb0.1
  have k1 := hb0.2.1
  have k2 := hb1.1
  have k3 := hb1.2.1
  refine ⟨a0, a1, n0, c0, n1, c1, m, l0, l1, il, s, by rw [hget 0 (by omega), e0], by rw [hget 1 (by omega), e1], by rw [hget 2 (by omega), e2], by rw [hget 3 (by omega), e3], fun j hj => ?_, hil, hb0, hb1, ?_, by omega, by omega, by omega⟩
  · have := congrArg (fun l => l[j]?) e4
    simp only [List.getElem?_take, if_pos hj, List.getElem?_drop, List.getElem?_map] at this
    rw [Array.getElem?_toList] at this
    rw [this]
    have hjl : j < il.length := by omega
    simp [hjl, B]
  · have := wm
    simp [Lit.wf, IntKind.min, IntKind.max, IntKind.signed, IntKind.bits] at this
    omega

theorem contract (H : Type) (enc : TypeId × Value → H) (W : World) (base : Nat) (args : Array Value) (ds gs : List (DataW H)) (before : List MemPlace)
    (hval0 : ∀ (j : Nat) t v, Try.f6.params[j]? = some t → args[j]? = some v → Value.okWide Try.prog W .any base t v)
    (hW : DataW.Whole enc Try.prog Try.f6.params.toList Rows.lebBackSpec.vars false W args.toList ds gs before)
    (hk : Rows.uptoSmall H (ds ++ gs) = true) :
    Calls Try.prog 6 args W fun e W' => ∃ v, e = .returned v ∧ Rows.lebBackSpec.post enc Try.prog Try.f6 false true false false W args v W' := by
  have hval : ∀ (j : Nat) t v, Try.f6.params[j]? = some t → args[j]? = some v → Value.okWide Try.prog W .any base t v := hval0
  have hW' := hW
  obtain ⟨p, q, hA0, hV, rfl, hfz, hnd⟩ := hW
  have hA : DataW.TrodAll enc Try.prog W 0 (fun _ => true) true Try.f6.params.toList args.toList ds p := hA0
  rw [Try.params6] at hA hval
  obtain ⟨v0, vs0, d0, ds0, p0, q0, hargs, rfl, rfl, h0, r0⟩ := trodAll_cons hA
  obtain ⟨rfl, rfl, rfl⟩ := trodAll_nil r0
  obtain rfl : args = #[v0] := by cases args; simp_all
  obtain ⟨rfl, rfl⟩ := trodVars_none hV
  obtain ⟨cs, rfl, hsz⟩ := okWide_struct Try.underlying52 (hval 0 52 v0 rfl rfl)
  rw [cells_written] at hsz
  have lt0 := lt_of_trod h0
  have hk' : Rows.uptoBulk d0 ≤ 1048576 := by
    have hb : Rows.uptoBulkAll [d0] ≤ 1048576 := by
      have := of_decide_eq_true hk
      simpa using this
    exact Nat.le_trans (bulk_mem [d0] d0 (by simp)) hb
  obtain ⟨a0, a1, n0, c0, n1, c1, m, l0, l1, il, s, e0, e1, e2, e3, e4, hil, hb0, hb1, hm, hl0, hl1, hs⟩ := open_written hsz h0 hk'
  clear hA0 hval0
  refine (back_any cs a0 a1 n0 c0 n1 c1 m l0 l1 il s W e0 e1 e2 e3 e4 hil hb0 hb1 hm hl0 hl1 hs).mono fun e W' ⟨he, bel⟩ => ?_
  subst he
  exact ⟨_, rfl, _, _, _, [], _, [], hW', trodAll_mk1 (shut_bool Try.underlying4 _), (trodAll_cons_mk (Below.trod laidOut (by kernel_rfl) (of_decide_eq_true (by kernel_rfl)) h0 bel lt0) trodAll_mk0), rfl, bel.frame _, fun h => by cases h⟩

def w0 : Value := .agg (#[.slice none 0 0, .slice none 0 0, .int .i64 0, .string ByteArray.empty] ++ (List.replicate 32 (Value.int .u8 0)).toArray)

set_option maxRecDepth 100000 in
theorem lifted (os : Os) (started : os.Started) (H : Type) (enc : TypeId × Value → H) (F : Stop.Interp) :
    ReturnsInHanded {} Try.checked os 6 .any ((Rows.OpenSpec.upto Rows.lebBackSpec).pre6 enc Try.prog Try.f6 Rows.lebBackUptoRow.domain false) (((Rows.OpenSpec.upto Rows.lebBackSpec).at F).post enc Try.prog Try.f6 false true false false) := by
  refine returnsInHanded_of_cond (C := Try.checked) (s := Rows.OpenSpec.upto Rows.lebBackSpec) (k := Rows.uptoSmall) rfl own started (by kernel_rfl) Try.func6
    (OpenSpec.witness (enc := enc) (C := Try.checked) (s := Rows.OpenSpec.upto Rows.lebBackSpec) (k := Rows.uptoSmall) rfl false ⟨#[], #[w0], []⟩ 8 (by kernel_rfl) (by kernel_rfl) (by kernel_rfl)
      (x := ([.agg [.nil, .nil, .lit (.int .i64 0), .lit (.string []), .agg (List.replicate 32 (.lit (.int .u8 0)))]], [], [])) (by kernel_rfl) rfl (by kernel_rfl)) ?_
  intro W base args ds gs before hval hW _ hk _
  exact contract H enc W base args ds gs before hval hW hk

theorem over : Rows.lebBackUptoRow.holds Try.pinned (Rows.OpenSpec.upto Rows.lebBackSpec) :=
  OpenClaim.holds_of_cond 6 Try.f6 rfl rfl rfl rfl rfl rfl rfl ⟨rfl, rfl, rfl, rfl, rfl⟩ rfl rfl rfl rfl rfl (by kernel_rfl) Try.func6 (by kernel_rfl)
    (of_decide_eq_true (by kernel_rfl)) (by unfold Func.isWrapper; first | (rw [if_pos (by decide +kernel)]; kernel_rfl) | (rw [if_neg (by decide +kernel)]; exact ⟨rfl, rfl⟩))
    (fun os started H enc _ F => lifted os started H enc F)

theorem proved : Rows.LebBackUptoSaid := over
#print axioms proved
end Go.Proofs.Ytkjgcgdfofheeaa.lebBack
