/-
  TreeOne: for every input the law returns true, and the input reads as before. No condition.
-/
import Derived.Test.YtmenhbdapikpeaaTreeOpen
import Derived.Test.YtmenhbdapikpeaaTreeLaws3
import Derived.Lib.SmallJoins
namespace Go.Proofs.Ytmenhbdapikpeaa.treeOne
open Go.ChangeShapes Go.WideShapes Go.ChangeAt Go.RowKit
open Go.ChangeMaps (open_string shut_string)

theorem byte3 {H : Type} {enc : TypeId × Value → H} {W : World} {fuel : Nat} {cs : List Value} {x : DataW H × List MemPlace}
    (h : DataW.trod enc Try.prog W 0 (fun _ => true) true fuel 49 cs = some x) : ∃ l : List UInt8, l.length = 3 ∧ cs = l.map B := by
  obtain ⟨xs, m, _, _, hl, _, hi⟩ := DataW.trod_array Try.underlying49 h
  have h3 : Try.prog.cellsOf 49 = 3 := by kernel_rfl
  have h1 : Try.prog.cellsOf 5 = 1 := by kernel_rfl
  rw [h3] at hl
  rw [h1] at hi
  obtain ⟨l, h2, h3⟩ := byte_cells (cs := cs) (fun i hi' => by
    have := hi i (by omega)
    rw [Nat.mul_one, List.drop_eq_getElem_cons hi', List.take_succ_cons, List.take_zero] at this
    cases hx : xs[i]? with
    | none => rw [List.getElem?_eq_none_iff] at hx; omega
    | some y =>
      rw [hx] at this
      obtain ⟨z, hz, _, hw⟩ := DataW.trod_int Try.underlying5 this
      simp only [List.cons.injEq, and_true] at hz
      exact ⟨z, by rw [List.getElem?_eq_getElem hi', hz], hw⟩)
  exact ⟨l, by omega, h3⟩
theorem open_three {H : Type} {enc : TypeId × Value → H} {W : World} {cs : Array Value} {d : DataW H} {p : List MemPlace}
    (h : DataW.Trod enc Try.prog W 0 (fun _ => true) true 51 (.agg cs) d p) :
    ∃ a n c L x y z, x ≤ 255 ∧ y ≤ 255 ∧ z ≤ 255 ∧ cs = threeC a n c x y z ∧ NodesAt W a n c L := by
  obtain ⟨fuel, hf⟩ := h
  obtain ⟨xs, m, _, hx, hl, hlen, hfs⟩ := DataW.trod_struct Try.underlying51 hf
  have c4 : Try.prog.cellsOf 51 = 4 := by kernel_rfl
  have c1 : Try.prog.cellsOf 22 = 1 := by kernel_rfl
  have c3 : Try.prog.cellsOf 49 = 3 := by kernel_rfl
  rw [c4] at hl
  obtain ⟨y0, y1, rfl⟩ : ∃ y0 y1, xs = [y0, y1] := by
    match xs, hlen with
    | [y0, y1], _ => exact ⟨y0, y1, rfl⟩
  have hl' : cs.toList.length = 4 := hl
  obtain ⟨u0, u1, u2, u3, hcs⟩ : ∃ u0 u1 u2 u3, cs.toList = [u0, u1, u2, u3] := by
    generalize cs.toList = l at hl'
    match l, hl' with
    | [u0, u1, u2, u3], _ => exact ⟨u0, u1, u2, u3, rfl⟩
  have f0 : DataW.trod enc Try.prog W 0 (fun _ => true) true m 22 ((cs.toList.drop 0).take (Try.prog.cellsOf 22)) = some y0 := hfs 0 _ rfl
  have f1 : DataW.trod enc Try.prog W 0 (fun _ => true) true m 49 ((cs.toList.drop 1).take (Try.prog.cellsOf 49)) = some y1 := hfs 1 _ rfl
  rw [c1, hcs] at f0
  rw [c3, hcs] at f1
  have f0 : DataW.trod enc Try.prog W 0 (fun _ => true) true m 22 [u0] = some y0 := f0
  have f1 : DataW.trod enc Try.prog W 0 (fun _ => true) true m 49 [u1, u2, u3] = some y1 := f1
  obtain ⟨a, n, c, e0⟩ := Go.Joins.slice_form Try.underlying22 f0
  obtain ⟨l, e1, e2⟩ := byte3 f1
  obtain rfl := (List.cons.inj e0).1
  obtain ⟨b0, b1, b2, rfl⟩ : ∃ b0 b1 b2, l = [b0, b1, b2] := by
    match l, e1 with
    | [b0, b1, b2], _ => exact ⟨b0, b1, b2, rfl⟩
  simp only [List.map_cons, List.map_nil, List.cons.injEq, and_true] at e2
  obtain ⟨rfl, rfl, rfl⟩ := e2
  obtain ⟨L, hL⟩ := open_nodes (a := a) (len := n) (cap := c) (d := y0.1) (p := y0.2) ⟨m, f0⟩
  have hb : ∀ b : UInt8, b.toNat ≤ 255 := fun b => by have := b.toNat_lt; omega
  exact ⟨a, n, c, L, b0.toNat, b1.toNat, b2.toNat, hb _, hb _, hb _, by rw [← Array.toList_inj, hcs]; rfl, hL⟩

set_option maxRecDepth 100000 in
theorem lifted (os : Os) (started : os.Started) (H : Type) (enc : TypeId × Value → H) :
    ReturnsInHanded {} Try.checked os 8 .any (Rows.treeOneSpec.pre6 enc Try.prog Try.f8 Rows.treeOneRow.domain false) (Rows.treeOneSpec.post enc Try.prog Try.f8 false true false false) := by
  refine returnsInHanded_of_change_sized (C := Try.checked) own started (by kernel_rfl) Try.func8
    (ChangeSpec.witness6 (enc := enc) (C := Try.checked) false ⟨#[], #[.agg (threeC none 0 0 0 0 0)], []⟩ 8 (by kernel_rfl) (by kernel_rfl) (by kernel_rfl) (by kernel_rfl)) ?_
  intro W base args ds gs before hval0 hW _ hsize _
  have hval : ∀ (j : Nat) t v, Try.f8.params[j]? = some t → args[j]? = some v → Value.okWide Try.prog W .any base t v := hval0
  have hW' := hW
  obtain ⟨p, q, hA0, hV, rfl, hfz, hnd⟩ := hW
  have hA : DataW.TrodAll enc Try.prog W 0 (fun _ => true) true Try.f8.params.toList args.toList ds p := hA0
  rw [Try.params8] at hA hval hsize
  obtain ⟨v0, vs0, d0, ds0, p0, q0, hargs, rfl, rfl, h0, r0⟩ := trodAll_cons hA
  obtain ⟨rfl, rfl, rfl⟩ := trodAll_nil r0
  obtain rfl : args = #[v0] := by cases args; simp_all
  obtain ⟨rfl, rfl⟩ := trodVars_none hV
  obtain ⟨cs, rfl⟩ : ∃ cs, v0 = .agg cs := by
    have h := hval 0 51 v0 rfl rfl
    simp only [Value.okWide, Try.underlying51] at h
    obtain ⟨cs, h1, _⟩ := h
    exact ⟨cs, h1⟩
  have lt0 := lt_of_trod h0
  obtain ⟨a, n, c, L, x, y, z, hx, hy, hz, rfl, hL⟩ := open_three h0
  have hb := (Below.refl W.heap.size W).alloc (Nat.le_refl _) (.cells (threeC a n c x y z) 51)
  clear hA0 hval0
  refine (treeOne_any a n c L x y z hx hy hz W _ rfl (hL.below hb)).mono fun e W' ⟨he, bel⟩ => ?_
  subst he
  exact ⟨_, rfl, _, _, _, [], _, [], hW', trodAll_mk1 (shut_bool Try.underlying4 _), (trodAll_cons_mk (Below.trod laidOut (by kernel_rfl) (of_decide_eq_true (by kernel_rfl)) h0 bel lt0) trodAll_mk0), rfl, bel.frame _, fun h => by cases h⟩

theorem over : Rows.treeOneRow.holds Try.pinned (OpenSpec.ofChange Rows.treeOneSpec) :=
  OpenClaim.holds_of_wide 8 Try.f8 rfl rfl rfl rfl rfl rfl rfl ⟨rfl, rfl, rfl, rfl, rfl⟩ rfl rfl rfl rfl rfl (by kernel_rfl) Try.func8 (by kernel_rfl)
    (of_decide_eq_true (by kernel_rfl)) (by unfold Func.isWrapper; first | (rw [if_pos (by decide +kernel)]; kernel_rfl) | (rw [if_neg (by decide +kernel)]; exact ⟨rfl, rfl⟩))
    (fun os started H enc _ => lifted os started H enc)

theorem proved : Rows.TreeOneSaid := over
#print axioms proved
end Go.Proofs.Ytmenhbdapikpeaa.treeOne
