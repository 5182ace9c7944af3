/-
  TreeNext: for every input the law returns true, and the input reads as before. No condition.
-/
import Derived.Test.YtmenhbdapikpeaaTreeLaws5
import Derived.Test.YtmenhbdapikpeaaTreeOpen
namespace Go.Proofs.Ytmenhbdapikpeaa.treeNext
open Go.ChangeShapes Go.WideShapes Go.ChangeAt Go.RowKit
open Go.ChangeMaps (open_string shut_string)

set_option maxRecDepth 100000 in
theorem lifted (os : Os) (started : os.Started) (H : Type) (enc : TypeId × Value → H) :
    ReturnsInHanded {} Try.checked os 6 .any (Rows.treeNextSpec.pre6 enc Try.prog Try.f6 Rows.treeNextRow.domain false) (Rows.treeNextSpec.post enc Try.prog Try.f6 false true false false) := by
  refine returnsInHanded_of_change_sized (C := Try.checked) own started (by kernel_rfl) Try.func6
    (ChangeSpec.witness6 (enc := enc) (C := Try.checked) false ⟨#[], #[.slice none 0 0, .agg (nodeC ⟨⟨0, idZero, 0⟩, 0, 0, false⟩)], []⟩ 8 (by kernel_rfl) (by kernel_rfl) (by kernel_rfl) (by kernel_rfl)) ?_
  intro W base args ds gs before hval0 hW _ hsize _
  have hval : ∀ (j : Nat) t v, Try.f6.params[j]? = some t → args[j]? = some v → Value.okWide Try.prog W .any base t v := hval0
  have hW' := hW
  obtain ⟨p, q, hA0, hV, rfl, hfz, hnd⟩ := hW
  have hA : DataW.TrodAll enc Try.prog W 0 (fun _ => true) true Try.f6.params.toList args.toList ds p := hA0
  rw [Try.params6] at hA hval hsize
  obtain ⟨v0, vs0, d0, ds0, p0, q0, hargs, rfl, rfl, h0, r0⟩ := trodAll_cons hA
  obtain ⟨v1, vs1, d1, ds1, p1, q1, rfl, rfl, rfl, h1, r1⟩ := trodAll_cons r0
  obtain ⟨rfl, rfl, rfl⟩ := trodAll_nil r1
  obtain rfl : args = #[v0, v1] := by cases args; simp_all
  obtain ⟨rfl, rfl⟩ := trodVars_none hV
  obtain ⟨a0, n0, c0, rfl⟩ := okWide_slice Try.underlying22 (hval 0 22 v0 rfl rfl)
  have lt0 := lt_of_trod h0
  obtain ⟨l0, hb0⟩ := open_nodes h0
  obtain ⟨cs, rfl⟩ : ∃ cs, v1 = .agg cs := by
    have h := hval 1 43 v1 rfl rfl
    simp only [Value.okWide, Try.underlying43] at h
    obtain ⟨cs, h1, _⟩ := h
    exact ⟨cs, h1⟩
  have lt1 := lt_of_trod h1
  obtain ⟨X, hX, hcs⟩ : ∃ X : NodeV, NdOk X ∧ cs = nodeC X := by
    obtain ⟨fuel, hf⟩ := h1
    obtain ⟨y, hy, h2⟩ := node_cells hf
    exact ⟨y, hy, by rw [← Array.toList_inj]; exact h2⟩
  subst hcs
  have hb := (Below.refl W.heap.size W).alloc (Nat.le_refl _) (.cells (nodeC X) 43)
  clear hA0 hval0
  refine (treeNext_any a0 n0 c0 l0 X hX W _ rfl (hb0.below hb)).mono fun e W' ⟨he, bel⟩ => ?_
  subst he
  exact ⟨_, rfl, _, _, _, [], _, [], hW', trodAll_mk1 (shut_bool Try.underlying4 _), (trodAll_cons_mk (Below.trod laidOut (by kernel_rfl) (of_decide_eq_true (by kernel_rfl)) h0 bel lt0) (trodAll_cons_mk (Below.trod laidOut (by kernel_rfl) (of_decide_eq_true (by kernel_rfl)) h1 bel lt1) trodAll_mk0)), rfl, bel.frame _, fun h => by cases h⟩

theorem over : Rows.treeNextRow.holds Try.pinned (OpenSpec.ofChange Rows.treeNextSpec) :=
  OpenClaim.holds_of_wide 6 Try.f6 rfl rfl rfl rfl rfl rfl rfl ⟨rfl, rfl, rfl, rfl, rfl⟩ rfl rfl rfl rfl rfl (by kernel_rfl) Try.func6 (by kernel_rfl)
    (of_decide_eq_true (by kernel_rfl)) (by unfold Func.isWrapper; first | (rw [if_pos (by decide +kernel)]; kernel_rfl) | (rw [if_neg (by decide +kernel)]; exact ⟨rfl, rfl⟩))
    (fun os started H enc _ => lifted os started H enc)

theorem proved : Rows.TreeNextSaid := over
#print axioms proved
end Go.Proofs.Ytmenhbdapikpeaa.treeNext
