/-
  TreeParts: for every input the law returns true, and the input reads as before. No condition.
-/
import Derived.Test.YtmenhbdapikpeaaTreeLaws6
import Derived.Test.YtmenhbdapikpeaaTreeOpen
namespace Go.Proofs.Ytmenhbdapikpeaa.treeParts
open Go.ChangeShapes Go.WideShapes Go.ChangeAt Go.RowKit
open Go.ChangeMaps (open_string shut_string)

theorem open_bools {H : Type} {enc : TypeId × Value → H} {W : World} {a : Option Addr} {len cap : Nat} {d : DataW H} {p : List MemPlace}
    (h : DataW.Trod enc Try.prog W 0 (fun _ => true) true 37 (.slice a len cap) d p) : ∃ L, At1 Bl W a len cap L := by
  obtain ⟨fuel, hf⟩ := h
  have hc : Try.prog.cellsOf 4 = 1 := by kernel_rfl
  rcases Deep.open_slice Try.underlying37 hf with ⟨hcs, hx⟩ | ⟨x, l, c, m, n, D, Pl, hcs, _, hl, hm, hmm, hx, hel⟩
  · simp [Value.cells] at hcs
    obtain ⟨rfl, rfl, rfl⟩ := hcs
    exact ⟨[], At1.nil⟩
  · simp [Value.cells] at hcs
    obtain ⟨rfl, rfl, rfl⟩ := hcs
    simp only [ite_true] at hmm
    subst hmm
    rw [hc] at hel
    obtain ⟨F, hF⟩ := Deep.choose_lt (α := Nat) (p := fun i k => W.cells? 0 (x.add (i * 1)) 1 = some [Bl k]) (fun i hi => by
      obtain ⟨cs', h1, h2⟩ := hel i hi
      obtain ⟨b, h3, _⟩ := DataW.trod_bool Try.underlying4 h2
      refine ⟨if b = true then 1 else 0, ?_⟩
      rw [h1, h3]
      cases b <;> rfl)
    have hg : ∀ j, j < len → ((List.range len).map F).getD j 0 = F j := fun j hj => by simp [hj]
    refine ⟨(List.range len).map F, by simp, hl, by unfold maxLen at hm; omega, ?_⟩
    by_cases hc0 : m = 0
    · exact .inl ⟨by omega, hc0⟩
    · have hcell : ∀ i, i < m → W.cell? (x.add i) = some (Bl (F i)) := fun i hi => by
        obtain ⟨_, _, h3⟩ := World.cells?_some (hF i hi)
        have := h3 0 (by omega)
        rw [Deep.add_add, Nat.mul_one, Nat.add_zero] at this
        exact this
      have h1 := World.cell?_spot (hcell 0 (by omega))
      obtain ⟨b, off, spot⟩ := x
      have hspot : spot = none := by simpa [Addr.add] using h1
      subst hspot
      refine .inr ⟨b, off, rfl, fun j hj => ?_⟩
      have h2 := hcell j (by omega)
      rw [Addr.add_lit] at h2
      rw [h2, hg j hj]

set_option maxRecDepth 100000 in
theorem lifted (os : Os) (started : os.Started) (H : Type) (enc : TypeId × Value → H) :
    ReturnsInHanded {} Try.checked os 5 .any (Rows.treePartsSpec.pre6 enc Try.prog Try.f5 Rows.treePartsRow.domain false) (Rows.treePartsSpec.post enc Try.prog Try.f5 false true false false) := by
  refine returnsInHanded_of_change_sized (C := Try.checked) own started (by kernel_rfl) Try.func5
    (ChangeSpec.witness6 (enc := enc) (C := Try.checked) false ⟨#[], #[.slice none 0 0, .slice none 0 0], []⟩ 8 (by kernel_rfl) (by kernel_rfl) (by kernel_rfl) (by kernel_rfl)) ?_
  intro W base args ds gs before hval0 hW _ hsize _
  have hval : ∀ (j : Nat) t v, Try.f5.params[j]? = some t → args[j]? = some v → Value.okWide Try.prog W .any base t v := hval0
  have hW' := hW
  obtain ⟨p, q, hA0, hV, rfl, hfz, hnd⟩ := hW
  have hA : DataW.TrodAll enc Try.prog W 0 (fun _ => true) true Try.f5.params.toList args.toList ds p := hA0
  rw [Try.params5] at hA hval hsize
  obtain ⟨v0, vs0, d0, ds0, p0, q0, hargs, rfl, rfl, h0, r0⟩ := trodAll_cons hA
  obtain ⟨v1, vs1, d1, ds1, p1, q1, rfl, rfl, rfl, h1, r1⟩ := trodAll_cons r0
  obtain ⟨rfl, rfl, rfl⟩ := trodAll_nil r1
  obtain rfl : args = #[v0, v1] := by cases args; simp_all
  obtain ⟨rfl, rfl⟩ := trodVars_none hV
  obtain ⟨a0, n0, c0, rfl⟩ := okWide_slice Try.underlying22 (hval 0 22 v0 rfl rfl)
  have lt0 := lt_of_trod h0
  obtain ⟨l0, hb0⟩ := open_nodes h0
  obtain ⟨a1, n1, c1, rfl⟩ := okWide_slice Try.underlying37 (hval 1 37 v1 rfl rfl)
  have lt1 := lt_of_trod h1
  obtain ⟨l1, hb1⟩ := open_bools h1
  clear hA0 hval0
  refine (treeParts_any a0 n0 c0 l0 a1 n1 c1 l1 W hb0 hb1).mono fun e W' ⟨he, bel⟩ => ?_
  subst he
  exact ⟨_, rfl, _, _, _, [], _, [], hW', trodAll_mk1 (shut_bool Try.underlying4 _), (trodAll_cons_mk (Below.trod laidOut (by kernel_rfl) (of_decide_eq_true (by kernel_rfl)) h0 bel lt0) (trodAll_cons_mk (Below.trod laidOut (by kernel_rfl) (of_decide_eq_true (by kernel_rfl)) h1 bel lt1) trodAll_mk0)), rfl, bel.frame _, fun h => by cases h⟩

theorem over : Rows.treePartsRow.holds Try.pinned (OpenSpec.ofChange Rows.treePartsSpec) :=
  OpenClaim.holds_of_wide 5 Try.f5 rfl rfl rfl rfl rfl rfl rfl ⟨rfl, rfl, rfl, rfl, rfl⟩ rfl rfl rfl rfl rfl (by kernel_rfl) Try.func5 (by kernel_rfl)
    (of_decide_eq_true (by kernel_rfl)) (by unfold Func.isWrapper; first | (rw [if_pos (by decide +kernel)]; kernel_rfl) | (rw [if_neg (by decide +kernel)]; exact ⟨rfl, rfl⟩))
    (fun os started H enc _ => lifted os started H enc)

theorem proved : Rows.TreePartsSaid := over
#print axioms proved
end Go.Proofs.Ytmenhbdapikpeaa.treeParts
