/-
  Ints as a kind of elements.
-/
import Derived.Test.YtheigemfbcgjcaaDlMap
import Derived.Test.YtheigemfbcgjcaaSliceG
namespace Go.Proofs.Ytheigemfbcgjcaa
open Go.RowKit

abbrev INTf : TypeId := 3
def iwK : Kind Nat := ⟨fun x => [.int .i64 (x : Nat)], 1, fun _ => True, by decide, fun _ _ => rfl, fun x _ v hv => by
  simp only [List.mem_cons, List.not_mem_nil, or_false] at hv; subst hv; rfl⟩
theorem infoIf : (Try.prog.info? INTf).map (fun i => (i.zero, i.size, i.bytes)) = some (some (.int .i64 0), 1, 8) := by kernel_rfl
theorem IntsAt.toG {w : World} {g n : Nat} {L : List Nat} (h : IntsAt w g n L) (hn : n ≤ 1000000) : AtG iwK w (some ⟨g, 0, none⟩) n n L := by
  refine ⟨h.1, Nat.le_refl _, by omega, fun _ _ => trivial, .inr ⟨g, 0, rfl, fun j hj i v hv => ?_⟩⟩
  obtain rfl : i = 0 := by
    have h := (List.getElem?_eq_some_iff.1 hv).1
    simp [iwK] at h; exact h
  have e := (h.2.2 j hj).1
  simp [iwK] at hv
  show w.cell? ⟨g, 0 + j * 1 + 0, none⟩ = some v
  rw [Nat.mul_one, Nat.add_zero, Nat.zero_add, e, ← hv]
  rfl
theorem flat_iw (l : List Nat) : flatG iwK l = l.map N := by
  induction l with
  | nil => rfl
  | cons x l ih => show Value.int .i64 (x : Nat) :: flatG iwK l = _; rw [ih]; rfl
theorem OwnG.ints {w : World} {base n c : Nat} {a : Option Addr} {L : List Nat} (h : OwnG iwK INTf w base (.slice a n c) L) (hn : 0 < n) : ∃ g, a = some ⟨g, 0, none⟩ ∧ base ≤ g ∧ IntsAt w g n L := by
  have h1 : Own1 N 3 w base (.slice a n c) L := by
    have := h.1
    rw [flat_iw] at this
    exact this
  obtain ⟨g, rfl, hb, hl, hlen, hf⟩ := h1.row hn
  refine ⟨g, rfl, hb, hlen, hl, fun j hj => ⟨?_, hf j⟩⟩
  have := h1.at1.cell j hj
  rwa [Nat.zero_add] at this
end Go.Proofs.Ytheigemfbcgjcaa
