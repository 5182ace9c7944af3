/-
  Some of a list's elements at other places: their ways, their order, their text; a list turned round.
-/
import Derived.Test.YtmenhbdapikpeaaTreeBlk
namespace Go.Proofs.Ytmenhbdapikpeaa
open Go.RowKit

/-- One list's elements are some of another's, at other places. -/
structure SubT (L M : List NodeV) (g : Nat → Nat) : Prop where
  lt : ∀ j, j < M.length → g j < L.length
  inj : ∀ i j, i < M.length → j < M.length → g i = g j → i = j
  key : ∀ j, j < M.length → (nd M j).k = (nd L (g j)).k
  par : ∀ j, j < M.length → ((nd M j).p = -1 ∧ (nd L (g j)).p = -1) ∨ ∃ i : Nat, i < M.length ∧ (nd M j).p = (i : Int) ∧ (nd L (g j)).p = ((g i : Nat) : Int)
section
variable {L M : List NodeV} {g : Nat → Nat}
theorem SubT.tree (h : SubT L M g) (hT : TreeP L) : TreeP M := by
  refine ⟨fun j hj => ?_, fun i j hi hj e => ?_⟩
  · rcases h.par j hj with ⟨h1, _⟩ | ⟨i, hi, h1, h2⟩
    · exact .inl h1
    · refine .inr ⟨i, h1, hi, ?_⟩
      rcases hT.par (g j) (h.lt j hj) with h3 | ⟨k, h3, h4, h5⟩
      · rw [h2] at h3; omega
      · have : k = g i := by rw [h2] at h3; omega
        subst this
        rw [h.key i hi, h.key j hj]; exact h5
  · rw [h.key i hi, h.key j hj] at e
    exact h.inj i j hi hj (hT.key _ _ (h.lt i hi) (h.lt j hj) e)
theorem SubT.way (h : SubT L M g) (hT : TreeP L) : ∀ j, j < M.length → wayK M j = wayK L (g j) := by
  have hM := h.tree hT
  refine way_ind hM (fun j hj ih => ?_)
  unfold wayK at *
  rw [wayI_step hM hj, wayI_step hT (h.lt j hj), kys_app, kys_app]
  have e : kys M [j] = kys L [g j] := by simp [kys, h.key j hj]
  rw [e]
  congr 1
  rcases h.par j hj with ⟨h1, h2⟩ | ⟨i, hi, h1, h2⟩
  · rw [h1, h2]; rfl
  · rw [h1, h2, wayQ_nat, wayQ_nat]
    exact ih i h1 hi
theorem SubT.cmp (h : SubT L M g) (hT : TreeP L) {i j : Nat} (hi : i < M.length) (hj : j < M.length) : cmpT M i j = cmpT L (g i) (g j) := by
  unfold cmpT
  rw [h.way hT i hi, h.way hT j hj]
theorem SubT.ord (h : SubT L M g) (hT : TreeP L) {m : List Nat} (hm : OrdT M m) : (m.map g).Pairwise fun a b => cmpT L a b < 0 := by
  rw [List.pairwise_map]
  refine (List.Pairwise.and_mem.1 hm.1).imp (fun {a b} h2 => ?_)
  obtain ⟨ha, hb, hc⟩ := h2
  rw [← h.cmp hT ((hm.2 a).1 ha) ((hm.2 b).1 hb)]
  exact hc
theorem sub_live (h : ∀ j, j < M.length → (nd M j).r = (nd L (g j)).r ∧ (nd M j).d = (nd L (g j)).d) : ∀ m : List Nat, (∀ j ∈ m, j < M.length) → liveT M m = liveT L (m.map g)
  | [], _ => rfl
  | x :: r, hm => by
    have ih := sub_live h r (fun j hj => hm j (List.mem_cons_of_mem _ hj))
    obtain ⟨h1, h2⟩ := h x (hm x (List.mem_cons_self ..))
    unfold liveT at *
    rw [List.map_cons, List.flatMap_cons, List.flatMap_cons, ih, h1, h2]
end

/-- An element of the list turned round. -/
def turnN (n : Nat) (x : NodeV) : NodeV := if 0 ≤ x.p ∧ x.p < (n : Int) then ⟨x.k, (n : Int) - 1 - x.p, x.r, x.d⟩ else x
theorem turnN_in {n : Nat} {x : NodeV} (h : 0 ≤ x.p ∧ x.p < (n : Int)) : turnN n x = ⟨x.k, (n : Int) - 1 - x.p, x.r, x.d⟩ := if_pos h
theorem turnN_out {n : Nat} {x : NodeV} (h : ¬ (0 ≤ x.p ∧ x.p < (n : Int))) : turnN n x = x := if_neg h
theorem turnN_same (n : Nat) (x : NodeV) : (turnN n x).k = x.k ∧ (turnN n x).r = x.r ∧ (turnN n x).d = x.d := by
  unfold turnN
  split <;> exact ⟨rfl, rfl, rfl⟩
theorem turnN_turnN (n : Nat) (x : NodeV) : turnN n (turnN n x) = x := by
  by_cases h : 0 ≤ x.p ∧ x.p < (n : Int)
  · rw [turnN_in h, turnN_in (by simp only; omega)]
    obtain ⟨k, p, r, d⟩ := x
    simp only [NodeV.mk.injEq, true_and, and_true]
    omega
  · rw [turnN_out h, turnN_out h]
/-- The list turned round. -/
def turnL (L : List NodeV) : List NodeV := (L.map (turnN L.length)).reverse
theorem turnL_length (L : List NodeV) : (turnL L).length = L.length := by simp [turnL]
theorem nd_turnL {L : List NodeV} {i : Nat} (hi : i < L.length) : nd (turnL L) i = turnN L.length (nd L (L.length - 1 - i)) := by
  have h2 : L.length - 1 - i < L.length := by omega
  unfold nd turnL
  simp [List.getD, hi, h2]
theorem turnL_turnL (L : List NodeV) : turnL (turnL L) = L := by
  have e : (turnN L.length ∘ turnN L.length) = id := funext (fun x => turnN_turnN _ x)
  show (((turnL L).map (turnN (turnL L).length))).reverse = L
  rw [turnL_length]
  unfold turnL
  rw [List.map_reverse, List.reverse_reverse, List.map_map, e, List.map_id]
theorem sub_turn {L : List NodeV} (hT : TreeP L) : SubT L (turnL L) (fun i => L.length - 1 - i) := by
  refine ⟨fun j hj => ?_, fun i j hi hj e => ?_, fun j hj => ?_, fun j hj => ?_⟩
  · rw [turnL_length] at hj; omega
  · rw [turnL_length] at hi hj; omega
  · rw [turnL_length] at hj
    rw [nd_turnL hj, (turnN_same _ _).1]
  · rw [turnL_length] at hj ⊢
    rw [nd_turnL hj]
    rcases hT.par (L.length - 1 - j) (by omega) with h | ⟨k, h, hk, _⟩
    · refine .inl ⟨?_, h⟩
      rw [turnN_out (by rw [h]; omega), h]
    · refine .inr ⟨L.length - 1 - k, by omega, ?_, ?_⟩
      · rw [turnN_in (by rw [h]; omega)]
        simp only [h]
        omega
      · rw [h]; omega
theorem right_turn {L : List NodeV} (h : RightT L) : RightT (turnL L) := by
  refine ⟨fun i hi => ?_, (sub_turn h.2).tree h.2⟩
  rw [turnL_length] at hi
  rw [nd_turnL hi, (turnN_same _ _).2.1]
  exact h.1 _ (by omega)
theorem right_turn_iff (L : List NodeV) : RightT (turnL L) ↔ RightT L := ⟨fun h => by rw [← turnL_turnL L]; exact right_turn h, right_turn⟩
theorem text_turn {L : List NodeV} (hT : TreeP L) {l m : List Nat} (hl : OrdT L l) (hm : OrdT (turnL L) m) : textT (turnL L) m = textT L l := by
  have h1 : m.map (fun i => L.length - 1 - i) = l := sorted_unique ((sub_turn hT).ord hT hm) hl.1 (fun i => by
    rw [hl.2 i, List.mem_map]
    constructor
    · rintro ⟨a, ha, rfl⟩
      have := (hm.2 a).1 ha
      rw [turnL_length] at this
      omega
    · intro hi
      exact ⟨L.length - 1 - i, (hm.2 _).2 (by rw [turnL_length]; omega), by omega⟩)
  unfold textT
  rw [sub_live (g := fun i => L.length - 1 - i) (L := L) (fun j hj => ?_) m (fun j hj => (hm.2 j).1 hj), h1]
  rw [turnL_length] at hj
  rw [nd_turnL hj]
  exact (turnN_same _ _).2
theorem turn_ok {n : Nat} {x : NodeV} (h : NdOk x) : NdOk (turnN n x) := by
  have e := (turnN_same n x).1
  unfold NdOk
  rw [e]
  exact h
theorem turnL_ok {L : List NodeV} (h : ∀ x ∈ L, NdOk x) : ∀ x ∈ turnL L, NdOk x := fun x hx => by
  obtain ⟨y, hy, rfl⟩ := List.mem_map.1 (List.mem_reverse.1 hx)
  exact turn_ok (h y hy)
theorem NodeAt.setPar {w : World} {g : Nat} {x : NodeV} (h : NodeAt w g x) (z : Int) : NodeAt (w.setCell ⟨g, 34, none⟩ (.int .i64 z)) g ⟨x.k, z, x.r, x.d⟩ := by
  refine ⟨h.1, ?_⟩
  rw [heap_setCell_same w g 34 (nodeC x) 44 (.int .i64 z) h.2]
  congr 2
  obtain ⟨⟨t, c, i⟩, p, r, d⟩ := x
  obtain ⟨b0, b1, b2, b3, b4, b5, b6, b7, b8, b9, b10, b11, b12, b13, b14, b15, b16, b17, b18, b19, b20, b21, b22, b23, b24, b25, b26, b27, b28, b29, b30, b31, rfl⟩ := list32 h.1.1
  rfl
#print axioms text_turn
#print axioms NodeAt.setPar
end Go.Proofs.Ytmenhbdapikpeaa
