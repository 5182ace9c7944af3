/-
  The sorter in memory; the walk of part.
-/
import Derived.Test.YtheigemfbcgjcaaDlCmp
import Derived.Maps.AppendAt
namespace Go.Proofs.Ytheigemfbcgjcaa
open Go.RowKit Go.Sort Go.Lib

/-- A sorter: its places, how far it knows, the ranks, the room. -/
structure Srt (w : World) (gs gp gr gm n : Nat) (P : List Nat) (K : Nat) (R M : List Nat) : Prop where
  c0 : w.cell? ⟨gs, 0, none⟩ = some (pS gp n)
  c1 : w.cell? ⟨gs, 1, none⟩ = some (.int .i64 (K : Nat))
  c2 : w.cell? ⟨gs, 2, none⟩ = some (pS gr n)
  c3 : w.cell? ⟨gs, 3, none⟩ = some (pS gm n)
  free : ∀ j, w.frozen? ⟨gs, j, none⟩ = false
  pl : IntsAt w gp n P
  rk : IntsAt w gr n R
  rm : IntsAt w gm n M
  ne : gs ≠ gp ∧ gs ≠ gr ∧ gs ≠ gm ∧ gp ≠ gr ∧ gp ≠ gm ∧ gr ≠ gm
section
variable {w w' : World} {gs gp gr gm n K : Nat} {P R M : List Nat}
theorem Srt.lt (h : Srt w gs gp gr gm n P K R M) : gs < w.heap.size := World.block_lt_of_cell? _ _ h.c0
theorem Srt.keep (h : Srt w gs gp gr gm n P K R M) (hs : w.heap.size ≤ w'.heap.size) (hk : ∀ k, k < w.heap.size → w'.heap[k]? = w.heap[k]?) : Srt w' gs gp gr gm n P K R M := by
  have e : ∀ j, w'.cell? ⟨gs, j, none⟩ = w.cell? ⟨gs, j, none⟩ := fun j => World.cell?_of_block (a := ⟨gs, j, none⟩) (hk gs h.lt)
  exact ⟨by rw [e]; exact h.c0, by rw [e]; exact h.c1, by rw [e]; exact h.c2, by rw [e]; exact h.c3, fun j => by rw [World.frozen?_of_block (a := ⟨gs, j, none⟩) (hk gs h.lt)]; exact h.free j,
    h.pl.block (hk gp h.pl.2.1) hs, h.rk.block (hk gr h.rk.2.1) hs, h.rm.block (hk gm h.rm.2.1) hs, h.ne⟩
theorem Srt.below (h : Srt w gs gp gr gm n P K R M) (hb : Below w.heap.size w w') : Srt w' gs gp gr gm n P K R M := h.keep hb.size hb.block
theorem Srt.sorted {P' : List Nat} (h : Srt w gs gp gr gm n P K R M) (hg : w.grownBy w' (some gp)) (hp : IntsAt w' gp n P') : Srt w' gs gp gr gm n P' K R M := by
  have hk : w'.heap[gs]? = w.heap[gs]? := hg.block gs h.lt (fun e => h.ne.1 (Option.some.inj e))
  have e : ∀ j, w'.cell? ⟨gs, j, none⟩ = w.cell? ⟨gs, j, none⟩ := fun j => World.cell?_of_block (a := ⟨gs, j, none⟩) hk
  exact ⟨by rw [e]; exact h.c0, by rw [e]; exact h.c1, by rw [e]; exact h.c2, by rw [e]; exact h.c3, fun j => by rw [World.frozen?_of_block (a := ⟨gs, j, none⟩) hk]; exact h.free j,
    hp, h.rk.grown hg (fun e => h.ne.2.2.2.1 (Option.some.inj e).symm), h.rm.grown hg (fun e => h.ne.2.2.2.2.1 (Option.some.inj e).symm), h.ne⟩
end
theorem take_drop_eq {P P0 : List Nat} {f t : Nat} (h : P.drop f = P0.drop f) : (P.take t).drop f = (P0.take t).drop f := by rw [List.drop_take, List.drop_take, h]
theorem getD_drop_eq {P P0 : List Nat} {f i : Nat} (h : P.drop f = P0.drop f) (hi : f ≤ i) : P.getD i 0 = P0.getD i 0 := by
  have := congrArg (fun l => l.getD (i - f) 0) h
  simpa [List.getD_eq_getElem?_getD, List.getElem?_drop, show f + (i - f) = i from by omega] using this
theorem PartInv.sorted {b : List UInt8} {K : Nat} {P0 P P' R : List Nat} {f t : Nat} {met : Bool} (h : PartInv b K P0 f P met) (hs : P0.Pairwise (leK b K)) (hR : RankOk b K R) (hK : 1 ≤ K) (hg : Grp b K P0 f t)
    (hend : t = P0.length ∨ keyB b K (P0.getD t 0) ≠ keyB b K (P0.getD f 0)) (h1 : P'.take f = P.take f) (h2 : P'.drop t = P.drop t) (h3 : ((P'.take t).drop f).Perm ((P.take t).drop f))
    (h4 : ((P'.take t).drop f).Pairwise (fun x y => ¬ sgnF (behF b K R y) (behF b K R x) < 0)) (met' : Bool) (hm : met' = (met || decide (1 < t - f))) : PartInv b K P0 t P' met' := by
  rw [take_drop_eq h.rest] at h3
  refine h.next hs hg hend h1 h2 h3 ?_ hm
  have hkey : ∀ x ∈ (P'.take t).drop f, keyB b K x = keyB b K (P0.getD f 0) := fun x hx => by
    obtain ⟨i, hi, rfl⟩ := List.mem_iff_getElem.1 (h3.mem_iff.1 hx)
    simp only [List.length_drop, List.length_take] at hi
    have := hg.same (f + i) (by omega) (by omega)
    rw [List.getElem_drop, List.getElem_take]
    rwa [List.getD_eq_getElem?_getD, List.getElem?_eq_getElem (by omega)] at this
  refine (List.Pairwise.and_mem.1 h4).imp (fun {x y} hh => ?_)
  obtain ⟨hx, hy, hl⟩ := hh
  unfold leK
  rw [key_twice ((hkey x hx).trans (hkey y hy).symm)]
  rw [sgn_lt, beh_lt hR hK] at hl
  have := cmpB_swap (keyB b K (x + K)) (keyB b K (y + K))
  omega
theorem PartInv.single {b : List UInt8} {K : Nat} {P0 P R : List Nat} {f : Nat} {met : Bool} (h : PartInv b K P0 f P met) (hs : P0.Pairwise (leK b K)) (hR : RankOk b K R) (hK : 1 ≤ K) (hg : Grp b K P0 f (f + 1))
    (hend : f + 1 = P0.length ∨ keyB b K (P0.getD (f + 1) 0) ≠ keyB b K (P0.getD f 0)) : PartInv b K P0 (f + 1) P met := by
  refine h.sorted hs hR hK hg hend rfl rfl (List.Perm.refl _) ?_ met (by rw [show f + 1 - f = 1 from by omega]; simp)
  have hl : ((P.take (f + 1)).drop f).length ≤ 1 := by rw [List.length_drop, List.length_take]; omega
  match hq : (P.take (f + 1)).drop f, hl with
  | [], _ => exact List.Pairwise.nil
  | [x], _ => exact List.pairwise_singleton _ _
  | x :: y :: l, hl => simp at hl
theorem swo_beh (b : List UInt8) (K : Nat) (R : List Nat) (m : Nat) : SWO (ltOf fun x y : Fin m => sgnF (behF b K R x.val) (behF b K R y.val)) where
  irrefl x := by unfold ltOf; rw [decide_eq_false_iff_not, sgn_lt]; omega
  trans x y z h1 h2 := by unfold ltOf at *; rw [decide_eq_true_iff, sgn_lt] at *; omega
  ntrans x y z h1 h2 := by unfold ltOf at *; rw [decide_eq_false_iff_not, sgn_lt] at *; omega
/-- What part does to a sorter. -/
def PartIs (b : List UInt8) (gs gp gr gm n K : Nat) (P0 R M : List Nat) (w : World) (e : Ending) (w' : World) : Prop :=
  ∃ met P, e = .returned (.bool met) ∧ PartInv b K P0 P0.length P met ∧ (met = true → K < n) ∧ Srt w' gs gp gr gm n P K R M ∧ w.grownBy w' (some gp)
theorem part_sorts (gx gs gp gr gm n f t K : Nat) (b : List UInt8) (P R M : List Nat) (w : World) (h : Srt w gs gp gr gm n P K R M) (c0 : w.cell? ⟨gx, 0, none⟩ = some (.pointer (some ⟨gs, 0, none⟩))) (hx : gx ≠ gp) (hb : b.length = n) (hm : ∀ x ∈ P, x < n)
    (hft : f < t) (ht : t ≤ n) (hn : n ≤ 1000000) (hK : K ≤ 2000000) :
    Calls Try.prog 42 #[.slice (some ⟨gp, f, none⟩) (t - f) (n - f), .func (.func 55) #[] #[.pointer (some ⟨gx, 0, none⟩)]] w fun e w' => e = .returned (.tuple #[]) ∧ ∃ L', IntsAt w' gp n L' ∧ L'.take f = P.take f ∧ L'.drop t = P.drop t ∧ ((L'.take t).drop f).Perm ((P.take t).drop f) ∧ ((L'.take t).drop f).Pairwise (fun x y => ¬ sgnF (behF b K R y) (behF b K R x) < 0) ∧ w.grownBy w' (some gp) := by
  refine ints_sort gp n f t (n - f) n P w h.pl (by omega) ht hn hm (by omega) _ _ (fun x y => sgnF (behF b K R x) (behF b K R y)) (swo_beh b K R n) (enters_of Try.func55 (by kernel_rfl) rfl) ?_
  intro W hk hs x y hx' hy'
  have gk := hk gs h.lt h.ne.1
  have gxk := hk gx (World.block_lt_of_cell? _ _ c0) hx
  refine (partc_any gx gs gr n x y K b R W (by rw [World.cell?_of_block (a := ⟨gx, 0, none⟩) gxk]; exact c0) hb (by rw [World.cell?_of_block (a := ⟨gs, 1, none⟩) gk]; exact h.c1) (by rw [World.cell?_of_block (a := ⟨gs, 2, none⟩) gk]; exact h.c2)
    (h.rk.block (hk gr h.rk.2.1 (fun e => h.ne.2.2.2.1 e.symm)) hs) hx' hy' hn hK).mono ?_
  rintro e w' ⟨rfl, q, rfl⟩
  exact ⟨rfl, q, #[], by rw [grow_empty]⟩
#print axioms part_sorts
end Go.Proofs.Ytheigemfbcgjcaa
