/-
  The walk of the law OrderFinds.
-/
import Derived.Test.YtiakbbokmllcdaaOrdAwake
namespace Go.Proofs.Ytiakbbokmllcdaa
open Go.RowKit

theorem find_at (a : Option Addr) (n c : Nat) (l : List (List UInt8)) (x : List UInt8) (z : Int) (b : Bool) (w : World) (ha : IdsAt w a n c l) (hx : x.length = 32) (hn : n ≤ 1000000000) (hz : z = ((findF l x).1 : Int) ∧ b = (findF l x).2) :
    Calls Try.prog 27 #[.slice a n c, .agg (idCells x)] w fun e w' => e = .returned (.tuple #[.int .i64 z, .bool b]) ∧ Below w.heap.size w w' := by
  obtain ⟨rfl, rfl⟩ := hz
  exact find_any a n c l x w ha hx (by omega)
theorem refFind_at (a : Option Addr) (n c : Nat) (l : List (List UInt8)) (x : List UInt8) (z : Int) (b : Bool) (w : World) (ha : IdsAt w a n c l) (hx : x.length = 32) (hn : n ≤ 1000000000) (hz : z = ((findF l x).1 : Int) ∧ b = (findF l x).2) :
    Calls Try.prog 28 #[.slice a n c, .agg (idCells x)] w fun e w' => e = .returned (.tuple #[.int .i64 z, .bool b]) ∧ Below w.heap.size w w' := by
  obtain ⟨rfl, rfl⟩ := hz
  exact refFind_any a n c l x w ha hx (by omega)
theorem copy_at (a : Option Addr) (n c : Nat) (l : List (List UInt8)) (w : World) (hb : IdsAt w a n c l) (hl : n ≤ 1000000000) :
    Calls Try.prog 18 #[.slice a n c] w fun e w' => ∃ a1 c1, e = .returned (.slice a1 n c1) ∧ IdsAt w' a1 n c1 l ∧ Below w.heap.size w w' := by
  have hn := hb.1
  refine (copy_any a n c l w hb hl).mono ?_
  rintro e w' ⟨a1, n1, c1, rfl, ho, hbb⟩
  obtain ⟨a2, c2, hv, hi⟩ := ho.ids
  simp only [Value.slice.injEq] at hv
  obtain ⟨rfl, rfl, rfl⟩ := hv
  subst hn
  exact ⟨a1, c1, rfl, hi, hbb⟩

set_option maxRecDepth 100000 in
set_option maxHeartbeats 2000000 in
theorem finds_any (a : Option Addr) (n c : Nat) (l : List (List UInt8)) (x : List UInt8) (w : World) (ha : IdsAt w a n c l) (hx : x.length = 32) :
    Calls Try.prog 6 #[.slice a n c, .agg (idCells x)] w fun e w' => e = .returned (.bool true) ∧ Below w.heap.size w w' := by
  have hbel : Below w.heap.size w (w.alloc (.cells (idCells x) 23)) := (Below.refl _ _).alloc (Nat.le_refl _) _
  have HA := Lib.hid (ha.below hbel)
  have HX := Lib.hid (idAt_new w x hx)
  have HBL := Lib.hid hbel
  have HXL := Lib.hid hx
  obtain ⟨z, b, hz⟩ : ∃ (z : Int) (b : Bool), z = ((findF l x).1 : Int) ∧ b = (findF l x).2 := ⟨_, _, rfl, rfl⟩
  have HZ := Lib.hid hz
  have hu := Try.underlying23
  have hi1 : (Try.prog.info? 23).map (·.size) = some (x.map B).length := by rw [List.length_map, hx]; exact info_id
  by_cases hn : (n : Int) ≤ 300
  · have HN := Lib.hid (show n ≤ 1000000000 by omega)
    clear ha hx hbel hz
    go_enter Try.func6, Try.ntmps6
    go_wp2
    generalize hg : w.heap.size = gx at HX ⊢
    have HG := Lib.hid hg
    clear hg
    generalize w.alloc (.cells (idCells x) 23) = W0 at HA HX HBL ⊢
    have hS0 : Below W0.heap.size W0 W0.drew := (Below.refl _ _).drew
    have HCP := Lib.hid (copy_at a n c l W0.drew (HA.out.below hS0) HN.out)
    refine wp_region_held_drew (S := fun W => Below W0.heap.size W0 W) (by kernel_rfl) hS0 (fun hHeld => ?_)
    refine wpAnyH_take (i := 0) (oi := ⟨some 13, .move (.tmp 0), _, _, _, _⟩) (v := (.slice a n c)) rfl (by kernel_rfl) (by kernel_rfl) (by kernel_rfl) (fun _ _ _ h => h) (Or.inl ⟨by rfl, fun W hW => by go_simp⟩) (by assumption) ?_
    simp only [Act.put, List.setIfInBounds_toArray, List.set_cons_zero, List.set_cons_succ]
    refine wpAnyH_take (i := 2) (oi := ⟨some 15, .load 23 (.tmp 3), _, _, _, _⟩) (v := _) rfl (by kernel_rfl) (by kernel_rfl) (by kernel_rfl) (fun _ _ _ h => h) (yieldsIf_load_mid (by rfl) _ _ rfl _ _ rfl _ _ (fun W hW => (HX.out.below hW).range) hu rfl hi1) (by assumption) ?_
    simp only [Act.put, List.setIfInBounds_toArray, List.set_cons_zero, List.set_cons_succ]
    refine wpAnyH_ready (rs := [1]) (by kernel_rfl) (by simp) ?_
    refine AllReadyH.cons (o := ⟨some 14, .call { callee := .value (.func 18), args := #[.tmp 13], argTypes := #[30] }, _, _, _, _⟩) rfl (fun K hK => ?_) AllReadyH.nil
    go_simp
    go_wp2_with (go_at_call 18; go_must (refine (HCP.out).mono ?_); rintro e w1 ⟨a1, c1, rfl, ho1, hb1⟩; have hS1 := hS0.trans (hb1.mono hS0.size); have HF := Lib.hid (find_at a1 n c1 l x z b w1 ho1 HXL.out HN.out HZ.out))
    refine hK.out _ _ hS1 (fun hHeld => ?_)
    clear hK K
    refine wpAnyH_ready (rs := [3]) (by kernel_rfl) (by simp) ?_
    refine AllReadyH.cons (o := ⟨some 16, .call { callee := .value (.func 27), args := #[.tmp 14, .tmp 15], argTypes := #[30, 23] }, _, _, _, _⟩) rfl (fun K hK => ?_) AllReadyH.nil
    go_simp
    go_wp2_with (go_at_call 27; go_must (refine HF.out.mono ?_); rintro e w2 ⟨rfl, hb2⟩; have hS2 := hS1.trans (hb2.mono hS1.size))
    refine hK.out _ _ hS2 (fun hHeld => ?_)
    clear hK K
    refine wpAnyH_take (i := 4) (oi := ⟨some 12, .move (.tmp 16), _, _, _, _⟩) (v := (.tuple #[.int .i64 z, .bool b])) rfl (by kernel_rfl) (by kernel_rfl) (by kernel_rfl) (fun _ _ _ h => h) (Or.inl ⟨by rfl, fun W hW => by go_simp⟩) (by assumption) ?_
    simp only [Act.put, List.setIfInBounds_toArray, List.set_cons_zero, List.set_cons_succ]
    refine wpAnyH_take (i := 5) (oi := ⟨some 17, .extract (.tmp 12) 0, _, _, _, _⟩) (v := (.int .i64 z)) rfl (by kernel_rfl) (by kernel_rfl) (by kernel_rfl) (fun _ _ _ h => h) (Or.inl ⟨by rfl, fun W hW => by go_simp⟩) (by assumption) ?_
    simp only [Act.put, List.setIfInBounds_toArray, List.set_cons_zero, List.set_cons_succ]
    refine wpAnyH_take (i := 6) (oi := ⟨some 18, .extract (.tmp 12) 1, _, _, _, _⟩) (v := (.bool b)) rfl (by kernel_rfl) (by kernel_rfl) (by kernel_rfl) (fun _ _ _ h => h) (Or.inl ⟨by rfl, fun W hW => by go_simp⟩) (by assumption) ?_
    simp only [Act.put, List.setIfInBounds_toArray, List.set_cons_zero, List.set_cons_succ]
    refine wpAnyH_take (i := 7) (oi := ⟨some 5, .assign (.tmp 17), _, _, _, _⟩) (v := (.int .i64 z)) rfl (by kernel_rfl) (by kernel_rfl) (by kernel_rfl) (fun _ _ _ h => h) (Or.inl ⟨by rfl, fun W hW => by go_simp⟩) (by assumption) ?_
    simp only [Act.put, List.setIfInBounds_toArray, List.set_cons_zero, List.set_cons_succ]
    refine wpAnyH_take (i := 8) (oi := ⟨some 6, .assign (.tmp 18), _, _, _, _⟩) (v := (.bool b)) rfl (by kernel_rfl) (by kernel_rfl) (by kernel_rfl) (fun _ _ _ h => h) (Or.inl ⟨by rfl, fun W hW => by go_simp⟩) (by assumption) ?_
    simp only [Act.put, List.setIfInBounds_toArray, List.set_cons_zero, List.set_cons_succ]
    refine wpAnyH_done (by kernel_rfl) ?_ _
    have HXG := Lib.hid (HX.out.below hS2)
    have HRF := Lib.hid (refFind_at a n c l x z b w2 (HA.out.below hS2) HXL.out HN.out HZ.out)
    go_wp2_with (first
      | (with_reducible show wpList _ _ _ (⟨some 21, _, _, _, _, _⟩ :: _) _ _; refine load_id rfl (.tmp 3) rfl gx x rfl HXG.out ?_)
      | (go_at_call 28; go_must (refine HRF.out.mono ?_); rintro e w3 ⟨rfl, hb3⟩)
      | (go_at_call 15; go_must (refine (awake_any _).mono ?_); rintro e w4 ⟨rfl, hb4⟩))
    go_ret
    have hS3 := hS2.trans (hb3.mono hS2.size)
    have hS4 := hS3.trans (hb4.mono hS3.size)
    exact ⟨rfl, HBL.out.trans (hS4.mono HBL.out.size)⟩
  · clear ha hx hbel hz
    go_enter Try.func6, Try.ntmps6
    go_wp2
    go_ret
    exact ⟨rfl, HBL.out⟩
#print axioms finds_any
end Go.Proofs.Ytiakbbokmllcdaa
