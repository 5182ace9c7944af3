/-
  The law of the one order of three, walked.
-/
import Derived.Test.YtmenhbdapikpeaaTreeLaws1
namespace Go.Proofs.Ytmenhbdapikpeaa
open Go.RowKit

abbrev threeC (a : Option Addr) (n c : Nat) (x y z : Nat) : Array Value := #[.slice a n c, .int .u8 (x : Int), .int .u8 (y : Int), .int .u8 (z : Int)]
theorem box_three (w : World) (a : Option Addr) (n c : Nat) (x y z : Nat) (ty : TypeId) (W : World)
    (hb : Below (w.alloc (.cells (threeC a n c x y z) ty)).heap.size (w.alloc (.cells (threeC a n c x y z) ty)) W) :
    W.cell? ⟨w.heap.size, 0, none⟩ = some (.slice a n c) ∧ W.cell? ⟨w.heap.size, 1, none⟩ = some (.int .u8 (x : Int)) ∧ W.cell? ⟨w.heap.size, 2, none⟩ = some (.int .u8 (y : Int)) ∧ W.cell? ⟨w.heap.size, 3, none⟩ = some (.int .u8 (z : Int)) := by
  refine ⟨?_, ?_, ?_, ?_⟩ <;> (rw [hb.cell (by simp), World.cell?_alloc_new]; rfl)

set_option maxRecDepth 100000 in
set_option maxHeartbeats 8000000 in
theorem treeOne_any (a : Option Addr) (n c : Nat) (L : List NodeV) (x y z : Nat) (hxb : x ≤ 255) (hyb : y ≤ 255) (hzb : z ≤ 255) (w w0 : World) (hw0 : w0 = w.alloc (.cells (threeC a n c x y z) 51)) (h : NodesAt w0 a n c L) :
    Calls Try.prog 8 #[.agg (threeC a n c x y z)] w fun e w' => e = .returned (.bool true) ∧ Below w.heap.size w w' := by
  have HB0 := Lib.hid (show Below w.heap.size w w0 from hw0 ▸ (Below.refl w.heap.size w).alloc (Nat.le_refl _) _)
  have KC := Lib.hid (fun W (hb : Below w0.heap.size w0 W) => box_three w a n c x y z 51 W (hw0 ▸ hb))
  obtain ⟨k0, k1, k2, k3⟩ := KC.out w0 (Below.refl _ _)
  have hAl := hw0.symm
  have AW := Lib.hid (fun W => awake_any W)
  have HB := Lib.hid (Below.refl w0.heap.size w0)
  by_cases hn : (60 : Int) < (n : Int)
  · clear h hw0
    go_enter Try.func8, Try.ntmps8
    go_wp2_with (first
      | (go_at_call 11; (with_reducible refine (TO.out _ HB.out).mono ?_); rintro e W1 ⟨a1, c1, rfl, hnd, hb⟩; have HND := Lib.hid hnd; have HB := Lib.hid (HB.out.trans (hb.mono HB.out.size)); obtain ⟨k0, k1, k2, k3⟩ := KC.out W1 HB.out; clear hb hnd)
      | (go_at_call 10; (with_reducible refine (RR.out _ _ _ HND.out).mono ?_); rintro e W1 ⟨rfl, hb⟩; have HB := Lib.hid (HB.out.trans (hb.mono HB.out.size)); obtain ⟨k0, k1, k2, k3⟩ := KC.out W1 HB.out; clear hb)
      | (go_at_call 14; (with_reducible refine (AW.out _).mono ?_); rintro e W1 ⟨rfl, hb⟩; have HB := Lib.hid (HB.out.trans (hb.mono HB.out.size)); clear hb))
    go_ret
    exact ⟨rfl, HB0.out.trans (HB.out.mono HB0.out.size)⟩
  have hn1 : n ≤ 1000 := by omega
  by_cases h0 : n = 0
  · subst h0
    clear h hw0
    go_enter Try.func8, Try.ntmps8
    go_wp2_with (first
      | (go_at_call 11; (with_reducible refine (TO.out _ HB.out).mono ?_); rintro e W1 ⟨a1, c1, rfl, hnd, hb⟩; have HND := Lib.hid hnd; have HB := Lib.hid (HB.out.trans (hb.mono HB.out.size)); obtain ⟨k0, k1, k2, k3⟩ := KC.out W1 HB.out; clear hb hnd)
      | (go_at_call 10; (with_reducible refine (RR.out _ _ _ HND.out).mono ?_); rintro e W1 ⟨rfl, hb⟩; have HB := Lib.hid (HB.out.trans (hb.mono HB.out.size)); obtain ⟨k0, k1, k2, k3⟩ := KC.out W1 HB.out; clear hb)
      | (go_at_call 14; (with_reducible refine (AW.out _).mono ?_); rintro e W1 ⟨rfl, hb⟩; have HB := Lib.hid (HB.out.trans (hb.mono HB.out.size)); clear hb))
    go_ret
    exact ⟨rfl, HB0.out.trans (HB.out.mono HB0.out.size)⟩
  have TO := Lib.hid (told_in h hn1)
  have dn0 : ((n : Int) == 0) = false := by simp; omega
  by_cases hR : RightT L
  · have RR := Lib.hid (fun a c W (h : NodesAt W a n c L) => right_any a n c L W h hn1 true ⟨fun _ => hR, fun _ => rfl⟩)
    have HM := Lib.hid hn1
    have HL := Lib.hid h.1
    have HR := Lib.hid hR
    have hnI : (0 : Int) < (n : Int) := by omega
    have hx0 : (0 : Int) ≤ (x : Int) := by omega
    have hx1 : (x : Int) ≤ 255 := by omega
    have hy0 : (0 : Int) ≤ (y : Int) := by omega
    have hy1 : (y : Int) ≤ 255 := by omega
    have hz0 : (0 : Int) ≤ (z : Int) := by omega
    have hz1 : (z : Int) ≤ 255 := by omega
    have hnz : (n : Int) ≠ 0 := by omega
    have hn60 : (n : Int) ≤ 60 := by omega
    obtain ⟨X, hX⟩ : ∃ X, X = x % n := ⟨_, rfl⟩
    obtain ⟨Y, hY⟩ : ∃ Y, Y = y % n := ⟨_, rfl⟩
    obtain ⟨Z, hZ⟩ : ∃ Z, Z = z % n := ⟨_, rfl⟩
    have HXM := Lib.hid (show (x : Int) % (n : Int) = (X : Int) by omega)
    have HYM := Lib.hid (show (y : Int) % (n : Int) = (Y : Int) by omega)
    have HZM := Lib.hid (show (z : Int) % (n : Int) = (Z : Int) by omega)
    have HX := Lib.hid (show X < n by rw [hX]; exact Nat.mod_lt _ (by omega))
    have HY := Lib.hid (show Y < n by rw [hY]; exact Nat.mod_lt _ (by omega))
    have HZ := Lib.hid (show Z < n by rw [hZ]; exact Nat.mod_lt _ (by omega))
    clear hX hY hZ
    clear h hw0 hn1 hR h0 hxb hyb hzb
    go_enter Try.func8, Try.ntmps8
    go_wp2_with (first
      | (go_at_call 11; (with_reducible refine (TO.out _ HB.out).mono ?_); rintro e W1 ⟨a1, c1, rfl, hnd, hb⟩; have HND := Lib.hid hnd; have HB := Lib.hid (HB.out.trans (hb.mono HB.out.size)); obtain ⟨k0, k1, k2, k3⟩ := KC.out W1 HB.out; clear hb hnd)
      | (go_at_call 10; (with_reducible refine (RR.out _ _ _ HND.out).mono ?_); rintro e W1 ⟨rfl, hb⟩; have HB := Lib.hid (HB.out.trans (hb.mono HB.out.size)); obtain ⟨k0, k1, k2, k3⟩ := KC.out W1 HB.out; clear hb)
      | (go_at_call 14; (with_reducible refine (AW.out _).mono ?_); rintro e W1 ⟨rfl, hb⟩; have HB := Lib.hid (HB.out.trans (hb.mono HB.out.size)); clear hb))
    go_quiet (fail)
    have HB := Lib.hid (below_drewK HB.out nq)
    have HND := Lib.hid (HND.out.below (below_drewK (Below.refl W1.heap.size W1) nq))
    generalize W1.drewN nq = w9 at HB HND ⊢
    clear k0 k1 k2 k3
    rw [HXM.out, HYM.out, HZM.out]
    have HT := Lib.hid (Below.refl w9.heap.size w9)
    obtain ⟨z1, h1⟩ : ∃ z1, cmpT L X Y = z1 := ⟨_, rfl⟩
    obtain ⟨z2, h2⟩ : ∃ z2, cmpT L Y Z = z2 := ⟨_, rfl⟩
    obtain ⟨z3, h3⟩ : ∃ z3, cmpT L X Z = z3 := ⟨_, rfl⟩
    obtain ⟨z4, h4⟩ : ∃ z4, cmpT L Y X = z4 := ⟨_, rfl⟩
    have C1 := Lib.hid (fun W (hb : Below w9.heap.size w9 W) => compare_yes a1 n c1 L X Y W (HND.out.below hb) HM.out HR.out HX.out HY.out z1 h1)
    have C2 := Lib.hid (fun W (hb : Below w9.heap.size w9 W) => compare_yes a1 n c1 L Y Z W (HND.out.below hb) HM.out HR.out HY.out HZ.out z2 h2)
    have C3 := Lib.hid (fun W (hb : Below w9.heap.size w9 W) => compare_yes a1 n c1 L X Z W (HND.out.below hb) HM.out HR.out HX.out HZ.out z3 h3)
    have C4 := Lib.hid (fun W (hb : Below w9.heap.size w9 W) => compare_yes a1 n c1 L Y X W (HND.out.below hb) HM.out HR.out HY.out HX.out z4 h4)
    have A4 : z4 = -z1 := by rw [← h1, ← h4]; exact cmpT_anti L X Y
    have R1 : z1 = -1 ∨ z1 = 0 ∨ z1 = 1 := by rw [← h1]; exact wayF_range _ _
    have E1 : z1 = 0 → X = Y := fun h => cmpT_eq HR.out.2 (by rw [HL.out]; exact HX.out) (by rw [HL.out]; exact HY.out) (by rw [h1]; exact h)
    have E1' : X = Y → z1 = 0 := fun h => by rw [← h1, h]; exact wayF_self _
    have E2 : z2 = 0 → Y = Z := fun h => cmpT_eq HR.out.2 (by rw [HL.out]; exact HY.out) (by rw [HL.out]; exact HZ.out) (by rw [h2]; exact h)
    have T3 : z1 ≤ 0 → z2 ≤ 0 → z3 ≤ 0 := fun g1 g2 => by
      by_cases g : z1 = 0
      · rw [← h3, E1 g, h2]; exact g2
      by_cases g' : z2 = 0
      · rw [← h3, ← E2 g', h1]; exact g1
      have := cmpT_trans (L := L) (a := X) (b := Y) (c := Z) (by rw [h1]; omega) (by rw [h2]; omega)
      rw [h3] at this
      omega
    clear h1 h2 h3 h4
    rcases R1 with rfl | rfl | rfl
    · have hne : ((X : Int) == (Y : Int)) = false := by
        have : X ≠ Y := fun h => by have := E1' h; omega
        simp; omega
      obtain rfl : z4 = 1 := by omega
      by_cases g2 : 0 < z2
      · clear A4 E1 E1' E2 T3
        go_wp2_with (first
              | (go_at_call 18; (with_reducible refine (C1.out _ HT.out).mono ?_); rintro e W1 ⟨rfl, hb⟩; have HT := Lib.hid (HT.out.trans (hb.mono HT.out.size)); clear hb)
              | (go_at_call 18; (with_reducible refine (C2.out _ HT.out).mono ?_); rintro e W1 ⟨rfl, hb⟩; have HT := Lib.hid (HT.out.trans (hb.mono HT.out.size)); clear hb)
              | (go_at_call 18; (with_reducible refine (C3.out _ HT.out).mono ?_); rintro e W1 ⟨rfl, hb⟩; have HT := Lib.hid (HT.out.trans (hb.mono HT.out.size)); clear hb)
              | (go_at_call 18; (with_reducible refine (C4.out _ HT.out).mono ?_); rintro e W1 ⟨rfl, hb⟩; have HT := Lib.hid (HT.out.trans (hb.mono HT.out.size)); clear hb)
              | (go_at_call 14; (with_reducible refine (AW.out _).mono ?_); rintro e W1 ⟨rfl, hb⟩; have HT := Lib.hid (HT.out.trans (hb.mono HT.out.size)); clear hb))
        go_ret
        exact ⟨rfl, HB0.out.trans ((HB.out.trans (HT.out.mono HB.out.size)).mono HB0.out.size)⟩
      · have g3 : z3 ≤ 0 := T3 (by omega) (by omega)
        clear A4 E1 E1' E2 T3
        go_wp2_with (first
              | (go_at_call 18; (with_reducible refine (C1.out _ HT.out).mono ?_); rintro e W1 ⟨rfl, hb⟩; have HT := Lib.hid (HT.out.trans (hb.mono HT.out.size)); clear hb)
              | (go_at_call 18; (with_reducible refine (C2.out _ HT.out).mono ?_); rintro e W1 ⟨rfl, hb⟩; have HT := Lib.hid (HT.out.trans (hb.mono HT.out.size)); clear hb)
              | (go_at_call 18; (with_reducible refine (C3.out _ HT.out).mono ?_); rintro e W1 ⟨rfl, hb⟩; have HT := Lib.hid (HT.out.trans (hb.mono HT.out.size)); clear hb)
              | (go_at_call 18; (with_reducible refine (C4.out _ HT.out).mono ?_); rintro e W1 ⟨rfl, hb⟩; have HT := Lib.hid (HT.out.trans (hb.mono HT.out.size)); clear hb)
              | (go_at_call 14; (with_reducible refine (AW.out _).mono ?_); rintro e W1 ⟨rfl, hb⟩; have HT := Lib.hid (HT.out.trans (hb.mono HT.out.size)); clear hb))
        go_ret
        exact ⟨rfl, HB0.out.trans ((HB.out.trans (HT.out.mono HB.out.size)).mono HB0.out.size)⟩
    · have hne : ((X : Int) == (Y : Int)) = true := by rw [E1 rfl]; simp
      obtain rfl : z4 = 0 := by omega
      by_cases g2 : 0 < z2
      · clear A4 E1 E1' E2 T3
        go_wp2_with (first
              | (go_at_call 18; (with_reducible refine (C1.out _ HT.out).mono ?_); rintro e W1 ⟨rfl, hb⟩; have HT := Lib.hid (HT.out.trans (hb.mono HT.out.size)); clear hb)
              | (go_at_call 18; (with_reducible refine (C2.out _ HT.out).mono ?_); rintro e W1 ⟨rfl, hb⟩; have HT := Lib.hid (HT.out.trans (hb.mono HT.out.size)); clear hb)
              | (go_at_call 18; (with_reducible refine (C3.out _ HT.out).mono ?_); rintro e W1 ⟨rfl, hb⟩; have HT := Lib.hid (HT.out.trans (hb.mono HT.out.size)); clear hb)
              | (go_at_call 18; (with_reducible refine (C4.out _ HT.out).mono ?_); rintro e W1 ⟨rfl, hb⟩; have HT := Lib.hid (HT.out.trans (hb.mono HT.out.size)); clear hb)
              | (go_at_call 14; (with_reducible refine (AW.out _).mono ?_); rintro e W1 ⟨rfl, hb⟩; have HT := Lib.hid (HT.out.trans (hb.mono HT.out.size)); clear hb))
        go_ret
        exact ⟨rfl, HB0.out.trans ((HB.out.trans (HT.out.mono HB.out.size)).mono HB0.out.size)⟩
      · have g3 : z3 ≤ 0 := T3 (by omega) (by omega)
        clear A4 E1 E1' E2 T3
        go_wp2_with (first
              | (go_at_call 18; (with_reducible refine (C1.out _ HT.out).mono ?_); rintro e W1 ⟨rfl, hb⟩; have HT := Lib.hid (HT.out.trans (hb.mono HT.out.size)); clear hb)
              | (go_at_call 18; (with_reducible refine (C2.out _ HT.out).mono ?_); rintro e W1 ⟨rfl, hb⟩; have HT := Lib.hid (HT.out.trans (hb.mono HT.out.size)); clear hb)
              | (go_at_call 18; (with_reducible refine (C3.out _ HT.out).mono ?_); rintro e W1 ⟨rfl, hb⟩; have HT := Lib.hid (HT.out.trans (hb.mono HT.out.size)); clear hb)
              | (go_at_call 18; (with_reducible refine (C4.out _ HT.out).mono ?_); rintro e W1 ⟨rfl, hb⟩; have HT := Lib.hid (HT.out.trans (hb.mono HT.out.size)); clear hb)
              | (go_at_call 14; (with_reducible refine (AW.out _).mono ?_); rintro e W1 ⟨rfl, hb⟩; have HT := Lib.hid (HT.out.trans (hb.mono HT.out.size)); clear hb))
        go_ret
        exact ⟨rfl, HB0.out.trans ((HB.out.trans (HT.out.mono HB.out.size)).mono HB0.out.size)⟩
    · have hne : ((X : Int) == (Y : Int)) = false := by
        have : X ≠ Y := fun h => by have := E1' h; omega
        simp; omega
      obtain rfl : z4 = -1 := by omega
      clear A4 E1 E1' E2 T3
      · have g2 := trivial
        go_wp2_with (first
              | (go_at_call 18; (with_reducible refine (C1.out _ HT.out).mono ?_); rintro e W1 ⟨rfl, hb⟩; have HT := Lib.hid (HT.out.trans (hb.mono HT.out.size)); clear hb)
              | (go_at_call 18; (with_reducible refine (C2.out _ HT.out).mono ?_); rintro e W1 ⟨rfl, hb⟩; have HT := Lib.hid (HT.out.trans (hb.mono HT.out.size)); clear hb)
              | (go_at_call 18; (with_reducible refine (C3.out _ HT.out).mono ?_); rintro e W1 ⟨rfl, hb⟩; have HT := Lib.hid (HT.out.trans (hb.mono HT.out.size)); clear hb)
              | (go_at_call 18; (with_reducible refine (C4.out _ HT.out).mono ?_); rintro e W1 ⟨rfl, hb⟩; have HT := Lib.hid (HT.out.trans (hb.mono HT.out.size)); clear hb)
              | (go_at_call 14; (with_reducible refine (AW.out _).mono ?_); rintro e W1 ⟨rfl, hb⟩; have HT := Lib.hid (HT.out.trans (hb.mono HT.out.size)); clear hb))
        go_ret
        exact ⟨rfl, HB0.out.trans ((HB.out.trans (HT.out.mono HB.out.size)).mono HB0.out.size)⟩
  · have RR := Lib.hid (fun a c W (h : NodesAt W a n c L) => right_any a n c L W h hn1 false ⟨fun h => (Bool.false_ne_true h).elim, fun h => absurd h hR⟩)
    clear h hw0 hn1 hR h0
    go_enter Try.func8, Try.ntmps8
    go_wp2_with (first
      | (go_at_call 11; (with_reducible refine (TO.out _ HB.out).mono ?_); rintro e W1 ⟨a1, c1, rfl, hnd, hb⟩; have HND := Lib.hid hnd; have HB := Lib.hid (HB.out.trans (hb.mono HB.out.size)); obtain ⟨k0, k1, k2, k3⟩ := KC.out W1 HB.out; clear hb hnd)
      | (go_at_call 10; (with_reducible refine (RR.out _ _ _ HND.out).mono ?_); rintro e W1 ⟨rfl, hb⟩; have HB := Lib.hid (HB.out.trans (hb.mono HB.out.size)); obtain ⟨k0, k1, k2, k3⟩ := KC.out W1 HB.out; clear hb)
      | (go_at_call 14; (with_reducible refine (AW.out _).mono ?_); rintro e W1 ⟨rfl, hb⟩; have HB := Lib.hid (HB.out.trans (hb.mono HB.out.size)); clear hb))
    go_ret
    exact ⟨rfl, HB0.out.trans (HB.out.mono HB0.out.size)⟩
end Go.Proofs.Ytmenhbdapikpeaa
