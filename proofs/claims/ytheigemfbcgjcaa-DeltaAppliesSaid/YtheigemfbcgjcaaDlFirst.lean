/-
  The walk of first: the least place of a span, by the tree of least places.
-/
import Derived.Test.YtheigemfbcgjcaaDlFind
namespace Go.Proofs.Ytheigemfbcgjcaa
open Go.RowKit

set_option maxRecDepth 100000 in
set_option maxHeartbeats 8000000 in
theorem first_any (gR gp kb k gl cl n c f t Z : Nat) (a : Option Addr) (P T : List Nat) (Bg : List UInt8 → Option (Nat × Nat)) (w : World)
    (hR : RowsAt w gR a n c gp kb k (.slice (some ⟨gl, 0, none⟩) (2 * n) cl) P Bg) (hT : IntsAt w gl (2 * n) T) (hTD : TreeDone n P T 1) (hn : n ≤ 400000) (hft : f < t) (htn : t ≤ n) (hZ : IsMin P f t Z) :
    Calls Try.prog 38 #[.pointer (some ⟨gR, 0, none⟩), .agg #[.int .i64 (f : Nat), .int .i64 (t : Nat)]] w fun e w' => e = .returned (.int .i64 (Z : Nat)) ∧ Below w.heap.size w w' := by
  obtain ⟨w1, hw1⟩ : ∃ W, w.alloc (.cells #[.int .i64 (f : Nat), .int .i64 (t : Nat)] 60) = W := ⟨_, rfl⟩
  have b1 : Below w.heap.size w w1 := hw1 ▸ (Below.refl _ _).alloc (Nat.le_refl _) _
  have e1 : w1.heap[w.heap.size]? = some (.cells #[.int .i64 (f : Nat), .int .i64 (t : Nat)] 60 (0, 0)) := hw1 ▸ heap_alloc_new w _
  have d0 : w1.cell? ⟨w.heap.size, 0, none⟩ = some (.int .i64 (f : Nat)) := by rw [cell_of_row _ _ _ _ _ _ e1]; rfl
  have d1 : w1.cell? ⟨w.heap.size, 1, none⟩ = some (.int .i64 (t : Nat)) := by rw [cell_of_row _ _ _ _ _ _ e1]; rfl
  have r1 : w1.cell? ⟨gR, 1, none⟩ = some (.slice (some ⟨gp, 0, none⟩) n n) := (hR.below b1).c1
  have HR := Lib.hid (hR.below b1)
  have HT := Lib.hid (hT.below b1)
  have HB := Lib.hid b1
  have HTD := Lib.hid hTD
  have HS := Lib.hid (LeastInv.start (isMin_leaf hTD htn hZ) (by omega))
  obtain ⟨x, hx⟩ : ∃ x, f + n = x := ⟨_, rfl⟩
  obtain ⟨y, hy⟩ : ∃ y, t + n = y := ⟨_, rfl⟩
  rw [hx, hy] at HS
  obtain ⟨l0, hl0⟩ : ∃ l, T.getD x 0 = l := ⟨_, rfl⟩
  rw [hl0] at HS
  obtain ⟨tn, htn'⟩ : ∃ u, 2 * n = u := ⟨_, rfl⟩
  rw [htn'] at HR HT
  have W1 : IntKind.i64.wrap ((f : Int) + (n : Int)) = (x : Int) := by rw [IntWalk.i64_in _ (by omega)]; omega
  have W2 : IntKind.i64.wrap ((t : Int) + (n : Int)) = (y : Int) := by rw [IntWalk.i64_in _ (by omega)]; omega
  have r3 : w1.cell? ⟨gR, 3, none⟩ = some (.slice (some ⟨gl, 0, none⟩) tn cl) := HR.out.c3
  have kx : w1.cell? ⟨gl, x, none⟩ = some (.int .i64 (l0 : Nat)) := hl0 ▸ (HT.out.2.2 x (by omega)).1
  have hx0 : (0 : Int) ≤ (x : Int) := by omega
  have hxI : (x : Int) < (tn : Int) := by omega
  have HN : Hid (n ≤ 400000 ∧ 2 * n = tn ∧ 1 ≤ x ∧ y ≤ tn) := Lib.hid ⟨hn, htn', by omega, by omega⟩
  clear hR hT hTD hn hft htn hZ b1 e1 hx hy hl0 htn'
  go_enter Try.func38, Try.ntmps38
  go_wp2
  clear hw1
  go_quiet (fail)
  go_wp2
  clear r1 d0 d1 W1 W2
  go_loopg [6, 7, 8] y (fun g v6 v7 v8 W => ∃ (p q l : Nat), v6 = .int .i64 (p : Nat) ∧ v7 = .int .i64 (q : Nat) ∧ v8 = .int .i64 (l : Nat) ∧ g = q ∧ Hid (1 ≤ p ∧ q ≤ tn) ∧ Hid (LeastInv T p q l Z) ∧ Hid (RowsAt W gR a n c gp kb k (.slice (some ⟨gl, 0, none⟩) tn cl) P Bg) ∧ Hid (IntsAt W gl tn T) ∧ Hid (Below w.heap.size w W))
  case atStart => exact ⟨x, y, l0, rfl, rfl, rfl, rfl, Lib.hid HN.out.2.2, HS, Lib.hid (HR.out.keep (Nat.le_refl _) rfl rfl rfl), Lib.hid HT.out, Lib.hid (by have h := HB.out; exact ⟨h.os, h.tape, h.output, h.size, h.block⟩)⟩
  case round =>
    obtain ⟨p, q, l, rfl, rfl, rfl, hg, HPQ, HL, HR, HT, HBW⟩ := hrel
    have HG := Lib.hid hg
    have s3 : wr.cell? ⟨gR, 3, none⟩ = some (.slice (some ⟨gl, 0, none⟩) tn cl) := HR.out.c3
    clear hg kx r3 hx0 hxI HS
    by_cases hpq : (p : Int) < (q : Int)
    · have hpq1 := HPQ.out
      have hn1 := HN.out
      by_cases hp : p % 2 = 1
      · by_cases hq : q % 2 = 1
        · have hpm : ((p : Int) % 2 == 1) = true := by rw [beq_iff_eq]; omega
          obtain ⟨p1, hp1⟩ : ∃ x, p + 1 = x := ⟨_, rfl⟩
          obtain ⟨u, hu⟩ : ∃ u, T.getD p 0 = u := ⟨_, rfl⟩
          obtain ⟨l1, hl1⟩ : ∃ x, min l u = x := ⟨_, rfl⟩
          have ku : wr.cell? ⟨gl, p, none⟩ = some (.int .i64 (u : Nat)) := hu ▸ (HT.out.2.2 p (by omega)).1
          have HL1 : Hid (LeastInv T p1 q l1 Z) := Lib.hid (by have h := HL.out.left (by omega); rw [hu, hl1, hp1] at h; exact h)
          have M1 : min (l : Int) (u : Int) = (l1 : Int) := by omega
          have W3 : IntKind.i64.wrap ((p : Int) + 1) = (p1 : Int) := by rw [IntWalk.i64_in _ (by omega)]; omega
          have hp0 : (0 : Int) ≤ (p : Int) := by omega
          have hpI : (p : Int) < (tn : Int) := by omega
          have hqm : ((q : Int) % 2 == 1) = true := by rw [beq_iff_eq]; omega
          obtain ⟨q1, hq1⟩ : ∃ x, q - 1 = x := ⟨_, rfl⟩
          obtain ⟨v, hv⟩ : ∃ u, T.getD q1 0 = u := ⟨_, rfl⟩
          obtain ⟨l2, hl2⟩ : ∃ x, min l1 v = x := ⟨_, rfl⟩
          have kv : wr.cell? ⟨gl, q1, none⟩ = some (.int .i64 (v : Nat)) := hv ▸ (HT.out.2.2 q1 (by omega)).1
          have HL2 : Hid (LeastInv T p1 q1 l2 Z) := Lib.hid (by have h := HL1.out.right (by omega); rw [hq1, hv, hl2] at h; exact h)
          have M2 : min (l1 : Int) (v : Int) = (l2 : Int) := by omega
          have W4 : IntKind.i64.wrap ((q : Int) - 1) = (q1 : Int) := by rw [IntWalk.i64_in _ (by omega)]; omega
          have hq0 : (0 : Int) ≤ (q1 : Int) := by omega
          have hqI : (q1 : Int) < (tn : Int) := by omega
          obtain ⟨p2, hp2⟩ : ∃ x, 2 * x = p1 := ⟨p1 / 2, by omega⟩
          obtain ⟨q2, hq2⟩ : ∃ x, 2 * x = q1 := ⟨q1 / 2, by omega⟩
          have D1 : (p1 : Int) / 2 = (p2 : Int) := by omega
          have D2 : (q1 : Int) / 2 = (q2 : Int) := by omega
          have D3 := Lib.hid (IntWalk.wrap64_in (p2 : Int) (by omega))
          have D4 := Lib.hid (IntWalk.wrap64_in (q2 : Int) (by omega))
          have HL3 : Hid (LeastInv T p2 q2 l2 Z) := Lib.hid (by have h := HL2.out; rw [← hp2, ← hq2] at h; exact h.half HTD.out (by omega) (by omega))
          have HPQ2 : Hid (1 ≤ p2 ∧ q2 ≤ tn) := Lib.hid ⟨by omega, by omega⟩
          have HM : Hid (q2 < q) := Lib.hid (by omega)
          clear hp2 hq2 hpq1 hn1 hp1 hu hl1 hq1 hv hl2
          go_wp2
          go_roundg q2
          case measure => have := HG.out; have := HM.out; omega
          case rel => rw [D3.out, D4.out]; exact ⟨p2, q2, l2, rfl, rfl, rfl, rfl, HPQ2, HL3, HR, HT, HBW⟩
        · have hpm : ((p : Int) % 2 == 1) = true := by rw [beq_iff_eq]; omega
          obtain ⟨p1, hp1⟩ : ∃ x, p + 1 = x := ⟨_, rfl⟩
          obtain ⟨u, hu⟩ : ∃ u, T.getD p 0 = u := ⟨_, rfl⟩
          obtain ⟨l1, hl1⟩ : ∃ x, min l u = x := ⟨_, rfl⟩
          have ku : wr.cell? ⟨gl, p, none⟩ = some (.int .i64 (u : Nat)) := hu ▸ (HT.out.2.2 p (by omega)).1
          have HL1 : Hid (LeastInv T p1 q l1 Z) := Lib.hid (by have h := HL.out.left (by omega); rw [hu, hl1, hp1] at h; exact h)
          have M1 : min (l : Int) (u : Int) = (l1 : Int) := by omega
          have W3 : IntKind.i64.wrap ((p : Int) + 1) = (p1 : Int) := by rw [IntWalk.i64_in _ (by omega)]; omega
          have hp0 : (0 : Int) ≤ (p : Int) := by omega
          have hpI : (p : Int) < (tn : Int) := by omega
          have hqm : ((q : Int) % 2 == 1) = false := by rw [beq_eq_false_iff_ne]; omega
          obtain ⟨p2, hp2⟩ : ∃ x, 2 * x = p1 := ⟨p1 / 2, by omega⟩
          obtain ⟨q2, hq2⟩ : ∃ x, 2 * x = q := ⟨q / 2, by omega⟩
          have D1 : (p1 : Int) / 2 = (p2 : Int) := by omega
          have D2 : (q : Int) / 2 = (q2 : Int) := by omega
          have D3 := Lib.hid (IntWalk.wrap64_in (p2 : Int) (by omega))
          have D4 := Lib.hid (IntWalk.wrap64_in (q2 : Int) (by omega))
          have HL3 : Hid (LeastInv T p2 q2 l1 Z) := Lib.hid (by have h := HL1.out; rw [← hp2, ← hq2] at h; exact h.half HTD.out (by omega) (by omega))
          have HPQ2 : Hid (1 ≤ p2 ∧ q2 ≤ tn) := Lib.hid ⟨by omega, by omega⟩
          have HM : Hid (q2 < q) := Lib.hid (by omega)
          clear hp2 hq2 hpq1 hn1 hp1 hu hl1
          go_wp2
          go_roundg q2
          case measure => have := HG.out; have := HM.out; omega
          case rel => rw [D3.out, D4.out]; exact ⟨p2, q2, l1, rfl, rfl, rfl, rfl, HPQ2, HL3, HR, HT, HBW⟩
      · by_cases hq : q % 2 = 1
        · have hpm : ((p : Int) % 2 == 1) = false := by rw [beq_eq_false_iff_ne]; omega
          have hqm : ((q : Int) % 2 == 1) = true := by rw [beq_iff_eq]; omega
          obtain ⟨q1, hq1⟩ : ∃ x, q - 1 = x := ⟨_, rfl⟩
          obtain ⟨v, hv⟩ : ∃ u, T.getD q1 0 = u := ⟨_, rfl⟩
          obtain ⟨l2, hl2⟩ : ∃ x, min l v = x := ⟨_, rfl⟩
          have kv : wr.cell? ⟨gl, q1, none⟩ = some (.int .i64 (v : Nat)) := hv ▸ (HT.out.2.2 q1 (by omega)).1
          have HL2 : Hid (LeastInv T p q1 l2 Z) := Lib.hid (by have h := HL.out.right (by omega); rw [hq1, hv, hl2] at h; exact h)
          have M2 : min (l : Int) (v : Int) = (l2 : Int) := by omega
          have W4 : IntKind.i64.wrap ((q : Int) - 1) = (q1 : Int) := by rw [IntWalk.i64_in _ (by omega)]; omega
          have hq0 : (0 : Int) ≤ (q1 : Int) := by omega
          have hqI : (q1 : Int) < (tn : Int) := by omega
          obtain ⟨p2, hp2⟩ : ∃ x, 2 * x = p := ⟨p / 2, by omega⟩
          obtain ⟨q2, hq2⟩ : ∃ x, 2 * x = q1 := ⟨q1 / 2, by omega⟩
          have D1 : (p : Int) / 2 = (p2 : Int) := by omega
          have D2 : (q1 : Int) / 2 = (q2 : Int) := by omega
          have D3 := Lib.hid (IntWalk.wrap64_in (p2 : Int) (by omega))
          have D4 := Lib.hid (IntWalk.wrap64_in (q2 : Int) (by omega))
          have HL3 : Hid (LeastInv T p2 q2 l2 Z) := Lib.hid (by have h := HL2.out; rw [← hp2, ← hq2] at h; exact h.half HTD.out (by omega) (by omega))
          have HPQ2 : Hid (1 ≤ p2 ∧ q2 ≤ tn) := Lib.hid ⟨by omega, by omega⟩
          have HM : Hid (q2 < q) := Lib.hid (by omega)
          clear hp2 hq2 hpq1 hn1 hq1 hv hl2
          go_wp2
          go_roundg q2
          case measure => have := HG.out; have := HM.out; omega
          case rel => rw [D3.out, D4.out]; exact ⟨p2, q2, l2, rfl, rfl, rfl, rfl, HPQ2, HL3, HR, HT, HBW⟩
        · have hpm : ((p : Int) % 2 == 1) = false := by rw [beq_eq_false_iff_ne]; omega
          have hqm : ((q : Int) % 2 == 1) = false := by rw [beq_eq_false_iff_ne]; omega
          obtain ⟨p2, hp2⟩ : ∃ x, 2 * x = p := ⟨p / 2, by omega⟩
          obtain ⟨q2, hq2⟩ : ∃ x, 2 * x = q := ⟨q / 2, by omega⟩
          have D1 : (p : Int) / 2 = (p2 : Int) := by omega
          have D2 : (q : Int) / 2 = (q2 : Int) := by omega
          have D3 := Lib.hid (IntWalk.wrap64_in (p2 : Int) (by omega))
          have D4 := Lib.hid (IntWalk.wrap64_in (q2 : Int) (by omega))
          have HL3 : Hid (LeastInv T p2 q2 l Z) := Lib.hid (by have h := HL.out; rw [← hp2, ← hq2] at h; exact h.half HTD.out (by omega) (by omega))
          have HPQ2 : Hid (1 ≤ p2 ∧ q2 ≤ tn) := Lib.hid ⟨by omega, by omega⟩
          have HM : Hid (q2 < q) := Lib.hid (by omega)
          clear hp2 hq2 hpq1 hn1
          go_wp2
          go_roundg q2
          case measure => have := HG.out; have := HM.out; omega
          case rel => rw [D3.out, D4.out]; exact ⟨p2, q2, l, rfl, rfl, rfl, rfl, HPQ2, HL3, HR, HT, HBW⟩
    · have hZ := HL.out.done (by omega)
      subst hZ
      go_wp2
      go_ret
      exact ⟨rfl, HBW.out⟩
end Go.Proofs.Ytheigemfbcgjcaa
