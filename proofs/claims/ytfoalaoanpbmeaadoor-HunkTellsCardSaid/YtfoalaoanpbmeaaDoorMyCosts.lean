/-
  The document's Costs walked.
-/
import Derived.Test.YtfoalaoanpbmeaaDoorMyGrid
namespace Go.Proofs.YtfoalaoanpbmeaaDoor
open Go.RowKit My

def CostsIs (A B : List Int) (w : World) (e : Ending) (w' : World) : Prop := ∃ (g : Nat) (bk : Nat → Nat), e = .returned (.slice (some ⟨g, 0, none⟩) (A.length + 1) (A.length + 1)) ∧ Grid w' w.heap.size g (A.length + 1) (B.length + 1) 0 0 bk (cF A B) ∧ Below w.heap.size w w'
set_option maxRecDepth 100000 in
set_option maxHeartbeats 4000000 in
theorem costs_any (A B : List Int) (aa ab : Option Addr) (n m ca cb : Nat) (w : World) (ha : Runs w aa n ca A) (hb : Runs w ab m cb B) (hA : n ≤ 10000) (hB : m ≤ 10000) :
    Calls Tryd.prog 43 #[.slice aa n ca, .slice ab m cb] w (CostsIs A B w) := by
  have HA := Lib.hid ha
  have HB := Lib.hid hb
  have HAL := Lib.hid ha.1
  have HBL := Lib.hid hb.1
  have hnI : (n : Int) ≤ 10000 := by omega
  have hmI : (m : Int) ≤ 10000 := by omega
  have hn0 : (0 : Int) ≤ n := by omega
  have hm0 : (0 : Int) ≤ m := by omega
  have q1 : (n : Int) + 1 = ((n + 1 : Nat) : Int) := by omega
  have q2 : (m : Int) + 1 = ((m + 1 : Nat) : Int) := by omega
  obtain ⟨N, hN⟩ : ∃ N, n + 1 = N := ⟨_, rfl⟩
  obtain ⟨M, hM⟩ : ∃ M, m + 1 = M := ⟨_, rfl⟩
  have HN := Lib.hid hN
  have HM := Lib.hid hM
  rw [hN] at q1
  rw [hM] at q2
  have hNI : (N : Int) ≤ 10001 := by omega
  have hMI : (M : Int) ≤ 10001 := by omega
  have HNs := Lib.hid (show N ≤ 1000000000 by omega)
  have HMs := Lib.hid (show M ≤ 1000000000 by omega)
  clear ha hb hA hB hN hM
  go_enter Tryd.func43, Tryd.ntmps43
  go_wp2_with (first
    | ((with_reducible show wpList _ _ _ (⟨some 16, _, _, _, _, _⟩ :: _) _ _); refine make1 (fun v : Value => v) (z0 := .slice none 0 0) Tryd.underlying90 infoJs rfl rfl _ _ rfl N rfl rfl HNs.out (by omega) ?_; intro w1 ho1 hg1
       have HB1 := Lib.hid ((Below.refl w.heap.size w).grown hg1 (Nat.le_refl _) (fun k hk => by cases hk))
       have R1 := row_of_own ho1 List.length_replicate
       rw [List.map_id'] at R1
       have G1 := Lib.hid (fun bk => Grid.start (N := N) (M := M) (f := cF A B) (Nat.le_refl w.heap.size) R1 List.length_replicate bk)
       clear ho1 hg1 R1))
  go_loopg [8] N (fun gh v8 W => ∃ (k : Nat) (V : Int) (bk : Nat → Nat), v8 = .int .i64 V ∧ gh = k ∧ V = (k : Int) - 1 ∧ k ≤ N ∧ Hid (Grid W w.heap.size w.heap.size N M k 0 bk (cF A B)) ∧ Hid (Below w.heap.size w W))
  case atStart => exact ⟨N, (n : Int), fun _ => 0, rfl, rfl, by have := HN.out; omega, Nat.le_refl _, Lib.hid (G1.out _), HB1⟩
  case round =>
    obtain ⟨k, V, bk, rfl, hgh, hV, hgN, HG, HBW⟩ := hrel
    have HGH := Lib.hid hgh
    clear hgh
    cases k with
    | zero =>
      obtain rfl : V = -1 := by omega
      clear hV hgN
      go_wp2
      go_ret
      exact ⟨w.heap.size, bk, by rw [HAL.out, HN.out]; rfl, by rw [HAL.out, HBL.out, HN.out, HM.out]; exact HG.out, HBW.out⟩
    | succ i =>
      obtain rfl : V = (i : Int) := by omega
      have HI := Lib.hid (show i < N by omega)
      have hiN : (i : Int) < (N : Int) := by omega
      have hi0 : (0 : Int) ≤ (i : Int) := by omega
      clear hV hgN
      go_wp2_with (first
        | ((with_reducible show wpList _ _ _ (⟨some 26, _, _, _, _, _⟩ :: _) _ _); refine make1 J (z0 := 0) Tryd.underlying92 infoJ rfl rfl _ _ rfl M rfl rfl HMs.out (by omega) ?_; intro w2 ho2 hg2
           have R2 := row_of_own ho2 List.length_replicate
           have G2 := Lib.hid (HG.out.made HI.out List.length_replicate (Nat.le_refl _) R2 hg2)
           have B2 := Lib.hid ((HBW.out.grown hg2 HBW.out.size (fun k hk => by cases hk)).setCell (p := ⟨w.heap.size, i, none⟩) (Nat.le_refl _) (.slice (some ⟨wr.heap.size, 0, none⟩) M M))
           have G0 := Lib.hid (HG.out.on ((Below.refl wr.heap.size wr).grown hg2 (Nat.le_refl _) (fun k hk => by cases hk)))
           have gf := G0.out.gfree i
           obtain ⟨gv, gc⟩ := G0.out.gsome HI.out
           clear ho2 hg2 R2))
      obtain ⟨bk2, hbk2⟩ : ∃ b, setF bk i wr.heap.size = b := ⟨_, rfl⟩
      rw [hbk2] at G2
      obtain ⟨W3, hW3⟩ : ∃ W, w2.setCell ⟨w.heap.size, i, none⟩ (.slice (some ⟨wr.heap.size, 0, none⟩) M M) = W := ⟨_, rfl⟩
      rw [hW3] at G2 B2
      rw [hW3]
      clear hbk2 hW3 gf gc
      go_loopg [9] M (fun gj v9 W => ∃ (t : Nat) (V : Int), v9 = .int .i64 V ∧ gj = t ∧ V = (t : Int) - 1 ∧ t ≤ M ∧ Hid (Grid W w.heap.size w.heap.size N M i t bk2 (cF A B)) ∧ Hid (Below w.heap.size w W))
      case atStart => exact ⟨M, (m : Int), rfl, rfl, by have := HM.out; omega, Nat.le_refl _, G2, B2⟩
      case round =>
        obtain ⟨t, V, rfl, hgj, hV, htM, HG2, HB2⟩ := hrel
        have HGJ := Lib.hid hgj
        clear hgj
        cases t with
        | zero =>
          obtain rfl : V = -1 := by omega
          clear hV htM
          go_wp2
          go_roundg i
          case measure => have := HGH.out; omega
          case rel => exact ⟨i, (i : Int) - 1, bk2, rfl, rfl, rfl, by have := HI.out; omega, HG2, HB2⟩
        | succ j =>
          obtain rfl : V = (j : Int) := by omega
          have HJ := Lib.hid (show j < M by omega)
          have hjM : (j : Int) < (M : Int) := by omega
          have hj0 : (0 : Int) ≤ (j : Int) := by omega
          clear hV htM
          have c0 := HG2.out.head (Nat.le_refl i) HI.out
          have f0 := HG2.out.bfree (Nat.le_refl i) HI.out j
          obtain ⟨zo, e0⟩ := HG2.out.bsome (Nat.le_refl i) HI.out HJ.out
          have hB3 : w.heap.size ≤ bk2 i := (HG2.out.ne i (Nat.le_refl _) HI.out).1
          have HB3 := Lib.hid hB3
          clear hB3
          by_cases hin : i = n
          · have z1 : (i == n) = true := by simpa using hin
            have z2 : ((i : Int) == (n : Int)) = true := by simp; omega
            have HS := Lib.hid (fun z hz => HG2.out.store HI.out HJ.out (z := z) hz)
            have HZ := Lib.hid (show (m : Int) - (j : Int) = cF A B i j by rw [cF_i (by rw [HAL.out, hin]) (by rw [HBL.out]; have := HM.out; have := HJ.out; omega), HBL.out])
            have hjm : (j : Int) ≤ (m : Int) := by have := HM.out; have := HJ.out; omega
            clear hin
            go_wp2
            go_roundg j
            case measure => have := HGJ.out; omega
            case rel => exact ⟨j, (j : Int) - 1, rfl, rfl, rfl, by have := HJ.out; omega, Lib.hid (HS.out _ HZ.out), Lib.hid (HB2.out.setCell HB3.out _)⟩
          · have z1 : (i == n) = false := by simpa using hin
            have z2 : ((i : Int) == (n : Int)) = false := by simp; omega
            have HIN := Lib.hid (show i < n by have := HI.out; have := HN.out; omega)
            have hinI : (i : Int) + 1 ≤ (n : Int) := by have := HIN.out; omega
            have hinN : (i : Int) + 1 < (N : Int) := by have := HIN.out; have := HN.out; omega
            clear hin
            by_cases hjm : j = m
            · have z3 : (j == m) = true := by simpa using hjm
              have z4 : ((j : Int) == (m : Int)) = true := by simp; omega
              have HS := Lib.hid (fun z hz => HG2.out.store HI.out HJ.out (z := z) hz)
              have HZ := Lib.hid (show (n : Int) - (i : Int) = cF A B i j by rw [cF_j (by rw [HBL.out, hjm]) (by rw [HAL.out]; exact Nat.le_of_lt HIN.out), HAL.out])
              clear hjm
              go_wp2
              go_roundg j
              case measure => have := HGJ.out; omega
              case rel => exact ⟨j, (j : Int) - 1, rfl, rfl, rfl, by have := HJ.out; omega, Lib.hid (HS.out _ HZ.out), Lib.hid (HB2.out.setCell HB3.out _)⟩
            · have z3 : (j == m) = false := by simpa using hjm
              have z4 : ((j : Int) == (m : Int)) = false := by simp; omega
              have HJM := Lib.hid (show j < m by have := HJ.out; have := HM.out; omega)
              have hjmI : (j : Int) + 1 ≤ (m : Int) := by have := HJM.out; omega
              have hjmM : (j : Int) + 1 < (M : Int) := by have := HJM.out; have := HM.out; omega
              clear hjm
              obtain ⟨b1, o1, rfl, x1⟩ := (HA.out.below HB2.out).at_ HIN.out
              obtain ⟨b2, o2, rfl, x2⟩ := (HB.out.below HB2.out).at_ HJM.out
              obtain ⟨p, hp⟩ : ∃ p, A.getD i 0 = p := ⟨_, rfl⟩
              obtain ⟨q, hq⟩ : ∃ q, B.getD j 0 = q := ⟨_, rfl⟩
              rw [hp] at x1
              rw [hq] at x2
              have HS := Lib.hid (fun z hz => HG2.out.store HI.out HJ.out (z := z) hz)
              have hNN : i + 1 < N := by have := HIN.out; have := HN.out; omega
              have c1 := HG2.out.head (Nat.le_succ i) hNN
              have y1 := HG2.out.cell (t := j + 1) (Nat.le_succ i) hNN (by have := HJM.out; have := HM.out; omega) (.inl (Nat.lt_succ_self i))
              have y2 := HG2.out.cell (t := j) (Nat.le_succ i) hNN HJ.out (.inl (Nat.lt_succ_self i))
              have y3 := HG2.out.cell (t := j + 1) (Nat.le_refl i) HI.out (by have := HJM.out; have := HM.out; omega) (.inr (Nat.le_refl _))
              obtain ⟨u1, hu1⟩ : ∃ u, cF A B (i + 1) (j + 1) = u := ⟨_, rfl⟩
              obtain ⟨u2, hu2⟩ : ∃ u, cF A B (i + 1) j = u := ⟨_, rfl⟩
              obtain ⟨u3, hu3⟩ : ∃ u, cF A B i (j + 1) = u := ⟨_, rfl⟩
              have bd2 := cF_bd A B (i + 1) j
              have bd3 := cF_bd A B i (j + 1)
              have EQ := Lib.hid (fun h : p = q => (cF_eq (by rw [HAL.out]; exact HIN.out) (by rw [HBL.out]; exact HJM.out) (by rw [hp, hq]; exact h)).trans hu1)
              have LT := Lib.hid (fun (h : ¬ p = q) (hc : u2 < u3) => (cF_lt (A := A) (B := B) (by rw [HAL.out]; exact HIN.out) (by rw [HBL.out]; exact HJM.out) (by rw [hp, hq]; exact h) (by rw [hu2, hu3]; exact hc)).trans (by rw [hu2]))
              have GE := Lib.hid (fun (h : ¬ p = q) (hc : ¬ u2 < u3) => (cF_ge (A := A) (B := B) (by rw [HAL.out]; exact HIN.out) (by rw [HBL.out]; exact HJM.out) (by rw [hp, hq]; exact h) (by rw [hu2, hu3]; exact hc)).trans (by rw [hu3]))
              rw [HAL.out, HBL.out] at bd2 bd3
              rw [hu1] at y1
              rw [hu2] at y2 bd2
              rw [hu3] at y3 bd3
              have bd20 := bd2.1
              have bd21 := bd2.2
              have bd30 := bd3.1
              have bd31 := bd3.2
              have HU1 := Lib.hid hu1
              have HU2 := Lib.hid hu2
              have HU3 := Lib.hid hu3
              have HNN := Lib.hid hNN
              have HJ1 := Lib.hid (show j + 1 < M by have := HJM.out; have := HM.out; omega)
              clear hp hq hu1 hu2 hu3 hNN bd2 bd3
              by_cases hpq : p = q
              · have z5 : (p == q) = true := by simpa using hpq
                have HZ := Lib.hid (EQ.out hpq)
                clear hpq
                go_wp2_with fail
                go_quiet (fail)
                obtain ⟨w4, hw4⟩ : ∃ W, wr.drewN nq = W := ⟨_, rfl⟩
                have Gw4 := Lib.hid (show Grid w4 w.heap.size w.heap.size N M i (j + 1) bk2 (cF A B) from hw4 ▸ HG2.out.on (below_drewN wr nq))
                have Bw4 := Lib.hid (show Below w.heap.size w w4 from hw4 ▸ HB2.out.trans ((below_drewN wr nq).mono HB2.out.size))
                rw [hw4]
                replace c0 : w4.cell? ⟨w.heap.size, i, none⟩ = some (.slice (some ⟨bk2 i, 0, none⟩) M M) := Gw4.out.head (Nat.le_refl i) HI.out
                replace c1 : w4.cell? ⟨w.heap.size, i + 1, none⟩ = some (.slice (some ⟨bk2 (i + 1), 0, none⟩) M M) := Gw4.out.head (Nat.le_succ i) HNN.out
                replace y1 : w4.cell? ⟨bk2 (i + 1), j + 1, none⟩ = some (.int .i64 u1) := HU1.out ▸ Gw4.out.cell (t := j + 1) (Nat.le_succ i) HNN.out HJ1.out (.inl (Nat.lt_succ_self i))
                replace y2 : w4.cell? ⟨bk2 (i + 1), j, none⟩ = some (.int .i64 u2) := HU2.out ▸ Gw4.out.cell (t := j) (Nat.le_succ i) HNN.out HJ.out (.inl (Nat.lt_succ_self i))
                replace y3 : w4.cell? ⟨bk2 i, j + 1, none⟩ = some (.int .i64 u3) := HU3.out ▸ Gw4.out.cell (t := j + 1) (Nat.le_refl i) HI.out HJ1.out (.inr (Nat.le_refl _))
                replace f0 := Gw4.out.bfree (Nat.le_refl i) HI.out j
                replace e0 := Gw4.out.bsome (Nat.le_refl i) HI.out HJ.out
                obtain ⟨zo, e0⟩ := e0
                clear hw4
                go_wp2
                go_region
                go_wp2
                go_roundg j
                case measure => have := HGJ.out; omega
                case rel => exact ⟨j, (j : Int) - 1, rfl, rfl, rfl, by have := HJ.out; omega, Lib.hid ((Gw4.out.store HI.out HJ.out HZ.out.symm).on ((Below.refl _ _).drew)), Lib.hid ((Bw4.out.setCell HB3.out _).trans (((Below.refl _ _).drew).mono (by have := Bw4.out.size; simp only [World.setCell] at *; simpa using this)))⟩
              · have z5 : (p == q) = false := by simpa using hpq
                by_cases hlt : u2 < u3
                · have z6 : decide (u2 < u3) = true := by simpa using hlt
                  have HZ := Lib.hid (LT.out hpq hlt)
                  clear hpq hlt
                  go_wp2_with fail
                  go_quiet (fail)
                  obtain ⟨w4, hw4⟩ : ∃ W, wr.drewN nq = W := ⟨_, rfl⟩
                  have Gw4 := Lib.hid (show Grid w4 w.heap.size w.heap.size N M i (j + 1) bk2 (cF A B) from hw4 ▸ HG2.out.on (below_drewN wr nq))
                  have Bw4 := Lib.hid (show Below w.heap.size w w4 from hw4 ▸ HB2.out.trans ((below_drewN wr nq).mono HB2.out.size))
                  rw [hw4]
                  replace c0 : w4.cell? ⟨w.heap.size, i, none⟩ = some (.slice (some ⟨bk2 i, 0, none⟩) M M) := Gw4.out.head (Nat.le_refl i) HI.out
                  replace c1 : w4.cell? ⟨w.heap.size, i + 1, none⟩ = some (.slice (some ⟨bk2 (i + 1), 0, none⟩) M M) := Gw4.out.head (Nat.le_succ i) HNN.out
                  replace y1 : w4.cell? ⟨bk2 (i + 1), j + 1, none⟩ = some (.int .i64 u1) := HU1.out ▸ Gw4.out.cell (t := j + 1) (Nat.le_succ i) HNN.out HJ1.out (.inl (Nat.lt_succ_self i))
                  replace y2 : w4.cell? ⟨bk2 (i + 1), j, none⟩ = some (.int .i64 u2) := HU2.out ▸ Gw4.out.cell (t := j) (Nat.le_succ i) HNN.out HJ.out (.inl (Nat.lt_succ_self i))
                  replace y3 : w4.cell? ⟨bk2 i, j + 1, none⟩ = some (.int .i64 u3) := HU3.out ▸ Gw4.out.cell (t := j + 1) (Nat.le_refl i) HI.out HJ1.out (.inr (Nat.le_refl _))
                  replace f0 := Gw4.out.bfree (Nat.le_refl i) HI.out j
                  replace e0 := Gw4.out.bsome (Nat.le_refl i) HI.out HJ.out
                  obtain ⟨zo, e0⟩ := e0
                  clear hw4
                  skip
                  go_wp2_with fail
                  go_quiet (fail)
                  obtain ⟨w5, hw5⟩ : ∃ W, w4.drewN nq = W := ⟨_, rfl⟩
                  have Gw5 := Lib.hid (show Grid w5 w.heap.size w.heap.size N M i (j + 1) bk2 (cF A B) from hw5 ▸ Gw4.out.on (below_drewN w4 nq))
                  have Bw5 := Lib.hid (show Below w.heap.size w w5 from hw5 ▸ Bw4.out.trans ((below_drewN w4 nq).mono Bw4.out.size))
                  rw [hw5]
                  replace c0 : w5.cell? ⟨w.heap.size, i, none⟩ = some (.slice (some ⟨bk2 i, 0, none⟩) M M) := Gw5.out.head (Nat.le_refl i) HI.out
                  replace c1 : w5.cell? ⟨w.heap.size, i + 1, none⟩ = some (.slice (some ⟨bk2 (i + 1), 0, none⟩) M M) := Gw5.out.head (Nat.le_succ i) HNN.out
                  replace y1 : w5.cell? ⟨bk2 (i + 1), j + 1, none⟩ = some (.int .i64 u1) := HU1.out ▸ Gw5.out.cell (t := j + 1) (Nat.le_succ i) HNN.out HJ1.out (.inl (Nat.lt_succ_self i))
                  replace y2 : w5.cell? ⟨bk2 (i + 1), j, none⟩ = some (.int .i64 u2) := HU2.out ▸ Gw5.out.cell (t := j) (Nat.le_succ i) HNN.out HJ.out (.inl (Nat.lt_succ_self i))
                  replace y3 : w5.cell? ⟨bk2 i, j + 1, none⟩ = some (.int .i64 u3) := HU3.out ▸ Gw5.out.cell (t := j + 1) (Nat.le_refl i) HI.out HJ1.out (.inr (Nat.le_refl _))
                  replace f0 := Gw5.out.bfree (Nat.le_refl i) HI.out j
                  replace e0 := Gw5.out.bsome (Nat.le_refl i) HI.out HJ.out
                  obtain ⟨zo, e0⟩ := e0
                  clear hw5
                  go_wp2
                  go_region
                  go_wp2
                  go_roundg j
                  case measure => have := HGJ.out; omega
                  case rel => exact ⟨j, (j : Int) - 1, rfl, rfl, rfl, by have := HJ.out; omega, Lib.hid ((Gw5.out.store HI.out HJ.out HZ.out.symm).on ((Below.refl _ _).drew)), Lib.hid ((Bw5.out.setCell HB3.out _).trans (((Below.refl _ _).drew).mono (by have := Bw5.out.size; simp only [World.setCell] at *; simpa using this)))⟩
                · have z6 : decide (u2 < u3) = false := by simpa using hlt
                  have HZ := Lib.hid (GE.out hpq hlt)
                  clear hpq hlt
                  go_wp2_with fail
                  go_quiet (fail)
                  obtain ⟨w4, hw4⟩ : ∃ W, wr.drewN nq = W := ⟨_, rfl⟩
                  have Gw4 := Lib.hid (show Grid w4 w.heap.size w.heap.size N M i (j + 1) bk2 (cF A B) from hw4 ▸ HG2.out.on (below_drewN wr nq))
                  have Bw4 := Lib.hid (show Below w.heap.size w w4 from hw4 ▸ HB2.out.trans ((below_drewN wr nq).mono HB2.out.size))
                  rw [hw4]
                  replace c0 : w4.cell? ⟨w.heap.size, i, none⟩ = some (.slice (some ⟨bk2 i, 0, none⟩) M M) := Gw4.out.head (Nat.le_refl i) HI.out
                  replace c1 : w4.cell? ⟨w.heap.size, i + 1, none⟩ = some (.slice (some ⟨bk2 (i + 1), 0, none⟩) M M) := Gw4.out.head (Nat.le_succ i) HNN.out
                  replace y1 : w4.cell? ⟨bk2 (i + 1), j + 1, none⟩ = some (.int .i64 u1) := HU1.out ▸ Gw4.out.cell (t := j + 1) (Nat.le_succ i) HNN.out HJ1.out (.inl (Nat.lt_succ_self i))
                  replace y2 : w4.cell? ⟨bk2 (i + 1), j, none⟩ = some (.int .i64 u2) := HU2.out ▸ Gw4.out.cell (t := j) (Nat.le_succ i) HNN.out HJ.out (.inl (Nat.lt_succ_self i))
                  replace y3 : w4.cell? ⟨bk2 i, j + 1, none⟩ = some (.int .i64 u3) := HU3.out ▸ Gw4.out.cell (t := j + 1) (Nat.le_refl i) HI.out HJ1.out (.inr (Nat.le_refl _))
                  replace f0 := Gw4.out.bfree (Nat.le_refl i) HI.out j
                  replace e0 := Gw4.out.bsome (Nat.le_refl i) HI.out HJ.out
                  obtain ⟨zo, e0⟩ := e0
                  clear hw4
                  skip
                  go_wp2_with fail
                  go_quiet (fail)
                  obtain ⟨w5, hw5⟩ : ∃ W, w4.drewN nq = W := ⟨_, rfl⟩
                  have Gw5 := Lib.hid (show Grid w5 w.heap.size w.heap.size N M i (j + 1) bk2 (cF A B) from hw5 ▸ Gw4.out.on (below_drewN w4 nq))
                  have Bw5 := Lib.hid (show Below w.heap.size w w5 from hw5 ▸ Bw4.out.trans ((below_drewN w4 nq).mono Bw4.out.size))
                  rw [hw5]
                  replace c0 : w5.cell? ⟨w.heap.size, i, none⟩ = some (.slice (some ⟨bk2 i, 0, none⟩) M M) := Gw5.out.head (Nat.le_refl i) HI.out
                  replace c1 : w5.cell? ⟨w.heap.size, i + 1, none⟩ = some (.slice (some ⟨bk2 (i + 1), 0, none⟩) M M) := Gw5.out.head (Nat.le_succ i) HNN.out
                  replace y1 : w5.cell? ⟨bk2 (i + 1), j + 1, none⟩ = some (.int .i64 u1) := HU1.out ▸ Gw5.out.cell (t := j + 1) (Nat.le_succ i) HNN.out HJ1.out (.inl (Nat.lt_succ_self i))
                  replace y2 : w5.cell? ⟨bk2 (i + 1), j, none⟩ = some (.int .i64 u2) := HU2.out ▸ Gw5.out.cell (t := j) (Nat.le_succ i) HNN.out HJ.out (.inl (Nat.lt_succ_self i))
                  replace y3 : w5.cell? ⟨bk2 i, j + 1, none⟩ = some (.int .i64 u3) := HU3.out ▸ Gw5.out.cell (t := j + 1) (Nat.le_refl i) HI.out HJ1.out (.inr (Nat.le_refl _))
                  replace f0 := Gw5.out.bfree (Nat.le_refl i) HI.out j
                  replace e0 := Gw5.out.bsome (Nat.le_refl i) HI.out HJ.out
                  obtain ⟨zo, e0⟩ := e0
                  clear hw5
                  go_wp2
                  go_region
                  go_wp2
                  go_roundg j
                  case measure => have := HGJ.out; omega
                  case rel => exact ⟨j, (j : Int) - 1, rfl, rfl, rfl, by have := HJ.out; omega, Lib.hid ((Gw5.out.store HI.out HJ.out HZ.out.symm).on ((Below.refl _ _).drew)), Lib.hid ((Bw5.out.setCell HB3.out _).trans (((Below.refl _ _).drew).mono (by have := Bw5.out.size; simp only [World.setCell] at *; simpa using this)))⟩
#print axioms costs_any
end Go.Proofs.YtfoalaoanpbmeaaDoor
