/-
  The document's Moves walked.
-/
import Derived.Test.YtfoalaoanpbmeaaDoorGrp8
namespace Go.Proofs.YtfoalaoanpbmeaaDoor
open Go.RowKit My

def RMovesIs (A B : List Int) (w : World) (e : Ending) (w' : World) : Prop := ∃ a c, e = .returned (.tuple #[.slice a (scr A B).length c, .int .i64 0]) ∧ Own w' w.heap.size (.slice a (scr A B).length c) (mvB (scr A B)) ∧ Below w.heap.size w w'
theorem moves_len {A B l : List Int} {i j n m : Nat} (h : l ++ mF A B i j = scr A B) (hA : A.length = n) (hB : B.length = m) (hn : n ≤ 4096) (hm : m ≤ 4096) : (mvB l).length + 1 ≤ 140737488355328 := by
  have h1 := congrArg List.length h
  rw [List.length_append] at h1
  have h2 := mv_len (E := eq2 A B) _ A.length B.length (Nat.le_refl _)
  have h3 : (scr A B).length ≤ A.length + B.length := h2
  unfold mvB; rw [List.length_map]; omega
theorem mvs_next {A B l : List Int} {z : Int} {x y : List Int} (h : l ++ x = scr A B) (hx : x = z :: y) : (l ++ [z]) ++ y = scr A B := by
  rw [← h, hx]; simp
set_option maxRecDepth 100000 in
set_option maxHeartbeats 4000000 in
theorem refMoves_any (A B : List Int) (aa ab : Option Addr) (n m ca cb : Nat) (w : World) (ha : Runs w aa n ca A) (hb : Runs w ab m cb B) (hA : n ≤ 4096) (hB : m ≤ 4096) :
    Calls Tryd.prog 23 #[.slice aa n ca, .slice ab m cb] w (RMovesIs A B w) := by
  have CO := Lib.hid (costs_any A B aa ab n m ca cb w ha hb (by omega) (by omega))
  have HA := Lib.hid ha
  have HB := Lib.hid hb
  have HAL := Lib.hid ha.1
  have HBL := Lib.hid hb.1
  have HNs := Lib.hid hA
  have HMs := Lib.hid hB
  have hnI : (n : Int) ≤ 4096 := by omega
  have hmI : (m : Int) ≤ 4096 := by omega
  have hn0 : (0 : Int) ≤ n := by omega
  have hm0 : (0 : Int) ≤ m := by omega
  clear ha hb hA hB
  go_enter Tryd.func23, Tryd.ntmps23
  go_wp2_with (go_at_call 43; (refine CO.out.mono ?_); rintro en w1 ⟨g, bk, rfl, hG, hb1⟩; rw [HAL.out, HBL.out] at hG; rw [HAL.out]; have G1 := Lib.hid hG; have B1 := Lib.hid hb1; clear hG hb1)
  obtain ⟨N, hN⟩ : ∃ N, n + 1 = N := ⟨_, rfl⟩
  obtain ⟨M, hM⟩ : ∃ M, m + 1 = M := ⟨_, rfl⟩
  have HN := Lib.hid hN
  have HM := Lib.hid hM
  rw [hN] at G1
  rw [hM] at G1
  rw [hN]
  clear hN hM
  go_loopg [7, 8, 9] (n + m) (fun gh v7 v8 v9 W => ∃ (i j : Nat) (a : Option Addr) (c : Nat) (l : List Int), v7 = .slice a l.length c ∧ v8 = .int .i64 i ∧ v9 = .int .i64 j ∧ gh + i + j = n + m ∧ i ≤ n ∧ j ≤ m ∧
    Hid (l ++ mF A B i j = scr A B) ∧ Hid (Mvs W w1.heap.size a c l) ∧ Hid (Below w1.heap.size w1 W))
  case atStart => exact ⟨0, 0, none, 0, [], rfl, rfl, rfl, by omega, by omega, by omega, Lib.hid (by unfold mF; rfl), Lib.hid ⟨Own.nil _ _⟩, Lib.hid (Below.refl _ _)⟩
  case round =>
    obtain ⟨i, j, a, c, l, rfl, rfl, rfl, hgh, hin, hjm, HML, HMV, HBW⟩ := hrel
    have HGH := Lib.hid hgh
    have HLL := Lib.hid (moves_len HML.out HAL.out HBL.out HNs.out HMs.out)
    have hi0 : (0 : Int) ≤ (i : Int) := by omega
    have hj0 : (0 : Int) ≤ (j : Int) := by omega
    have hinI : (i : Int) ≤ (n : Int) := by omega
    have hjmI : (j : Int) ≤ (m : Int) := by omega
    have G2 := Lib.hid (G1.out.on HBW.out)
    clear hgh
    by_cases hi : i < n
    · have z1 : decide (i < n) = true := by simpa using hi
      have z1I : decide ((i : Int) < (n : Int)) = true := by simp; omega
      have hiI : (i : Int) < (n : Int) := by omega
      have hiN : (i : Int) + 1 < (N : Int) := by have := HN.out; omega
      have HI := Lib.hid hi
      by_cases hj : j < m
      · have z2 : decide (j < m) = true := by simpa using hj
        have z2I : decide ((j : Int) < (m : Int)) = true := by simp; omega
        have hjI : (j : Int) < (m : Int) := by omega
        have hjM : (j : Int) + 1 < (M : Int) := by have := HM.out; omega
        have z3 : (j == m) = false := by simp; omega
        have z3I : ((j : Int) == (m : Int)) = false := by simp; omega
        have HJ := Lib.hid hj
        obtain ⟨b1, o1, rfl, x1⟩ := ((HA.out.below B1.out).below HBW.out).at_ hi
        obtain ⟨b2, o2, rfl, x2⟩ := ((HB.out.below B1.out).below HBW.out).at_ hj
        obtain ⟨p, hp⟩ : ∃ p, A.getD i 0 = p := ⟨_, rfl⟩
        obtain ⟨q, hq⟩ : ∃ q, B.getD j 0 = q := ⟨_, rfl⟩
        obtain ⟨u2, hu2⟩ : ∃ u, cF A B (i + 1) j = u := ⟨_, rfl⟩
        obtain ⟨u3, hu3⟩ : ∃ u, cF A B i (j + 1) = u := ⟨_, rfl⟩
        have EQ := Lib.hid (fun h : p = q => mF_keep (by rw [HAL.out]; exact hi) (by rw [HBL.out]; exact hj) (by rw [hp, hq]; exact h))
        have LE := Lib.hid (fun (h : ¬ p = q) (hc : u2 ≤ u3) => mF_drop (A := A) (B := B) (by rw [HAL.out]; exact hi) (by rw [HBL.out]; exact hj) (by rw [hp, hq]; exact h) (by rw [hu2, hu3]; exact hc))
        have GT := Lib.hid (fun (h : ¬ p = q) (hc : ¬ u2 ≤ u3) => mF_add (A := A) (B := B) (by rw [HAL.out]; exact hi) (by rw [HBL.out]; exact hj) (by rw [hp, hq]; exact h) (by rw [hu2, hu3]; exact hc))
        have HU2 := Lib.hid hu2
        have HU3 := Lib.hid hu3
        rw [hp] at x1
        rw [hq] at x2
        have HN1 := Lib.hid (show i + 1 < N by have := HN.out; omega)
        have HM1 := Lib.hid (show j + 1 < M by have := HM.out; omega)
        clear hp hq hu2 hu3
        by_cases hpq : p = q
        · have z4 : (p == q) = true := by simpa using hpq
          have HZ := Lib.hid (EQ.out hpq)
          clear hpq hin hjm
          go_wp2_with fail
          go_quiet (fail)
          obtain ⟨w4, hw4⟩ : ∃ W, wr.drewN nq = W := ⟨_, rfl⟩
          have B4 := Lib.hid (show Below wr.heap.size wr w4 from hw4 ▸ below_drewN wr nq)
          rw [hw4]
          clear hw4
          have M4 := Lib.hid (Mvs.mk (HMV.out.own.below B4.out))
          have Z4 := Lib.hid B4.out.size
          go_wp2_with (first
            | ((with_reducible show wpList _ _ _ (⟨some 54, _, _, _, _, _⟩ :: _) _ _); refine app_bytes rfl _ _ rfl w1.heap.size (.slice a l.length c) (mvB l) rfl (M4.out.own.alloc _) (some ⟨w4.heap.size, 0, none⟩) 1 1 [1] rfl (bytes_one w4 1) HLL.out (by have := Z4.out; have := HBW.out.size; simp; omega) ?_; intro v5 w5 ho5 hg5
               obtain ⟨a5, c5, rfl, hm5⟩ := mvs_app (z := 1) ho5 rfl
               have M5 := Lib.hid hm5
               have B5 := Lib.hid (((HBW.out.trans (B4.out.mono HBW.out.size)).alloc (by have := Z4.out; have := HBW.out.size; omega) (.cells #[.int .u8 1] 5)).grown hg5 (by have := Z4.out; have := HBW.out.size; simp; omega) (M4.out.own.alloc (.cells #[.int .u8 1] 5)).grown)
               clear ho5 hg5 hm5))
          go_roundg (n + m - (i + 1) - (j + 1))
          case measure => have := HGH.out; omega
          case rel => exact ⟨i + 1, j + 1, a5, c5, l ++ [1], len1 _ _ _ _, rfl, rfl, by omega, by omega, by omega, Lib.hid (mvs_next HML.out HZ.out), M5, B5⟩
        · have z4 : (p == q) = false := by simpa using hpq
          have c0 := G2.out.head (Nat.zero_le i) (by have := HN1.out; omega)
          have c1 := G2.out.head (Nat.zero_le (i + 1)) HN1.out
          have y2 := G2.out.cell (t := j) (Nat.zero_le (i + 1)) HN1.out (by have := HM1.out; omega) (.inr (Nat.zero_le _))
          have y3 := G2.out.cell (t := j + 1) (Nat.zero_le i) (by have := HN1.out; omega) HM1.out (.inr (Nat.zero_le _))
          rw [HU2.out] at y2
          rw [HU3.out] at y3
          by_cases hle : u2 ≤ u3
          · have z5 : decide (u2 ≤ u3) = true := by simpa using hle
            have HZ := Lib.hid (LE.out hpq hle)
            clear hpq hle hin hjm
            go_wp2_with fail
            go_quiet (fail)
            obtain ⟨w4, hw4⟩ : ∃ W, wr.drewN nq = W := ⟨_, rfl⟩
            have B4 := Lib.hid (show Below wr.heap.size wr w4 from hw4 ▸ below_drewN wr nq)
            rw [hw4]
            clear hw4
            replace c0 := cell_below c0 B4.out
            replace c1 := cell_below c1 B4.out
            replace y2 := cell_below y2 B4.out
            replace y3 := cell_below y3 B4.out
            go_wp2_with fail
            go_quiet (fail)
            have B4o := B4
            clear B4
            obtain ⟨w4b, hw4⟩ : ∃ W, w4.drewN nq = W := ⟨_, rfl⟩
            have B4 := Lib.hid (show Below wr.heap.size wr w4b from hw4 ▸ B4o.out.trans ((below_drewN w4 nq).mono B4o.out.size))
            rw [hw4]
            clear hw4
            have M4 := Lib.hid (Mvs.mk (HMV.out.own.below B4.out))
            have Z4 := Lib.hid B4.out.size
            go_wp2_with (first
              | ((with_reducible show wpList _ _ _ (⟨some 90, _, _, _, _, _⟩ :: _) _ _); refine app_bytes rfl _ _ rfl w1.heap.size (.slice a l.length c) (mvB l) rfl (M4.out.own.alloc _) (some ⟨w4b.heap.size, 0, none⟩) 1 1 [2] rfl (bytes_one w4b 2) HLL.out (by have := Z4.out; have := HBW.out.size; simp; omega) ?_; intro v5 w5 ho5 hg5
                 obtain ⟨a5, c5, rfl, hm5⟩ := mvs_app (z := 2) ho5 rfl
                 have M5 := Lib.hid hm5
                 have B5 := Lib.hid (((HBW.out.trans (B4.out.mono HBW.out.size)).alloc (by have := Z4.out; have := HBW.out.size; omega) (.cells #[.int .u8 2] 5)).grown hg5 (by have := Z4.out; have := HBW.out.size; simp; omega) (M4.out.own.alloc (.cells #[.int .u8 2] 5)).grown)
                 clear ho5 hg5 hm5))
            go_roundg (n + m - (i + 1) - (j))
            case measure => have := HGH.out; omega
            case rel => exact ⟨i + 1, j, a5, c5, l ++ [2], len1 _ _ _ _, rfl, rfl, by omega, by omega, by omega, Lib.hid (mvs_next HML.out HZ.out), M5, B5⟩
          · have z5 : decide (u2 ≤ u3) = false := by simpa using hle
            have HZ := Lib.hid (GT.out hpq hle)
            clear hpq hle hin hjm
            go_wp2_with fail
            go_quiet (fail)
            obtain ⟨w4, hw4⟩ : ∃ W, wr.drewN nq = W := ⟨_, rfl⟩
            have B4 := Lib.hid (show Below wr.heap.size wr w4 from hw4 ▸ below_drewN wr nq)
            rw [hw4]
            clear hw4
            replace c0 := cell_below c0 B4.out
            replace c1 := cell_below c1 B4.out
            replace y2 := cell_below y2 B4.out
            replace y3 := cell_below y3 B4.out
            go_wp2_with fail
            go_quiet (fail)
            have B4o := B4
            clear B4
            obtain ⟨w4b, hw4⟩ : ∃ W, w4.drewN nq = W := ⟨_, rfl⟩
            have B4 := Lib.hid (show Below wr.heap.size wr w4b from hw4 ▸ B4o.out.trans ((below_drewN w4 nq).mono B4o.out.size))
            rw [hw4]
            clear hw4
            have M4 := Lib.hid (Mvs.mk (HMV.out.own.below B4.out))
            have Z4 := Lib.hid B4.out.size
            go_wp2_with (first
              | ((with_reducible show wpList _ _ _ (⟨some 95, _, _, _, _, _⟩ :: _) _ _); refine app_bytes rfl _ _ rfl w1.heap.size (.slice a l.length c) (mvB l) rfl (M4.out.own.alloc _) (some ⟨w4b.heap.size, 0, none⟩) 1 1 [3] rfl (bytes_one w4b 3) HLL.out (by have := Z4.out; have := HBW.out.size; simp; omega) ?_; intro v5 w5 ho5 hg5
                 obtain ⟨a5, c5, rfl, hm5⟩ := mvs_app (z := 3) ho5 rfl
                 have M5 := Lib.hid hm5
                 have B5 := Lib.hid (((HBW.out.trans (B4.out.mono HBW.out.size)).alloc (by have := Z4.out; have := HBW.out.size; omega) (.cells #[.int .u8 3] 5)).grown hg5 (by have := Z4.out; have := HBW.out.size; simp; omega) (M4.out.own.alloc (.cells #[.int .u8 3] 5)).grown)
                 clear ho5 hg5 hm5))
            go_roundg (n + m - (i) - (j + 1))
            case measure => have := HGH.out; omega
            case rel => exact ⟨i, j + 1, a5, c5, l ++ [3], len1 _ _ _ _, rfl, rfl, by omega, by omega, by omega, Lib.hid (mvs_next HML.out HZ.out), M5, B5⟩
      · have z2 : decide (j < m) = false := by simpa using hj
        have z2I : decide ((j : Int) < (m : Int)) = false := by simp; omega
        have z3 : (j == m) = true := by simp; omega
        have z3I : ((j : Int) == (m : Int)) = true := by simp; omega
        have HZ := Lib.hid (mF_r (A := A) (B := B) (i := i) (j := j) (by rw [HAL.out]; exact hi) (by rw [HBL.out]; omega))
        have HJE := Lib.hid (show j = m by omega)
        clear hj hin hjm
        go_wp2_with fail
        go_quiet (fail)
        obtain ⟨w4, hw4⟩ : ∃ W, wr.drewN nq = W := ⟨_, rfl⟩
        have B4 := Lib.hid (show Below wr.heap.size wr w4 from hw4 ▸ below_drewN wr nq)
        rw [hw4]
        clear hw4
        go_wp2_with fail
        go_quiet (fail)
        have B4o := B4
        clear B4
        obtain ⟨w4b, hw4⟩ : ∃ W, w4.drewN nq = W := ⟨_, rfl⟩
        have B4 := Lib.hid (show Below wr.heap.size wr w4b from hw4 ▸ B4o.out.trans ((below_drewN w4 nq).mono B4o.out.size))
        rw [hw4]
        clear hw4
        have M4 := Lib.hid (Mvs.mk (HMV.out.own.below B4.out))
        have Z4 := Lib.hid B4.out.size
        go_wp2_with (first
          | ((with_reducible show wpList _ _ _ (⟨some 90, _, _, _, _, _⟩ :: _) _ _); refine app_bytes rfl _ _ rfl w1.heap.size (.slice a l.length c) (mvB l) rfl (M4.out.own.alloc _) (some ⟨w4b.heap.size, 0, none⟩) 1 1 [2] rfl (bytes_one w4b 2) HLL.out (by have := Z4.out; have := HBW.out.size; simp; omega) ?_; intro v5 w5 ho5 hg5
             obtain ⟨a5, c5, rfl, hm5⟩ := mvs_app (z := 2) ho5 rfl
             have M5 := Lib.hid hm5
             have B5 := Lib.hid (((HBW.out.trans (B4.out.mono HBW.out.size)).alloc (by have := Z4.out; have := HBW.out.size; omega) (.cells #[.int .u8 2] 5)).grown hg5 (by have := Z4.out; have := HBW.out.size; simp; omega) (M4.out.own.alloc (.cells #[.int .u8 2] 5)).grown)
             clear ho5 hg5 hm5))
        go_roundg (n + m - (i + 1) - (j))
        case measure => have := HGH.out; omega
        case rel => exact ⟨i + 1, j, a5, c5, l ++ [2], len1 _ _ _ _, rfl, rfl, by omega, by omega, by omega, Lib.hid (mvs_next HML.out HZ.out), M5, B5⟩
    · have z1 : decide (i < n) = false := by simpa using hi
      have z1I : decide ((i : Int) < (n : Int)) = false := by simp; omega
      by_cases hj : j < m
      · have z2 : decide (j < m) = true := by simpa using hj
        have z2I : decide ((j : Int) < (m : Int)) = true := by simp; omega
        have HZ := Lib.hid (mF_l (A := A) (B := B) (i := i) (j := j) (by rw [HAL.out]; omega) (by rw [HBL.out]; exact hj))
        clear hi hin hjm
        go_wp2_with fail
        go_quiet (fail)
        obtain ⟨w4, hw4⟩ : ∃ W, wr.drewN nq = W := ⟨_, rfl⟩
        have B4 := Lib.hid (show Below wr.heap.size wr w4 from hw4 ▸ below_drewN wr nq)
        rw [hw4]
        clear hw4
        go_wp2_with fail
        go_quiet (fail)
        have B4o := B4
        clear B4
        obtain ⟨w4b, hw4⟩ : ∃ W, w4.drewN nq = W := ⟨_, rfl⟩
        have B4 := Lib.hid (show Below wr.heap.size wr w4b from hw4 ▸ B4o.out.trans ((below_drewN w4 nq).mono B4o.out.size))
        rw [hw4]
        clear hw4
        have M4 := Lib.hid (Mvs.mk (HMV.out.own.below B4.out))
        have Z4 := Lib.hid B4.out.size
        go_wp2_with (first
          | ((with_reducible show wpList _ _ _ (⟨some 95, _, _, _, _, _⟩ :: _) _ _); refine app_bytes rfl _ _ rfl w1.heap.size (.slice a l.length c) (mvB l) rfl (M4.out.own.alloc _) (some ⟨w4b.heap.size, 0, none⟩) 1 1 [3] rfl (bytes_one w4b 3) HLL.out (by have := Z4.out; have := HBW.out.size; simp; omega) ?_; intro v5 w5 ho5 hg5
             obtain ⟨a5, c5, rfl, hm5⟩ := mvs_app (z := 3) ho5 rfl
             have M5 := Lib.hid hm5
             have B5 := Lib.hid (((HBW.out.trans (B4.out.mono HBW.out.size)).alloc (by have := Z4.out; have := HBW.out.size; omega) (.cells #[.int .u8 3] 5)).grown hg5 (by have := Z4.out; have := HBW.out.size; simp; omega) (M4.out.own.alloc (.cells #[.int .u8 3] 5)).grown)
             clear ho5 hg5 hm5))
        go_roundg (n + m - (i) - (j + 1))
        case measure => have := HGH.out; omega
        case rel => exact ⟨i, j + 1, a5, c5, l ++ [3], len1 _ _ _ _, rfl, rfl, by omega, by omega, by omega, Lib.hid (mvs_next HML.out HZ.out), M5, B5⟩
      · have z2 : decide (j < m) = false := by simpa using hj
        have z2I : decide ((j : Int) < (m : Int)) = false := by simp; omega
        have HE := Lib.hid (show l = scr A B by
          have := HML.out
          rw [mF_end (by rw [HAL.out]; omega) (by rw [HBL.out]; omega), List.append_nil] at this; exact this)
        clear hi hj hin hjm
        go_wp2
        go_ret2
        unfold RMovesIs
        rw [← HE.out]
        exact ⟨a, c, rfl, HMV.out.own.mono B1.out.size, B1.out.trans (HBW.out.mono B1.out.size)⟩
#print axioms refMoves_any
end Go.Proofs.YtfoalaoanpbmeaaDoor
