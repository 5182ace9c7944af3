/-
  The walk of the document's Match.
-/
import Derived.Test.YtkafeadgjpglaaaMatchBest
import Derived.Test.YtkafeadgjpglaaaMatchW
import Derived.Test.YtkafeadgjpglaaaBest
namespace Go.Proofs.Ytkafeadgjpglaaa
open Go.RowKit

theorem okB_nan {least : Nat} (h : nanB least = true) (x : Nat) (hx : x < 18446744073709551616) : okB least x = false := by
  unfold okB
  cases hn : nanB x
  · have h1 := num_rise hx hn
    have h2 := nan_rise h
    have h3 : ordF x least = -1 := by unfold ordF intO; rw [if_pos (by omega)]
    rw [h3]; rfl
  · rfl
theorem match_nan {least : Nat} {M : List (List Nat)} (h64 : ∀ r, W64 (M.getD r [])) (h : nanB least = true) : matchF least M = [] := by
  have hc : candM least M M.length = [] := by
    rw [List.eq_nil_iff_forall_not_mem]
    intro p hp
    obtain ⟨_, _, h3, h4⟩ := mem_candM hp
    rw [okB_nan h p.2 (by rw [h3]; exact h64 _ _)] at h4
    cases h4
  unfold matchF
  rw [hc]
  have hr : rankS (([] : List ((Nat × Nat) × Nat)).map Prod.snd) = [] := List.length_eq_zero_iff.1 (by rw [rankS_length]; rfl)
  rw [hr]
  rfl
theorem free_take {T : List (Nat × Nat)} {k : Nat} (hk : k < T.length) (p : Nat × Nat) : freeB (T.take (k + 1)) p = (freeB (T.take k) p && (decide ((T.getD k (0, 0)).1 ≠ p.1) && decide ((T.getD k (0, 0)).2 ≠ p.2))) := by
  have e : T.take (k + 1) = T.take k ++ [T.getD k (0, 0)] := by
    rw [List.take_succ_eq_append_getElem hk]
    simp [hk]
  rw [e]
  unfold freeB
  rw [Bool.eq_iff_iff]
  simp only [Bool.and_eq_true, decide_eq_true_iff, List.mem_append, List.mem_singleton]
  constructor
  · intro h
    exact ⟨fun q hq => h q (.inl hq), (h _ (.inr rfl)).1, (h _ (.inr rfl)).2⟩
  · rintro ⟨h1, h2, h3⟩ q (hq | rfl)
    · exact h1 q hq
    · exact ⟨h2, h3⟩
theorem mem_part {least : Nat} {M : List (List Nat)} {n i j : Nat} {p : (Nat × Nat) × Nat} (hi : i < n) (hj : j < (M.getD i []).length) (h : p ∈ candM least M i ++ candRow least i (M.getD i []) j) :
    p.1.1 < n ∧ p.1.2 < (M.getD p.1.1 []).length ∧ p.2 = (M.getD p.1.1 []).getD p.1.2 0 ∧ okB least p.2 = true := by
  rcases List.mem_append.1 h with h | h
  · obtain ⟨h1, h2, h3, h4⟩ := mem_candM h
    exact ⟨by omega, h2, h3, h4⟩
  · obtain ⟨h1, h2, h3, h4⟩ := mem_candRow h
    rw [h1]
    exact ⟨hi, by omega, h3, h4⟩
theorem okB_num {least x : Nat} (h : okB least x = true) : nanB x = false := by
  unfold okB at h
  rw [Bool.and_eq_true, Bool.not_eq_true'] at h
  exact h.1

set_option maxRecDepth 100000 in
set_option maxHeartbeats 8000000 in
theorem refMatch_any (a : Option Addr) (n c0 : Nat) (M : List (List Nat)) (least : Nat) (w : World) (hM : MatAt w a n c0 M) (h64 : ∀ r, W64 (M.getD r [])) (hl : least < 18446744073709551616) (hn : n ≤ 1000) (hm : ∀ r, (M.getD r []).length ≤ 1000) :
    Calls Try.prog 34 #[.slice a n c0, .float .f64 least] w (Pairs1 (matchF least M) w) := by
  have HM := Lib.hid hM
  have H64 := Lib.hid h64
  have HLS := Lib.hid hl
  have HMM := Lib.hid hm
  have HML := Lib.hid hM.1
  have hnI : (n : Int) ≤ 1000 := by omega
  have hn0 : (0 : Int) ≤ (n : Int) := by omega
  have HN := Lib.hid hn
  obtain ⟨s0, hs0⟩ : ∃ s0, s0 = nanB least := ⟨_, rfl⟩
  have HNL := fun W => Lib.hid (refNan_is least s0 W hs0)
  rcases s0 with _ | _
  · obtain ⟨C, hC⟩ : ∃ C, C = candM least M n := ⟨_, rfl⟩
    have HCE := Lib.hid hC
    have HMF := Lib.hid (show matchF least M = greedyF (C.map Prod.fst) (rankS (C.map Prod.snd)) by unfold matchF; rw [hM.1, ← hC])
    have HC64 := Lib.hid (show W64 (C.map Prod.snd) by rw [hC]; exact w64_cands h64 n)
    have HCL := Lib.hid (show C.length ≤ 1000000 by
      rw [hC]
      have h1 := candM_length least M 1000 hm n
      have h2 : n * 1000 ≤ 1000 * 1000 := Nat.mul_le_mul_right _ hn
      omega)
    obtain ⟨P, hP⟩ : ∃ P, P = C.map Prod.fst := ⟨_, rfl⟩
    obtain ⟨R, hR⟩ : ∃ R, R = rankS (C.map Prod.snd) := ⟨_, rfl⟩
    have HRL := Lib.hid (show R.length = C.length by rw [hR, rankS_length, List.length_map])
    have HPE := Lib.hid hP
    have HRE := Lib.hid hR
    clear hM h64 hl hm hn hC hP hR hs0
    go_enter Try.func34, Try.ntmps34
    go_wp2_with (go_at_call 56; (with_reducible refine (HNL _).out.mono ?_); rintro e w9 ⟨rfl, rfl⟩)
    go_loopg [5] (C.length + 1) (fun g v5 W => ∃ (q : Nat) (a5 : Option Addr) (c5 : Nat) (T : List (Nat × Nat)), v5 = .slice a5 q c5 ∧ g + q = C.length + 1 ∧ Below w.heap.size w W ∧ Hid (Own2 W w.heap.size (.slice a5 q c5) T) ∧ Hid (T.length = q) ∧ Hid (Upon P R T))
    case atStart => exact ⟨0, none, 0, [], rfl, rfl, Below.refl _ _, Lib.hid Own2.nil, Lib.hid rfl, Lib.hid (Upon.zero _ _)⟩
    case round =>
      obtain ⟨q, a5, c5, T, rfl, hg, hbw, HO, HTL, HU⟩ := hrel
      obtain ⟨wo, rfl⟩ : ∃ wo : World, wo = wr := ⟨_, rfl⟩
      have HG := Lib.hid hg
      have HBW := Lib.hid hbw
      have HQC := Lib.hid (show q ≤ C.length by
        obtain ⟨k, hk, hT⟩ := HU.out
        rw [← HTL.out, hT]
        refine Nat.le_trans (greedy_length _ _) ?_
        rw [List.length_take, ← HRL.out]
        omega)
      have hqI : (q : Int) ≤ 1000000 := by have := HQC.out; have := HCL.out; omega
      have hq0 : (0 : Int) ≤ (q : Int) := by omega
      have HAT := Lib.hid HO.out.at2
      clear hg hbw
      go_wp2
      go_loopg [6, 7, 8] n (fun g v6 v7 v8 W => ∃ (i : Nat) (r c : Int), v6 = .int .i64 r ∧ v7 = .int .i64 c ∧ v8 = .int .i64 i ∧ g + i = n ∧ Below wo.heap.size wo W ∧ Hid (BestFree (candM least M i) T r c))
      case atStart => exact ⟨0, -1, -1, rfl, rfl, rfl, rfl, Below.refl _ _, Lib.hid (BestFree.zero T)⟩
      case round =>
        obtain ⟨i, r, c, rfl, rfl, rfl, hg, hbw, HF⟩ := hrel
        have HG2 := Lib.hid hg
        have hi0 : (0 : Int) ≤ (i : Int) := by omega
        have hiI : (i : Int) ≤ (n : Int) := by omega
        have HB2 := Lib.hid hbw
        by_cases hi : (i : Int) < (n : Int)
        · have HI := Lib.hid (show i < n by omega)
          obtain ⟨bm, om, rfl⟩ := HM.out.some_ (by omega)
          obtain ⟨a1, c1, hc0, hat⟩ := (HM.out.below HBW.out).row i HI.out
          obtain ⟨l, hl⟩ : ∃ l, l = M.getD i [] := ⟨_, rfl⟩
          obtain ⟨m, hm⟩ : ∃ m, m = l.length := ⟨_, rfl⟩
          have HLE := Lib.hid hl
          have HME := Lib.hid hm
          rw [← hl, ← hm] at hc0 hat
          have HC0 := Lib.hid hc0
          have HA1 := Lib.hid hat
          have hmI : (m : Int) ≤ 1000 := by have := HMM.out i; rw [← hl, ← hm] at this; omega
          have hm0 : (0 : Int) ≤ (m : Int) := by omega
          have HF0 := Lib.hid (show BestFree (candM least M i ++ candRow least i l 0) T r c by have h := HF.out; have e : candRow least i l 0 = [] := rfl; rw [e, List.append_nil]; exact h)
          clear hg hl hm hat hbw HF hc0
          go_wp2
          go_loopg [6, 7, 9] m (fun g v6 v7 v9 W => ∃ (j : Nat) (r c : Int), v6 = .int .i64 r ∧ v7 = .int .i64 c ∧ v9 = .int .i64 j ∧ g + j = m ∧ Below wo.heap.size wo W ∧ Hid (BestFree (candM least M i ++ candRow least i l j) T r c))
          case atStart => exact ⟨0, r, c, rfl, rfl, rfl, rfl, HB2.out, HF0⟩
          case round =>
            clear HF0 HB2
            obtain ⟨j, r, c, rfl, rfl, rfl, hg, hbw, HF⟩ := hrel
            have HG3 := Lib.hid hg
            have hj0 : (0 : Int) ≤ (j : Int) := by omega
            have hjI : (j : Int) ≤ (m : Int) := by omega
            have HB3 := Lib.hid hbw
            have hcell : wr.cell? ⟨bm, om + i, none⟩ = some (.slice a1 m c1) := (hbw.cell (World.block_lt_of_cell? _ _ HC0.out)).trans HC0.out
            by_cases hj : (j : Int) < (m : Int)
            · have HJ := Lib.hid (show j < m by omega)
              obtain ⟨b1, o1, rfl⟩ := HA1.out.some_ (by omega)
              obtain ⟨x, hx⟩ : ∃ x, x = l.getD j 0 := ⟨_, rfl⟩
              have HXE := Lib.hid hx
              have hcx : wr.cell? ⟨b1, o1 + j, none⟩ = some (.float .f64 x) := by rw [hx]; exact (HA1.out.below hbw).cell j HJ.out
              have HX64 := Lib.hid (show x < 18446744073709551616 by rw [hx, HLE.out]; exact H64.out i j)
              obtain ⟨b, hb⟩ : ∃ b, b = nanB x := ⟨_, rfl⟩
              obtain ⟨z, hz⟩ : ∃ z, z = ordF x least := ⟨_, rfl⟩
              have HNA := fun W => Lib.hid (refNan_is x b W hb)
              have HOR := fun W => Lib.hid (refOrder_is x least z W HX64.out HLS.out hz)
              have HOK := Lib.hid (show okB least x = (!b && decide (0 ≤ z)) by rw [hb, hz]; rfl)
              have HCN := Lib.hid (show candM least M i ++ candRow least i l (j + 1) = (candM least M i ++ candRow least i l j) ++ (if okB least x then [((i, j), x)] else []) by rw [hx, candRow_next, List.append_assoc])
              clear hx hb hz hg hbw
              rcases b with _ | _
              · by_cases hz0 : 0 ≤ z
                · skip
                  have HOK1 := Lib.hid (show okB least x = true by rw [HOK.out, decide_eq_true hz0]; rfl)
                  go_wp2_with (first
                    | (go_at_call 56; (with_reducible refine (HNA _).out.mono ?_); rintro e w9 ⟨rfl, rfl⟩)
                    | (go_at_call 15; (with_reducible refine (HOR _).out.mono ?_); rintro e w9 ⟨rfl, rfl⟩))
                  have HS0 := Lib.hid (show true = (okB least x && freeB (T.take 0) (i, j)) by rw [HOK1.out]; rfl)
                  clear HNA HOR HOK hcell hcx
                  go_loopg [11, 12] q (fun g v11 v12 W => ∃ (k : Nat) (f : Bool), v11 = .bool f ∧ v12 = .int .i64 k ∧ g + k = q ∧ Below wo.heap.size wo W ∧ Hid (f = (okB least x && freeB (T.take k) (i, j))))
                  case atStart => exact ⟨0, true, rfl, rfl, rfl, HB3.out, HS0⟩
                  case round =>
                    clear HS0 HB3
                    obtain ⟨k, f, rfl, rfl, hg, hbw, HFK⟩ := hrel
                    have HG4 := Lib.hid hg
                    have hk0 : (0 : Int) ≤ (k : Int) := by omega
                    have hkI : (k : Int) ≤ (q : Int) := by omega
                    have HB4 := Lib.hid hbw
                    by_cases hk : (k : Int) < (q : Int)
                    · have HK := Lib.hid (show k < q by omega)
                      obtain ⟨b5, o5, rfl⟩ := HAT.out.some_ (by omega)
                      obtain ⟨rk, hrk⟩ : ∃ rk, rk = (T.getD k (0, 0)).1 := ⟨_, rfl⟩
                      obtain ⟨qk, hqk⟩ : ∃ qk, qk = (T.getD k (0, 0)).2 := ⟨_, rfl⟩
                      have hc1 : wr.cell? ⟨b5, o5 + k * 2, none⟩ = some (.int .i64 (rk : Int)) := by rw [hrk]; exact (HAT.out.below hbw).fst k HK.out
                      have hc2 : wr.cell? ⟨b5, o5 + k * 2 + 1, none⟩ = some (.int .i64 (qk : Int)) := by rw [hqk]; exact (HAT.out.below hbw).snd k HK.out
                      obtain ⟨d1, hd1⟩ : ∃ d1, d1 = ((rk : Int) != (i : Int)) := ⟨_, rfl⟩
                      obtain ⟨d2, hd2⟩ : ∃ d2, d2 = ((qk : Int) != (j : Int)) := ⟨_, rfl⟩
                      have HFN := Lib.hid (show (okB least x && freeB (T.take (k + 1)) (i, j)) = (f && (d1 && d2)) by
                        rw [free_take (by rw [HTL.out]; exact HK.out), ← Bool.and_assoc, ← HFK.out, hd1, hd2, ← hrk, ← hqk]
                        congr 1
                        congr 1 <;> rw [Bool.eq_iff_iff] <;> simp <;> omega)
                      have hd1' := hd1.symm
                      have hd2' := hd2.symm
                      clear hg hbw hrk hqk hd1 hd2
                      rcases f with _ | _
                      · have HFE := Lib.hid (show false = (okB least x && freeB (T.take (k + 1)) (i, j)) by rw [HFN.out]; rfl)
                        clear hc1 hc2 hd1' hd2'
                        go_wp2
                        go_roundg (q - (k + 1))
                        case measure => have := HG4.out; have := HK.out; omega
                        case rel => exact ⟨k + 1, false, rfl, by go_num, by have := HK.out; omega, HB4.out, HFE⟩
                      · rcases d1 with _ | _
                        · have HFE := Lib.hid (show false = (okB least x && freeB (T.take (k + 1)) (i, j)) by rw [HFN.out]; rfl)
                          clear hd2'
                          go_wp2
                          go_roundg (q - (k + 1))
                          case measure => have := HG4.out; have := HK.out; omega
                          case rel => exact ⟨k + 1, false, rfl, by go_num, by have := HK.out; omega, HB4.out, HFE⟩
                        · rcases d2 with _ | _
                          · have HFE := Lib.hid (show false = (okB least x && freeB (T.take (k + 1)) (i, j)) by rw [HFN.out]; rfl)
                            go_wp2
                            go_roundg (q - (k + 1))
                            case measure => have := HG4.out; have := HK.out; omega
                            case rel => exact ⟨k + 1, false, rfl, by go_num, by have := HK.out; omega, HB4.out, HFE⟩
                          · have HFE := Lib.hid (show true = (okB least x && freeB (T.take (k + 1)) (i, j)) by rw [HFN.out]; rfl)
                            go_wp2
                            go_roundg (q - (k + 1))
                            case measure => have := HG4.out; have := HK.out; omega
                            case rel => exact ⟨k + 1, true, rfl, by go_num, by have := HK.out; omega, HB4.out, HFE⟩
                    · have HFT := Lib.hid (show f = (okB least x && freeB T (i, j)) by have h := HFK.out; rwa [List.take_of_length_le (by rw [HTL.out]; omega)] at h)
                      clear hg hbw
                      rcases f with _ | _
                      · have HFN := Lib.hid (show BestFree (candM least M i ++ candRow least i l (j + 1)) T r c by
                          rw [HCN.out]
                          cases ho : okB least x
                          · simp only [Bool.false_eq_true, if_false, List.append_nil]; exact HF.out
                          · simp only [if_true]
                            exact HF.out.skip ((i, j), x) (by have h := HFT.out; rw [ho, Bool.true_and] at h; exact h.symm))
                        go_wp2
                        go_roundg (m - (j + 1))
                        case measure => have := HG3.out; have := HJ.out; omega
                        case rel => exact ⟨j + 1, r, c, rfl, rfl, by go_num, by have := HJ.out; omega, HB4.out, HFN⟩
                      · have HOT := Lib.hid (show okB least x = true ∧ freeB T (i, j) = true by have h := HFT.out; exact Bool.and_eq_true_iff.1 h.symm)
                        have HCT := Lib.hid (show candM least M i ++ candRow least i l (j + 1) = (candM least M i ++ candRow least i l j) ++ [((i, j), x)] by rw [HCN.out, HOT.out.1]; rfl)
                        by_cases hr : r < 0
                        · have HFN := Lib.hid (show BestFree (candM least M i ++ candRow least i l (j + 1)) T (i : Int) (j : Int) by
                            rw [HCT.out]
                            have hr1 : r = -1 := by
                              rcases HF.out with ⟨h1, _, _⟩ | ⟨e, p, _, h2, _⟩
                              · exact h1
                              · omega
                            have h := HF.out
                            rw [hr1] at h
                            exact h.first ((i, j), x) HOT.out.2)
                          go_wp2
                          go_roundg (m - (j + 1))
                          case measure => have := HG3.out; have := HJ.out; omega
                          case rel => exact ⟨j + 1, i, j, rfl, rfl, by go_num, by have := HJ.out; omega, HB4.out, HFN⟩
                        · obtain ⟨p, hp, rfl, rfl, hn1, hn2⟩ := HF.out.other (by omega) ((i, j), x) HOT.out.2
                          obtain ⟨⟨pr, pc1⟩, y⟩ := p
                          obtain ⟨hp1, hp2, hp3, hp4⟩ := mem_part (least := least) (n := n) HI.out (by rw [← HLE.out, ← HME.out]; exact HJ.out) (by rw [← HLE.out]; exact hp)
                          simp only at hp1 hp2 hp3 hp4 hn1 hn2 hr ⊢
                          obtain ⟨a6, c6, hc6, hat6⟩ := (HM.out.below (Below.trans HBW.out (HB4.out.mono HBW.out.size))).row pr hp1
                          obtain ⟨l6, hl6⟩ : ∃ l6, l6 = M.getD pr [] := ⟨_, rfl⟩
                          obtain ⟨m6, hm6⟩ : ∃ m6, m6 = l6.length := ⟨_, rfl⟩
                          rw [← hl6, ← hm6] at hc6 hat6
                          rw [← hl6, ← hm6] at hp2
                          rw [← hl6] at hp3
                          obtain ⟨b6, o6, rfl⟩ := hat6.some_ (by omega)
                          have hcy : wr.cell? ⟨b6, o6 + pc1, none⟩ = some (.float .f64 y) := by rw [hp3]; exact hat6.cell pc1 hp2
                          have hpr0 : (0 : Int) ≤ (pr : Int) := by omega
                          have hprI : (pr : Int) < (n : Int) := by omega
                          have hpc0 : (0 : Int) ≤ (pc1 : Int) := by omega
                          have hpcI : (pc1 : Int) < (m6 : Int) := by omega
                          obtain ⟨z2, hz2⟩ : ∃ z2, z2 = ordF x y := ⟨_, rfl⟩
                          have HO2 := fun W => Lib.hid (refOrder_is x y z2 W HX64.out (by rw [hp3, hl6]; exact H64.out pr pc1) hz2)
                          have HKF := Lib.hid (show 0 < z2 ↔ kf x < kf y by rw [hz2]; exact (kf_num (okB_num HOT.out.1) (okB_num hp4)).1)
                          have HN1 := Lib.hid hn1
                          have HN2 := Lib.hid hn2
                          have hrd : decide ((pr : Int) < 0) = false := decide_eq_false (by omega)
                          clear hn1 hn2 hp hp1 hp2 hp3 hp4 hat6 hl6 hm6 hz2 hr
                          by_cases hz2 : 0 < z2
                          · have HFN := Lib.hid (show BestFree (candM least M i ++ candRow least i l (j + 1)) T (i : Int) (j : Int) by rw [HCT.out]; exact HN1.out (HKF.out.1 hz2))
                            go_wp2_with (go_at_call 15; (with_reducible refine (HO2 _).out.mono ?_); rintro e w9 ⟨rfl, rfl⟩)
                            go_roundg (m - (j + 1))
                            case measure => have := HG3.out; have := HJ.out; omega
                            case rel => exact ⟨j + 1, i, j, rfl, rfl, by go_num, by have := HJ.out; omega, HB4.out, HFN⟩
                          · have HFN := Lib.hid (show BestFree (candM least M i ++ candRow least i l (j + 1)) T (pr : Int) (pc1 : Int) by rw [HCT.out]; exact HN2.out (fun h => hz2 (HKF.out.2 h)))
                            have hzd : decide (0 < z2) = false := decide_eq_false hz2
                            clear hz2
                            go_wp2_with (go_at_call 15; (with_reducible refine (HO2 _).out.mono ?_); rintro e w9 ⟨rfl, rfl⟩)
                            go_roundg (m - (j + 1))
                            case measure => have := HG3.out; have := HJ.out; omega
                            case rel => exact ⟨j + 1, (pr : Int), (pc1 : Int), rfl, rfl, by go_num, by have := HJ.out; omega, HB4.out, HFN⟩
                · have hzf : decide (0 ≤ z) = false := decide_eq_false hz0
                  have HOK1 := Lib.hid (show okB least x = false by rw [HOK.out, hzf]; rfl)
                  go_wp2_with (first
                    | (go_at_call 56; (with_reducible refine (HNA _).out.mono ?_); rintro e w9 ⟨rfl, rfl⟩)
                    | (go_at_call 15; (with_reducible refine (HOR _).out.mono ?_); rintro e w9 ⟨rfl, rfl⟩))
                  have HS0 := Lib.hid (show false = (okB least x && freeB (T.take 0) (i, j)) by rw [HOK1.out]; rfl)
                  clear HNA HOR HOK hcell hcx
                  go_loopg [11, 12] q (fun g v11 v12 W => ∃ (k : Nat) (f : Bool), v11 = .bool f ∧ v12 = .int .i64 k ∧ g + k = q ∧ Below wo.heap.size wo W ∧ Hid (f = (okB least x && freeB (T.take k) (i, j))))
                  case atStart => exact ⟨0, false, rfl, rfl, rfl, HB3.out, HS0⟩
                  case round =>
                    clear HS0 HB3
                    obtain ⟨k, f, rfl, rfl, hg, hbw, HFK⟩ := hrel
                    have HG4 := Lib.hid hg
                    have hk0 : (0 : Int) ≤ (k : Int) := by omega
                    have hkI : (k : Int) ≤ (q : Int) := by omega
                    have HB4 := Lib.hid hbw
                    by_cases hk : (k : Int) < (q : Int)
                    · have HK := Lib.hid (show k < q by omega)
                      obtain ⟨b5, o5, rfl⟩ := HAT.out.some_ (by omega)
                      obtain ⟨rk, hrk⟩ : ∃ rk, rk = (T.getD k (0, 0)).1 := ⟨_, rfl⟩
                      obtain ⟨qk, hqk⟩ : ∃ qk, qk = (T.getD k (0, 0)).2 := ⟨_, rfl⟩
                      have hc1 : wr.cell? ⟨b5, o5 + k * 2, none⟩ = some (.int .i64 (rk : Int)) := by rw [hrk]; exact (HAT.out.below hbw).fst k HK.out
                      have hc2 : wr.cell? ⟨b5, o5 + k * 2 + 1, none⟩ = some (.int .i64 (qk : Int)) := by rw [hqk]; exact (HAT.out.below hbw).snd k HK.out
                      obtain ⟨d1, hd1⟩ : ∃ d1, d1 = ((rk : Int) != (i : Int)) := ⟨_, rfl⟩
                      obtain ⟨d2, hd2⟩ : ∃ d2, d2 = ((qk : Int) != (j : Int)) := ⟨_, rfl⟩
                      have HFN := Lib.hid (show (okB least x && freeB (T.take (k + 1)) (i, j)) = (f && (d1 && d2)) by
                        rw [free_take (by rw [HTL.out]; exact HK.out), ← Bool.and_assoc, ← HFK.out, hd1, hd2, ← hrk, ← hqk]
                        congr 1
                        congr 1 <;> rw [Bool.eq_iff_iff] <;> simp <;> omega)
                      have hd1' := hd1.symm
                      have hd2' := hd2.symm
                      clear hg hbw hrk hqk hd1 hd2
                      rcases f with _ | _
                      · have HFE := Lib.hid (show false = (okB least x && freeB (T.take (k + 1)) (i, j)) by rw [HFN.out]; rfl)
                        clear hc1 hc2 hd1' hd2'
                        go_wp2
                        go_roundg (q - (k + 1))
                        case measure => have := HG4.out; have := HK.out; omega
                        case rel => exact ⟨k + 1, false, rfl, by go_num, by have := HK.out; omega, HB4.out, HFE⟩
                      · rcases d1 with _ | _
                        · have HFE := Lib.hid (show false = (okB least x && freeB (T.take (k + 1)) (i, j)) by rw [HFN.out]; rfl)
                          clear hd2'
                          go_wp2
                          go_roundg (q - (k + 1))
                          case measure => have := HG4.out; have := HK.out; omega
                          case rel => exact ⟨k + 1, false, rfl, by go_num, by have := HK.out; omega, HB4.out, HFE⟩
                        · rcases d2 with _ | _
                          · have HFE := Lib.hid (show false = (okB least x && freeB (T.take (k + 1)) (i, j)) by rw [HFN.out]; rfl)
                            go_wp2
                            go_roundg (q - (k + 1))
                            case measure => have := HG4.out; have := HK.out; omega
                            case rel => exact ⟨k + 1, false, rfl, by go_num, by have := HK.out; omega, HB4.out, HFE⟩
                          · have HFE := Lib.hid (show true = (okB least x && freeB (T.take (k + 1)) (i, j)) by rw [HFN.out]; rfl)
                            go_wp2
                            go_roundg (q - (k + 1))
                            case measure => have := HG4.out; have := HK.out; omega
                            case rel => exact ⟨k + 1, true, rfl, by go_num, by have := HK.out; omega, HB4.out, HFE⟩
                    · have HFT := Lib.hid (show f = (okB least x && freeB T (i, j)) by have h := HFK.out; rwa [List.take_of_length_le (by rw [HTL.out]; omega)] at h)
                      clear hg hbw
                      rcases f with _ | _
                      · have HFN := Lib.hid (show BestFree (candM least M i ++ candRow least i l (j + 1)) T r c by
                          rw [HCN.out]
                          cases ho : okB least x
                          · simp only [Bool.false_eq_true, if_false, List.append_nil]; exact HF.out
                          · simp only [if_true]
                            exact HF.out.skip ((i, j), x) (by have h := HFT.out; rw [ho, Bool.true_and] at h; exact h.symm))
                        go_wp2
                        go_roundg (m - (j + 1))
                        case measure => have := HG3.out; have := HJ.out; omega
                        case rel => exact ⟨j + 1, r, c, rfl, rfl, by go_num, by have := HJ.out; omega, HB4.out, HFN⟩
                      · have HOT := Lib.hid (show okB least x = true ∧ freeB T (i, j) = true by have h := HFT.out; exact Bool.and_eq_true_iff.1 h.symm)
                        have HCT := Lib.hid (show candM least M i ++ candRow least i l (j + 1) = (candM least M i ++ candRow least i l j) ++ [((i, j), x)] by rw [HCN.out, HOT.out.1]; rfl)
                        by_cases hr : r < 0
                        · have HFN := Lib.hid (show BestFree (candM least M i ++ candRow least i l (j + 1)) T (i : Int) (j : Int) by
                            rw [HCT.out]
                            have hr1 : r = -1 := by
                              rcases HF.out with ⟨h1, _, _⟩ | ⟨e, p, _, h2, _⟩
                              · exact h1
                              · omega
                            have h := HF.out
                            rw [hr1] at h
                            exact h.first ((i, j), x) HOT.out.2)
                          go_wp2
                          go_roundg (m - (j + 1))
                          case measure => have := HG3.out; have := HJ.out; omega
                          case rel => exact ⟨j + 1, i, j, rfl, rfl, by go_num, by have := HJ.out; omega, HB4.out, HFN⟩
                        · obtain ⟨p, hp, rfl, rfl, hn1, hn2⟩ := HF.out.other (by omega) ((i, j), x) HOT.out.2
                          obtain ⟨⟨pr, pc1⟩, y⟩ := p
                          obtain ⟨hp1, hp2, hp3, hp4⟩ := mem_part (least := least) (n := n) HI.out (by rw [← HLE.out, ← HME.out]; exact HJ.out) (by rw [← HLE.out]; exact hp)
                          simp only at hp1 hp2 hp3 hp4 hn1 hn2 hr ⊢
                          obtain ⟨a6, c6, hc6, hat6⟩ := (HM.out.below (Below.trans HBW.out (HB4.out.mono HBW.out.size))).row pr hp1
                          obtain ⟨l6, hl6⟩ : ∃ l6, l6 = M.getD pr [] := ⟨_, rfl⟩
                          obtain ⟨m6, hm6⟩ : ∃ m6, m6 = l6.length := ⟨_, rfl⟩
                          rw [← hl6, ← hm6] at hc6 hat6
                          rw [← hl6, ← hm6] at hp2
                          rw [← hl6] at hp3
                          obtain ⟨b6, o6, rfl⟩ := hat6.some_ (by omega)
                          have hcy : wr.cell? ⟨b6, o6 + pc1, none⟩ = some (.float .f64 y) := by rw [hp3]; exact hat6.cell pc1 hp2
                          have hpr0 : (0 : Int) ≤ (pr : Int) := by omega
                          have hprI : (pr : Int) < (n : Int) := by omega
                          have hpc0 : (0 : Int) ≤ (pc1 : Int) := by omega
                          have hpcI : (pc1 : Int) < (m6 : Int) := by omega
                          obtain ⟨z2, hz2⟩ : ∃ z2, z2 = ordF x y := ⟨_, rfl⟩
                          have HO2 := fun W => Lib.hid (refOrder_is x y z2 W HX64.out (by rw [hp3, hl6]; exact H64.out pr pc1) hz2)
                          have HKF := Lib.hid (show 0 < z2 ↔ kf x < kf y by rw [hz2]; exact (kf_num (okB_num HOT.out.1) (okB_num hp4)).1)
                          have HN1 := Lib.hid hn1
                          have HN2 := Lib.hid hn2
                          have hrd : decide ((pr : Int) < 0) = false := decide_eq_false (by omega)
                          clear hn1 hn2 hp hp1 hp2 hp3 hp4 hat6 hl6 hm6 hz2 hr
                          by_cases hz2 : 0 < z2
                          · have HFN := Lib.hid (show BestFree (candM least M i ++ candRow least i l (j + 1)) T (i : Int) (j : Int) by rw [HCT.out]; exact HN1.out (HKF.out.1 hz2))
                            go_wp2_with (go_at_call 15; (with_reducible refine (HO2 _).out.mono ?_); rintro e w9 ⟨rfl, rfl⟩)
                            go_roundg (m - (j + 1))
                            case measure => have := HG3.out; have := HJ.out; omega
                            case rel => exact ⟨j + 1, i, j, rfl, rfl, by go_num, by have := HJ.out; omega, HB4.out, HFN⟩
                          · have HFN := Lib.hid (show BestFree (candM least M i ++ candRow least i l (j + 1)) T (pr : Int) (pc1 : Int) by rw [HCT.out]; exact HN2.out (fun h => hz2 (HKF.out.2 h)))
                            have hzd : decide (0 < z2) = false := decide_eq_false hz2
                            clear hz2
                            go_wp2_with (go_at_call 15; (with_reducible refine (HO2 _).out.mono ?_); rintro e w9 ⟨rfl, rfl⟩)
                            go_roundg (m - (j + 1))
                            case measure => have := HG3.out; have := HJ.out; omega
                            case rel => exact ⟨j + 1, (pr : Int), (pc1 : Int), rfl, rfl, by go_num, by have := HJ.out; omega, HB4.out, HFN⟩
              · skip
                have HOK1 := Lib.hid (show okB least x = false by rw [HOK.out]; rfl)
                go_wp2_with (first
                  | (go_at_call 56; (with_reducible refine (HNA _).out.mono ?_); rintro e w9 ⟨rfl, rfl⟩)
                  | (go_at_call 15; (with_reducible refine (HOR _).out.mono ?_); rintro e w9 ⟨rfl, rfl⟩))
                have HS0 := Lib.hid (show false = (okB least x && freeB (T.take 0) (i, j)) by rw [HOK1.out]; rfl)
                clear HNA HOR HOK hcell hcx
                go_loopg [11, 12] q (fun g v11 v12 W => ∃ (k : Nat) (f : Bool), v11 = .bool f ∧ v12 = .int .i64 k ∧ g + k = q ∧ Below wo.heap.size wo W ∧ Hid (f = (okB least x && freeB (T.take k) (i, j))))
                case atStart => exact ⟨0, false, rfl, rfl, rfl, HB3.out, HS0⟩
                case round =>
                  clear HS0 HB3
                  obtain ⟨k, f, rfl, rfl, hg, hbw, HFK⟩ := hrel
                  have HG4 := Lib.hid hg
                  have hk0 : (0 : Int) ≤ (k : Int) := by omega
                  have hkI : (k : Int) ≤ (q : Int) := by omega
                  have HB4 := Lib.hid hbw
                  by_cases hk : (k : Int) < (q : Int)
                  · have HK := Lib.hid (show k < q by omega)
                    obtain ⟨b5, o5, rfl⟩ := HAT.out.some_ (by omega)
                    obtain ⟨rk, hrk⟩ : ∃ rk, rk = (T.getD k (0, 0)).1 := ⟨_, rfl⟩
                    obtain ⟨qk, hqk⟩ : ∃ qk, qk = (T.getD k (0, 0)).2 := ⟨_, rfl⟩
                    have hc1 : wr.cell? ⟨b5, o5 + k * 2, none⟩ = some (.int .i64 (rk : Int)) := by rw [hrk]; exact (HAT.out.below hbw).fst k HK.out
                    have hc2 : wr.cell? ⟨b5, o5 + k * 2 + 1, none⟩ = some (.int .i64 (qk : Int)) := by rw [hqk]; exact (HAT.out.below hbw).snd k HK.out
                    obtain ⟨d1, hd1⟩ : ∃ d1, d1 = ((rk : Int) != (i : Int)) := ⟨_, rfl⟩
                    obtain ⟨d2, hd2⟩ : ∃ d2, d2 = ((qk : Int) != (j : Int)) := ⟨_, rfl⟩
                    have HFN := Lib.hid (show (okB least x && freeB (T.take (k + 1)) (i, j)) = (f && (d1 && d2)) by
                      rw [free_take (by rw [HTL.out]; exact HK.out), ← Bool.and_assoc, ← HFK.out, hd1, hd2, ← hrk, ← hqk]
                      congr 1
                      congr 1 <;> rw [Bool.eq_iff_iff] <;> simp <;> omega)
                    have hd1' := hd1.symm
                    have hd2' := hd2.symm
                    clear hg hbw hrk hqk hd1 hd2
                    rcases f with _ | _
                    · have HFE := Lib.hid (show false = (okB least x && freeB (T.take (k + 1)) (i, j)) by rw [HFN.out]; rfl)
                      clear hc1 hc2 hd1' hd2'
                      go_wp2
                      go_roundg (q - (k + 1))
                      case measure => have := HG4.out; have := HK.out; omega
                      case rel => exact ⟨k + 1, false, rfl, by go_num, by have := HK.out; omega, HB4.out, HFE⟩
                    · rcases d1 with _ | _
                      · have HFE := Lib.hid (show false = (okB least x && freeB (T.take (k + 1)) (i, j)) by rw [HFN.out]; rfl)
                        clear hd2'
                        go_wp2
                        go_roundg (q - (k + 1))
                        case measure => have := HG4.out; have := HK.out; omega
                        case rel => exact ⟨k + 1, false, rfl, by go_num, by have := HK.out; omega, HB4.out, HFE⟩
                      · rcases d2 with _ | _
                        · have HFE := Lib.hid (show false = (okB least x && freeB (T.take (k + 1)) (i, j)) by rw [HFN.out]; rfl)
                          go_wp2
                          go_roundg (q - (k + 1))
                          case measure => have := HG4.out; have := HK.out; omega
                          case rel => exact ⟨k + 1, false, rfl, by go_num, by have := HK.out; omega, HB4.out, HFE⟩
                        · have HFE := Lib.hid (show true = (okB least x && freeB (T.take (k + 1)) (i, j)) by rw [HFN.out]; rfl)
                          go_wp2
                          go_roundg (q - (k + 1))
                          case measure => have := HG4.out; have := HK.out; omega
                          case rel => exact ⟨k + 1, true, rfl, by go_num, by have := HK.out; omega, HB4.out, HFE⟩
                  · have HFT := Lib.hid (show f = (okB least x && freeB T (i, j)) by have h := HFK.out; rwa [List.take_of_length_le (by rw [HTL.out]; omega)] at h)
                    clear hg hbw
                    rcases f with _ | _
                    · have HFN := Lib.hid (show BestFree (candM least M i ++ candRow least i l (j + 1)) T r c by
                        rw [HCN.out]
                        cases ho : okB least x
                        · simp only [Bool.false_eq_true, if_false, List.append_nil]; exact HF.out
                        · simp only [if_true]
                          exact HF.out.skip ((i, j), x) (by have h := HFT.out; rw [ho, Bool.true_and] at h; exact h.symm))
                      go_wp2
                      go_roundg (m - (j + 1))
                      case measure => have := HG3.out; have := HJ.out; omega
                      case rel => exact ⟨j + 1, r, c, rfl, rfl, by go_num, by have := HJ.out; omega, HB4.out, HFN⟩
                    · have HOT := Lib.hid (show okB least x = true ∧ freeB T (i, j) = true by have h := HFT.out; exact Bool.and_eq_true_iff.1 h.symm)
                      have HCT := Lib.hid (show candM least M i ++ candRow least i l (j + 1) = (candM least M i ++ candRow least i l j) ++ [((i, j), x)] by rw [HCN.out, HOT.out.1]; rfl)
                      by_cases hr : r < 0
                      · have HFN := Lib.hid (show BestFree (candM least M i ++ candRow least i l (j + 1)) T (i : Int) (j : Int) by
                          rw [HCT.out]
                          have hr1 : r = -1 := by
                            rcases HF.out with ⟨h1, _, _⟩ | ⟨e, p, _, h2, _⟩
                            · exact h1
                            · omega
                          have h := HF.out
                          rw [hr1] at h
                          exact h.first ((i, j), x) HOT.out.2)
                        go_wp2
                        go_roundg (m - (j + 1))
                        case measure => have := HG3.out; have := HJ.out; omega
                        case rel => exact ⟨j + 1, i, j, rfl, rfl, by go_num, by have := HJ.out; omega, HB4.out, HFN⟩
                      · obtain ⟨p, hp, rfl, rfl, hn1, hn2⟩ := HF.out.other (by omega) ((i, j), x) HOT.out.2
                        obtain ⟨⟨pr, pc1⟩, y⟩ := p
                        obtain ⟨hp1, hp2, hp3, hp4⟩ := mem_part (least := least) (n := n) HI.out (by rw [← HLE.out, ← HME.out]; exact HJ.out) (by rw [← HLE.out]; exact hp)
                        simp only at hp1 hp2 hp3 hp4 hn1 hn2 hr ⊢
                        obtain ⟨a6, c6, hc6, hat6⟩ := (HM.out.below (Below.trans HBW.out (HB4.out.mono HBW.out.size))).row pr hp1
                        obtain ⟨l6, hl6⟩ : ∃ l6, l6 = M.getD pr [] := ⟨_, rfl⟩
                        obtain ⟨m6, hm6⟩ : ∃ m6, m6 = l6.length := ⟨_, rfl⟩
                        rw [← hl6, ← hm6] at hc6 hat6
                        rw [← hl6, ← hm6] at hp2
                        rw [← hl6] at hp3
                        obtain ⟨b6, o6, rfl⟩ := hat6.some_ (by omega)
                        have hcy : wr.cell? ⟨b6, o6 + pc1, none⟩ = some (.float .f64 y) := by rw [hp3]; exact hat6.cell pc1 hp2
                        have hpr0 : (0 : Int) ≤ (pr : Int) := by omega
                        have hprI : (pr : Int) < (n : Int) := by omega
                        have hpc0 : (0 : Int) ≤ (pc1 : Int) := by omega
                        have hpcI : (pc1 : Int) < (m6 : Int) := by omega
                        obtain ⟨z2, hz2⟩ : ∃ z2, z2 = ordF x y := ⟨_, rfl⟩
                        have HO2 := fun W => Lib.hid (refOrder_is x y z2 W HX64.out (by rw [hp3, hl6]; exact H64.out pr pc1) hz2)
                        have HKF := Lib.hid (show 0 < z2 ↔ kf x < kf y by rw [hz2]; exact (kf_num (okB_num HOT.out.1) (okB_num hp4)).1)
                        have HN1 := Lib.hid hn1
                        have HN2 := Lib.hid hn2
                        have hrd : decide ((pr : Int) < 0) = false := decide_eq_false (by omega)
                        clear hn1 hn2 hp hp1 hp2 hp3 hp4 hat6 hl6 hm6 hz2 hr
                        by_cases hz2 : 0 < z2
                        · have HFN := Lib.hid (show BestFree (candM least M i ++ candRow least i l (j + 1)) T (i : Int) (j : Int) by rw [HCT.out]; exact HN1.out (HKF.out.1 hz2))
                          go_wp2_with (go_at_call 15; (with_reducible refine (HO2 _).out.mono ?_); rintro e w9 ⟨rfl, rfl⟩)
                          go_roundg (m - (j + 1))
                          case measure => have := HG3.out; have := HJ.out; omega
                          case rel => exact ⟨j + 1, i, j, rfl, rfl, by go_num, by have := HJ.out; omega, HB4.out, HFN⟩
                        · have HFN := Lib.hid (show BestFree (candM least M i ++ candRow least i l (j + 1)) T (pr : Int) (pc1 : Int) by rw [HCT.out]; exact HN2.out (fun h => hz2 (HKF.out.2 h)))
                          have hzd : decide (0 < z2) = false := decide_eq_false hz2
                          clear hz2
                          go_wp2_with (go_at_call 15; (with_reducible refine (HO2 _).out.mono ?_); rintro e w9 ⟨rfl, rfl⟩)
                          go_roundg (m - (j + 1))
                          case measure => have := HG3.out; have := HJ.out; omega
                          case rel => exact ⟨j + 1, (pr : Int), (pc1 : Int), rfl, rfl, by go_num, by have := HJ.out; omega, HB4.out, HFN⟩
            · have hjm : j = m := by omega
              have HFN := Lib.hid (show BestFree (candM least M (i + 1)) T r c by rw [candM_next, ← HLE.out, ← HME.out, ← hjm]; exact HF.out)
              clear hg hbw hjm
              go_wp2
              go_roundg (n - (i + 1))
              case measure => have := HG2.out; have := HI.out; omega
              case rel => exact ⟨i + 1, r, c, rfl, rfl, by go_num, by have := HI.out; omega, HB3.out, HFN⟩
        · have hin : i = n := by omega
          have HFC := Lib.hid (show BestFree C T r c by rw [HCE.out, ← hin]; exact HF.out)
          clear hg hbw hin
          by_cases hr : r < 0
          · have HE := Lib.hid (show matchF least M = T by
              rw [HMF.out]
              have hr1 : r = -1 := by
                rcases HFC.out with ⟨h1, _, _⟩ | ⟨e, p, _, h2, _⟩
                · exact h1
                · omega
              have h := HFC.out
              rw [hr1] at h
              exact upon_end HC64.out (by rw [← HPE.out, ← HRE.out]; exact HU.out) h)
            go_wp2
            go_ret
            rw [HE.out]
            exact ⟨_, _, _, rfl, HAT.out.below HB2.out, Below.trans HBW.out (HB2.out.mono HBW.out.size)⟩
          · obtain ⟨p, hp, rfl, rfl, hfr, hup⟩ := upon_more HC64.out (by rw [← HPE.out, ← HRE.out]; exact HU.out) HFC.out (by omega)
            obtain ⟨⟨pr, pc1⟩, y⟩ := p
            simp only at hup hr ⊢
            rw [← HPE.out, ← HRE.out] at hup
            have HUN := Lib.hid hup
            have hrd : decide ((pr : Int) < 0) = false := decide_eq_false (by omega)
            have HOP := Lib.hid ((HO.out.below HB2.out).alloc (.cells #[N pr, N pc1] 48))
            have HSRC := Lib.hid (pair_src wr (pr, pc1))
            have HP48 := Lib.hid (show T.length + 1 ≤ 1000000000000 by rw [HTL.out]; have := HQC.out; have := HCL.out; omega)
            have HPL := Lib.hid (show q + 1 = T.length + 1 by rw [HTL.out])
            have HBA := Lib.hid ((Below.trans HBW.out (HB2.out.mono HBW.out.size)).alloc (Below.trans HBW.out (HB2.out.mono HBW.out.size)).size (.cells #[N pr, N pc1] 48))
            have HTN := Lib.hid (show (T ++ [(pr, pc1)]).length = q + 1 by rw [List.length_append, HTL.out]; rfl)
            have HQN := Lib.hid (show q + 1 ≤ C.length by
              obtain ⟨k, hk, hT⟩ := HUN.out
              rw [← HTN.out, hT]
              refine Nat.le_trans (greedy_length _ _) ?_
              rw [List.length_take, ← HRL.out]
              omega)
            clear hup hfr hp hr
            go_wp2_with (first
              | ((with_reducible show wpList _ _ _ (⟨some 97, _, _, _, _, _⟩ :: _) _ _); refine wl_pair1 rfl _ rfl (pr, pc1) rfl ?_)
              | ((with_reducible show wpList _ _ _ (⟨some 98, _, _, _, _, _⟩ :: _) _ _); go_must (refine app2_told rfl (.tmp 93) (.tmp 97) rfl w.heap.size _ T rfl HOP.out wr.heap.size (pr, pc1) rfl HSRC.out HP48.out HBA.out.size (q + 1) HPL.out ?_); intro a7 c7 w7 hown7 hgr7 htd7; have HO7 := Lib.hid hown7; have HB7 := Lib.hid (HBA.out.grown hgr7 HBA.out.size (fun k hk => (HOP.out.lt k hk).1)); clear hown7 hgr7 htd7))
            go_roundg (C.length + 1 - (q + 1))
            case measure => have := HG.out; have := HQN.out; omega
            case rel => exact ⟨q + 1, a7, c7, T ++ [(pr, pc1)], rfl, by have := HQN.out; omega, HB7.out, HO7, HTN, HUN⟩
  · have HE := Lib.hid (match_nan h64 hs0.symm)
    clear hM h64 hl hm hn hs0
    go_enter Try.func34, Try.ntmps34
    go_wp2_with (go_at_call 56; (with_reducible refine (HNL _).out.mono ?_); rintro e w9 ⟨rfl, rfl⟩)
    go_ret
    rw [HE.out]
    exact ⟨_, _, _, rfl, At2.nil, Below.refl _ _⟩
end Go.Proofs.Ytkafeadgjpglaaa
