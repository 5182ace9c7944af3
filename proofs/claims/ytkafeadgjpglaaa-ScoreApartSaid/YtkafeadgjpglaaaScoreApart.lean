/-
  The walk of the law ScoreApart.
-/
import Derived.Test.YtkafeadgjpglaaaMatchW
import Derived.Test.YtkafeadgjpglaaaScoreAwake
namespace Go.Proofs.Ytkafeadgjpglaaa
open Go.RowKit

theorem greedy_mem (P : List (Nat × Nat)) : ∀ (R : List Nat) (T : List (Nat × Nat)), (∀ i ∈ R, i < P.length) → (∀ q ∈ T, q ∈ P) → ∀ q ∈ R.foldl (stepG P) T, q ∈ P
  | [], T, _, hT => hT
  | i :: R, T, hR, hT => by
    rw [List.foldl_cons]
    refine greedy_mem P R _ (fun j hj => hR j (List.mem_cons_of_mem _ hj)) ?_
    unfold stepG
    split
    · intro q hq
      rw [List.mem_append, List.mem_singleton] at hq
      rcases hq with hq | rfl
      · exact hT q hq
      · have hi := hR i (List.mem_cons_self ..)
        simp only [List.getD_eq_getElem?_getD, List.getElem?_eq_getElem hi, Option.getD_some]
        exact List.getElem_mem hi
    · exact hT
theorem greedy_apart (P : List (Nat × Nat)) : ∀ (R : List Nat) (T : List (Nat × Nat)), T.Pairwise (fun p q => p.1 ≠ q.1 ∧ p.2 ≠ q.2) → (R.foldl (stepG P) T).Pairwise (fun p q => p.1 ≠ q.1 ∧ p.2 ≠ q.2)
  | [], T, hT => hT
  | i :: R, T, hT => by
    rw [List.foldl_cons]
    refine greedy_apart P R _ ?_
    unfold stepG
    split
    · rename_i h
      rw [List.pairwise_append]
      refine ⟨hT, by simp, fun p hp q hq => ?_⟩
      rw [List.mem_singleton] at hq
      subst hq
      exact of_decide_eq_true h p hp
    · exact hT
theorem match_pair {least : Nat} {M : List (List Nat)} (h64 : ∀ r, W64 (M.getD r [])) {k : Nat} (hk : k < (matchF least M).length) :
    ((matchF least M).getD k (0, 0)).1 < M.length ∧ ((matchF least M).getD k (0, 0)).2 < (M.getD ((matchF least M).getD k (0, 0)).1 []).length ∧ okB least ((M.getD ((matchF least M).getD k (0, 0)).1 []).getD ((matchF least M).getD k (0, 0)).2 0) = true := by
  have hm : (matchF least M).getD k (0, 0) ∈ (candM least M M.length).map Prod.fst := by
    have h1 : (matchF least M).getD k (0, 0) ∈ matchF least M := by
      simp only [List.getD_eq_getElem?_getD, List.getElem?_eq_getElem hk, Option.getD_some]
      exact List.getElem_mem hk
    refine greedy_mem _ _ [] (fun i hi => ?_) (by simp) _ h1
    have := (rankS_ranked (w64_cands (least := least) h64 M.length)).lt hi
    simpa using this
  obtain ⟨p, hp, he⟩ := List.mem_map.1 hm
  obtain ⟨h1, h2, h3, h4⟩ := mem_candM hp
  rw [← he]
  exact ⟨h1, h2, by rw [← h3]; exact h4⟩
theorem match_apart {least : Nat} {M : List (List Nat)} {j k : Nat} (hj : j < k) (hk : k < (matchF least M).length) :
    ((matchF least M).getD j (0, 0)).1 ≠ ((matchF least M).getD k (0, 0)).1 ∧ ((matchF least M).getD j (0, 0)).2 ≠ ((matchF least M).getD k (0, 0)).2 := by
  have h := greedy_apart ((candM least M M.length).map Prod.fst) (rankS ((candM least M M.length).map Prod.snd)) [] List.Pairwise.nil
  have h2 := List.pairwise_iff_getElem.1 h j k (Nat.lt_trans hj hk) hk hj
  simp only [List.getD_eq_getElem?_getD, List.getElem?_eq_getElem hk, List.getElem?_eq_getElem (Nat.lt_trans hj hk), Option.getD_some]
  exact h2

set_option maxRecDepth 100000 in
set_option maxHeartbeats 4000000 in
theorem scoreApart_any (a : Option Addr) (n c : Nat) (M : List (List Nat)) (least : Nat) (w : World) (hM : MatAt w a n c M) (h64 : ∀ r, W64 (M.getD r [])) (hl : least < 18446744073709551616) : Calls Try.prog 10 #[.slice a n c, .float .f64 least] w (Yes w) := by
  by_cases hn : (30 : Int) < (n : Int)
  · clear hM
    go_enter Try.func10, Try.ntmps10
    go_wp2
    go_ret
    exact ⟨rfl, Below.refl _ _⟩
  · have HM := Lib.hid hM
    have H64 := Lib.hid h64
    have HLS := Lib.hid hl
    have HML := Lib.hid hM.1
    have hnI : (n : Int) ≤ 30 := by omega
    have hn0 : (0 : Int) ≤ (n : Int) := by omega
    have HN := Lib.hid (show n ≤ 30 by omega)
    clear hM h64 hl
    go_enter Try.func10, Try.ntmps10
    go_wp2
    go_loopg [5] n (fun g v5 W => ∃ (i : Nat), v5 = .int .i64 i ∧ g + i = n ∧ Below w.heap.size w W ∧ Hid (∀ r, r < i → (M.getD r []).length ≤ 30))
    case atStart => exact ⟨0, rfl, rfl, Below.refl _ _, Lib.hid (fun k hk => by omega)⟩
    case round =>
      obtain ⟨i, rfl, hg, hbw, HQ⟩ := hrel
      have HG := Lib.hid hg
      have hi0 : (0 : Int) ≤ (i : Int) := by omega
      have hiI : (i : Int) ≤ (n : Int) := by omega
      have HBW := Lib.hid hbw
      by_cases hi : (i : Int) < (n : Int)
      · have HI := Lib.hid (show i < n by omega)
        obtain ⟨bm, om, rfl⟩ := HM.out.some_ (by omega)
        obtain ⟨a1, c1, hc0, hat⟩ := HM.out.row i HI.out
        obtain ⟨m, hm⟩ : ∃ m, m = (M.getD i []).length := ⟨_, rfl⟩
        rw [← hm] at hc0
        have hcell := (hbw.cell (p := ⟨bm, om + i, none⟩) (World.block_lt_of_cell? _ _ hc0)).trans hc0
        have HME := Lib.hid hm
        clear hg hbw hat hm hc0
        by_cases hm30 : (30 : Int) < (m : Int)
        · go_wp2
          go_ret
          exact ⟨rfl, HBW.out⟩
        · have hmd : decide ((30 : Int) < (m : Int)) = false := decide_eq_false hm30
          have hmn : decide (30 < m) = false := decide_eq_false (by omega)
          have HQN := Lib.hid (show ∀ r, r < i + 1 → (M.getD r []).length ≤ 30 from fun r hr => by
            rcases Nat.lt_or_ge r i with h | h
            · exact HQ.out r h
            · obtain rfl : r = i := by omega
              rw [← HME.out]; omega)
          clear hm30
          go_wp2
          go_roundg (n - (i + 1))
          case measure => have := HG.out; have := HI.out; omega
          case rel => exact ⟨i + 1, by go_num, by have := HI.out; omega, HBW.out, HQN⟩
      · have hin : i = n := by omega
        subst hin
        clear hg hbw
        have HMX := Lib.hid (match_any a i c M least wr (HM.out.below HBW.out) H64.out HLS.out (by have := HN.out; omega) (fun r => by
          rcases Nat.lt_or_ge r i with h | h
          · have := HQ.out r h; omega
          · have e : M.getD r [] = [] := by
              simp only [List.getD_eq_getElem?_getD]
              rw [List.getElem?_eq_none (by have := HML.out; omega)]
              rfl
            rw [e]; exact Nat.zero_le _))
        obtain ⟨T, hT⟩ : ∃ T, T = matchF least M := ⟨_, rfl⟩
        have HP := Lib.hid (fun k (hk : k < T.length) => show (T.getD k (0, 0)).1 < i ∧ (T.getD k (0, 0)).2 < (M.getD (T.getD k (0, 0)).1 []).length ∧ okB least ((M.getD (T.getD k (0, 0)).1 []).getD (T.getD k (0, 0)).2 0) = true by
          rw [hT] at hk ⊢; rw [← HML.out]; exact match_pair H64.out hk)
        have HA := Lib.hid (fun j k (hj : j < k) (hk : k < T.length) => show (T.getD j (0, 0)).1 ≠ (T.getD k (0, 0)).1 ∧ (T.getD j (0, 0)).2 ≠ (T.getD k (0, 0)).2 by
          rw [hT] at hk ⊢; exact match_apart hj hk)
        rw [← hT] at HMX
        clear hT
        go_wp2_with (go_at_call 32; (with_reducible refine HMX.out.mono ?_); rintro e w2 ⟨a2, n2, c2, rfl, hat2, hb2⟩; have HT := Lib.hid hat2; have HTL := Lib.hid hat2.1; have HB2 := Lib.hid (Below.trans HBW.out (hb2.mono HBW.out.size)); have hn2 : (n2 : Int) ≤ 9223372036854775807 := by { have := hat2.2.1; have := hat2.2.2.1; omega }; clear hat2 hb2)
        clear HMX HQ HBW
        go_loopg [7] n2 (fun g v7 W => ∃ (k : Nat), v7 = .int .i64 k ∧ g + k = n2 ∧ Below w2.heap.size w2 W)
        case atStart => exact ⟨0, rfl, rfl, Below.refl _ _⟩
        case round =>
          obtain ⟨k, rfl, hg, hbw⟩ := hrel
          have HG2 := Lib.hid hg
          have hk0 : (0 : Int) ≤ (k : Int) := by omega
          have hkI : (k : Int) ≤ (n2 : Int) := by omega
          have HBI := Lib.hid hbw
          by_cases hk : (k : Int) < (n2 : Int)
          · have HK := Lib.hid (show k < n2 by omega)
            obtain ⟨b2, o2, rfl⟩ := HT.out.some_ (by omega)
            have hpr := HP.out k (by rw [HTL.out]; exact HK.out)
            obtain ⟨r, hr⟩ : ∃ r, r = (T.getD k (0, 0)).1 := ⟨_, rfl⟩
            obtain ⟨q, hq⟩ : ∃ q, q = (T.getD k (0, 0)).2 := ⟨_, rfl⟩
            have hc1 : wr.cell? ⟨b2, o2 + k * 2, none⟩ = some (.int .i64 (r : Int)) := by rw [hr]; exact (HT.out.below hbw).fst k HK.out
            have hc2 : wr.cell? ⟨b2, o2 + k * 2 + 1, none⟩ = some (.int .i64 (q : Int)) := by rw [hq]; exact (HT.out.below hbw).snd k HK.out
            rw [← hr, ← hq] at hpr
            obtain ⟨l, hl⟩ : ∃ l, l = M.getD r [] := ⟨_, rfl⟩
            obtain ⟨m, hm⟩ : ∃ m, m = l.length := ⟨_, rfl⟩
            obtain ⟨x, hx⟩ : ∃ x, x = l.getD q 0 := ⟨_, rfl⟩
            have HX64 := Lib.hid (show x < 18446744073709551616 by rw [hx, hl]; exact H64.out r q)
            rw [← hl, ← hm, ← hx] at hpr
            obtain ⟨hri, hqm, hok⟩ := hpr
            obtain ⟨bm, om, rfl⟩ := HM.out.some_ (by omega)
            obtain ⟨a1, c1, hc0, hat⟩ := HM.out.row r hri
            rw [← hl, ← hm] at hc0 hat
            obtain ⟨b1, o1, rfl⟩ := hat.some_ (by omega)
            have hc3 := hat.cell q hqm
            rw [← hx] at hc3
            have hr0 : (0 : Int) ≤ (r : Int) := by omega
            have hrI : (r : Int) < (i : Int) := by omega
            have hq0 : (0 : Int) ≤ (q : Int) := by omega
            have hqI : (q : Int) < (m : Int) := by omega
            have HC0 := Lib.hid hc0
            have HC3 := Lib.hid hc3
            obtain ⟨z, hz⟩ : ∃ z, z = ordF x least := ⟨_, rfl⟩
            have hok2 : nanB x = false ∧ 0 ≤ z := by
              unfold okB at hok
              rw [Bool.and_eq_true, Bool.not_eq_true', decide_eq_true_iff, ← hz] at hok
              exact hok
            have HNX := fun W => Lib.hid (isNaN_is x false W hok2.1.symm)
            have HO := fun W => Lib.hid (order_is x least z W HX64.out HLS.out hz)
            have hzd : decide (z < 0) = false := decide_eq_false (by omega)
            have HR := Lib.hid hr
            have HQ := Lib.hid hq
            clear hg hbw hr hq hl hm hx hok hok2 hz hc0 hc3 hat hri hqm
            go_wp2
            go_quiet (fail)
            have HBD := Lib.hid (below_drewN HBI.out nq)
            clear HBI hc1 hc2
            generalize wr.drewN nq = W1 at HBD ⊢
            have hc0 : W1.cell? ⟨bm, om + r, none⟩ = some (.slice (some ⟨b1, o1, none⟩) m c1) := ((Below.trans HB2.out (HBD.out.mono HB2.out.size)).cell (World.block_lt_of_cell? _ _ HC0.out)).trans HC0.out
            have hc3 : W1.cell? ⟨b1, o1 + q, none⟩ = some (.float .f64 x) := ((Below.trans HB2.out (HBD.out.mono HB2.out.size)).cell (World.block_lt_of_cell? _ _ HC3.out)).trans HC3.out
            go_wp2_with (first
              | (go_at_call 35; (with_reducible refine (HNX _).out.mono ?_); rintro e w9 ⟨rfl, rfl⟩)
              | (go_at_call 21; (with_reducible refine (HO _).out.mono ?_); rintro e w9 ⟨rfl, rfl⟩))
            clear hc0 hc3
            have hrk0 : (0 : Int) ≤ (k : Int) := hk0
            go_loopg [10] k (fun g v10 W => ∃ (j : Nat), v10 = .int .i64 j ∧ g + j = k ∧ Below w2.heap.size w2 W)
            case atStart => exact ⟨0, rfl, rfl, HBD.out⟩
            case round =>
              obtain ⟨j, rfl, hg, hbw⟩ := hrel
              have HG3 := Lib.hid hg
              have hj0 : (0 : Int) ≤ (j : Int) := by omega
              have hjI : (j : Int) ≤ (k : Int) := by omega
              have HBJ := Lib.hid hbw
              by_cases hj : (j : Int) < (k : Int)
              · have HJ := Lib.hid (show j < k by omega)
                have hjn : (j : Int) < (n2 : Int) := by omega
                have hjn0 : j < n2 := by omega
                have hap := HA.out j k HJ.out (by rw [HTL.out]; exact HK.out)
                rw [← HR.out, ← HQ.out] at hap
                obtain ⟨rj, hrj⟩ : ∃ rj, rj = (T.getD j (0, 0)).1 := ⟨_, rfl⟩
                obtain ⟨qj, hqj⟩ : ∃ qj, qj = (T.getD j (0, 0)).2 := ⟨_, rfl⟩
                have hc1 : wr.cell? ⟨b2, o2 + j * 2, none⟩ = some (.int .i64 (rj : Int)) := by rw [hrj]; exact (HT.out.below hbw).fst j hjn0
                have hc2 : wr.cell? ⟨b2, o2 + j * 2 + 1, none⟩ = some (.int .i64 (qj : Int)) := by rw [hqj]; exact (HT.out.below hbw).snd j hjn0
                rw [← hrj, ← hqj] at hap
                have he1 : ((rj : Int) == (r : Int)) = false := by have := hap.1; simp; omega
                have he2 : ((qj : Int) == (q : Int)) = false := by have := hap.2; simp; omega
                have he3 : (rj == r) = false := by have := hap.1; simp; omega
                have he4 : (qj == q) = false := by have := hap.2; simp; omega
                clear hg hbw hap hrj hqj hjn0
                go_wp2
                go_roundg (k - (j + 1))
                case measure => have := HG3.out; have := HJ.out; omega
                case rel => exact ⟨j + 1, by go_num, by have := HJ.out; omega, HBJ.out⟩
              · clear hg
                go_wp2
                go_roundg (n2 - (k + 1))
                case measure => have := HG2.out; have := HK.out; omega
                case rel => exact ⟨k + 1, by go_num, by have := HK.out; omega, HBJ.out⟩
          · have hkn : k = n2 := by omega
            clear hg hkn
            go_wp2_with (go_at_call 20; (with_reducible refine (awake_any _).mono ?_); rintro e w10 ⟨rfl, hb10⟩; have HB10 := Lib.hid (Below.step HBI.out hb10); clear hb10)
            go_ret
            exact ⟨rfl, Below.trans HB2.out (HB10.out.mono HB2.out.size)⟩
end Go.Proofs.Ytkafeadgjpglaaa
