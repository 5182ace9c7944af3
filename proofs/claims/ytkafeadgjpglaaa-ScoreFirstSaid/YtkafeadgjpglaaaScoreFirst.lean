/-
  The walk of the law ScoreFirst.
-/
import Derived.Test.YtkafeadgjpglaaaBest
namespace Go.Proofs.Ytkafeadgjpglaaa
open Go.RowKit

theorem Ranked.getD_lt {L R : List Nat} (h : Ranked L R) {i : Nat} (hi : i < R.length) : R.getD i 0 < L.length := by
  simp only [List.getD_eq_getElem?_getD, List.getElem?_eq_getElem hi, Option.getD_some]
  exact h.lt (List.getElem_mem hi)
theorem Ranked.step {L R : List Nat} (h : Ranked L R) {i k : Nat} (hi : i < k) (hk : k < R.length) : rankF L (R.getD i 0) (R.getD k 0) < 0 := by
  simp only [List.getD_eq_getElem?_getD, List.getElem?_eq_getElem hk, List.getElem?_eq_getElem (Nat.lt_trans hi hk), Option.getD_some]
  exact List.pairwise_iff_getElem.1 h.2 i k (Nat.lt_trans hi hk) hk hi
theorem rank_nan {L : List Nat} (h64 : W64 L) {q p : Nat} (h : rankF L q p < 0) (hx : nanB (L.getD p 0) = false) : nanB (L.getD q 0) = false ∧ 0 ≤ ordF (L.getD q 0) (L.getD p 0) := by
  rw [rankF_lt h64] at h
  have hy : nanB (L.getD q 0) = false := by
    cases hy : nanB (L.getD q 0)
    · rfl
    · have := kf_nan hy hx
      omega
  refine ⟨hy, ?_⟩
  have := kf_num hy hx
  omega

set_option maxRecDepth 100000 in
set_option maxHeartbeats 4000000 in
theorem scoreFirst_any (a : Option Addr) (n c : Nat) (L : List Nat) (w : World) (hL : At1 F w a n c L) (h64 : W64 L) : Calls Try.prog 9 #[.slice a n c] w (Yes w) := by
  by_cases hn : (200 : Int) < (n : Int)
  · clear hL
    go_enter Try.func9, Try.ntmps9
    go_wp2
    go_ret
    exact ⟨rfl, Below.refl _ _⟩
  · have HL := Lib.hid hL
    have H64 := Lib.hid h64
    have hnI : (n : Int) ≤ 200 := by omega
    have HN := Lib.hid (show n ≤ 1000000000 by omega)
    have HLN := Lib.hid hL.1
    obtain ⟨b, hb⟩ : ∃ b, b = (bestF L n).1 := ⟨_, rfl⟩
    obtain ⟨f, hf⟩ : ∃ f, f = (bestF L n).2 := ⟨_, rfl⟩
    have H1 := Lib.hid (show Calls Try.prog 22 #[.slice a n c] w (BestIs b f w) by rw [hb, hf]; exact best_any a n c L w hL h64 HN.out)
    have H2 := fun W => Lib.hid (fun hW : Below w.heap.size w W => rank_any a n c L W (hL.below hW) h64 HN.out)
    obtain ⟨R, hR⟩ : ∃ R, R = rankS L := ⟨_, rfl⟩
    have HR := Lib.hid (show Ranked L R by rw [hR]; exact rankS_ranked h64)
    have HRL := Lib.hid (show R.length = n by rw [HR.out.length, hL.1])
    have HBF := Lib.hid (show (f = true ∧ R.getD 0 0 = b ∧ 0 < n) ∨ (f = false ∧ b = 0) by
      rcases bestF_is h64 n with ⟨h1, h2⟩ | ⟨h1, h2⟩
      · refine .inl ⟨by rw [hf, h1], ?_, by have := h2.1; omega⟩
        rw [hb]
        exact best_first h64 HR.out (by rw [hL.1]; exact h2)
      · exact .inr ⟨by rw [hf, h1], by rw [hb, h1]⟩)
    simp only [← hR] at H2
    clear hL h64 hb hf hR
    go_enter Try.func9, Try.ntmps9
    go_wp2_with (first
      | (go_at_call 22; (with_reducible refine H1.out.mono ?_); rintro e w1 ⟨rfl, hb1⟩; have HB1 := Lib.hid hb1; clear hb1)
      | (go_at_call 25; (with_reducible refine ((H2 _).out HB1.out).mono ?_); rintro e w2 ⟨aR, cR, rfl, hat, hb2, hf2⟩; have HAT := Lib.hid hat; have HB2 := Lib.hid (Below.step HB1.out hb2); clear hat hb2 hf2))
    go_loopg [6] n (fun g v6 W => ∃ i : Nat, v6 = .int .i64 i ∧ g + i = n ∧ Below w2.heap.size w2 W)
    case atStart => exact ⟨0, rfl, rfl, Below.refl _ _⟩
    case round =>
      obtain ⟨i, rfl, hg, hbw⟩ := hrel
      have HG := Lib.hid hg
      have hi0 : (0 : Int) ≤ (i : Int) := by omega
      have hiI : (i : Int) ≤ (n : Int) := by omega
      have HBW := Lib.hid hbw
      by_cases hi : (i : Int) < (n : Int)
      · have hin : i < n := by omega
        have HI := Lib.hid hin
        obtain ⟨bl, ol, rfl⟩ := HL.out.some_ (by omega)
        obtain ⟨br, or, rfl⟩ := HAT.out.some_ (by omega)
        obtain ⟨p, hp⟩ : ∃ p, p = R.getD i 0 := ⟨_, rfl⟩
        have hpn : p < n := by rw [hp, ← HLN.out]; exact HR.out.getD_lt (by rw [HRL.out]; exact hin)
        have hp0 : (0 : Int) ≤ (p : Int) := by omega
        have hpI : (p : Int) < (n : Int) := by omega
        obtain ⟨x, hx⟩ : ∃ x, x = L.getD p 0 := ⟨_, rfl⟩
        have hcR : wr.cell? ⟨br, or + i, none⟩ = some (.int .i64 (p : Int)) := by rw [hp]; exact (HAT.out.below hbw).cell i hin
        have hcL : wr.cell? ⟨bl, ol + p, none⟩ = some (.float .f64 x) := by rw [hx]; exact (HL.out.below (Below.trans HB2.out (hbw.mono HB2.out.size))).cell p hpn
        obtain ⟨s, hs⟩ : ∃ s, s = nanB x := ⟨_, rfl⟩
        have HNX := fun W => Lib.hid (isNaN_is x s W hs)
        by_cases hi1 : (0 : Int) < (i : Int)
        · obtain ⟨q, hq⟩ : ∃ q, q = R.getD (i - 1) 0 := ⟨_, rfl⟩
          have hqn : q < n := by rw [hq, ← HLN.out]; exact HR.out.getD_lt (by rw [HRL.out]; omega)
          have hq0 : (0 : Int) ≤ (q : Int) := by omega
          have hqI : (q : Int) < (n : Int) := by omega
          obtain ⟨y, hy⟩ : ∃ y, y = L.getD q 0 := ⟨_, rfl⟩
          have hcR1 : wr.cell? ⟨br, or + (i - 1), none⟩ = some (.int .i64 (q : Int)) := by rw [hq]; exact (HAT.out.below hbw).cell (i - 1) (by omega)
          have hcL1 : wr.cell? ⟨bl, ol + q, none⟩ = some (.float .f64 y) := by rw [hy]; exact (HL.out.below (Below.trans HB2.out (hbw.mono HB2.out.size))).cell q hqn
          have k1 : IntKind.i64.wrap ((i : Int) - 1) = (i : Int) - 1 := IntWalk.i64_in _ (by omega)
          have k2 : 0 ≤ (i : Int) - 1 := by omega
          have k3 : ((i : Int) - 1).toNat = i - 1 := by omega
          have k4 : (i : Int) - 1 < (n : Int) := by omega
          have k5 : i - 1 < n := by omega
          have k6 : 0 < i := by omega
          rcases s with _ | _
          · obtain ⟨hny, hz0⟩ := rank_nan H64.out (HR.out.step (i := i - 1) (k := i) (by omega) (by rw [HRL.out]; exact hin)) (by rw [← hp, ← hx]; exact hs.symm)
            rw [← hq, ← hy, ← hp, ← hx] at hz0
            rw [← hq, ← hy] at hny
            obtain ⟨z, hz⟩ : ∃ z, z = ordF y x := ⟨_, rfl⟩
            have HNY := fun W => Lib.hid (isNaN_is y false W hny.symm)
            have HO := fun W => Lib.hid (order_is y x z W (by rw [hy]; exact H64.out q) (by rw [hx]; exact H64.out p) hz)
            rw [← hz] at hz0
            have hzd : decide (z < 0) = false := decide_eq_false (by omega)
            clear hp hx hs hq hy hny hz hg hbw
            go_wp2
            go_quiet (first
              | (go_at_call 35; first | exact Calls.quiet_of_same ((HNX _).out.mono fun e w9 h => ⟨h.1, h.2.symm⟩) | exact Calls.quiet_of_same ((HNY _).out.mono fun e w9 h => ⟨h.1, h.2.symm⟩))
              | (go_at_call 21; exact Calls.quiet_of_same ((HO _).out.mono fun e w9 h => ⟨h.1, h.2.symm⟩)))
            have hbd := below_drewN HBW.out nq
            go_wp2
            go_roundg (n - (i + 1))
            case measure => have := HG.out; have := HI.out; omega
            case rel => exact ⟨i + 1, by go_num, by have := HI.out; omega, hbd⟩
          · clear hp hx hs hq hy hg hbw
            go_wp2
            go_quiet (first
              | (go_at_call 35; exact Calls.quiet_of_same ((HNX _).out.mono fun e w9 h => ⟨h.1, h.2.symm⟩)))
            have hbd := below_drewN HBW.out nq
            go_wp2
            go_roundg (n - (i + 1))
            case measure => have := HG.out; have := HI.out; omega
            case rel => exact ⟨i + 1, by go_num, by have := HI.out; omega, hbd⟩
        · have hi1d : decide ((0 : Int) < (i : Int)) = false := decide_eq_false hi1
          have hi1n : decide (0 < i) = false := decide_eq_false (by omega)
          have hi1e : (i == 0) = true := by simp; omega
          clear hp hx hs hg hbw hi1
          go_wp2
          go_quiet (fail)
          have hbd := below_drewN HBW.out nq
          go_wp2
          go_roundg (n - (i + 1))
          case measure => have := HG.out; have := HI.out; omega
          case rel => exact ⟨i + 1, by go_num, by have := HI.out; omega, hbd⟩
      · have hjn : i = n := by omega
        clear hg hbw hjn
        rcases HBF.out with ⟨rfl, hb0, h0n⟩ | ⟨rfl, rfl⟩
        · obtain ⟨br, or, rfl⟩ := HAT.out.some_ h0n
          have hcR : wr.cell? ⟨br, or, none⟩ = some (.int .i64 (b : Int)) := by
            have := (HAT.out.below HBW.out).cell 0 h0n
            rw [hb0] at this
            exact this
          have h0I : (0 : Int) < (n : Int) := by omega
          clear hb0
          go_wp2_with (go_at_call 20; (with_reducible refine (awake_any _).mono ?_); rintro e w10 ⟨rfl, hb10⟩; have HB10 := Lib.hid (Below.step HBW.out hb10); clear hb10)
          go_ret
          exact ⟨rfl, Below.trans HB2.out (HB10.out.mono HB2.out.size)⟩
        · go_wp2_with (go_at_call 20; (with_reducible refine (awake_any _).mono ?_); rintro e w10 ⟨rfl, hb10⟩; have HB10 := Lib.hid (Below.step HBW.out hb10); clear hb10)
          go_ret
          exact ⟨rfl, Below.trans HB2.out (HB10.out.mono HB2.out.size)⟩
end Go.Proofs.Ytkafeadgjpglaaa
