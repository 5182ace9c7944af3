/-
  The walk of the document's own Get: it answers what Get answers.
-/
import Derived.Test.YtheigemfbcgjcaaGet
namespace Go.Proofs.Ytheigemfbcgjcaa
open Go.RowKit

/-- The number that the first bytes from a place on spell, seven bits each. -/
def lowSum (l : List UInt8) (at_ : Nat) : Nat → Nat
  | 0 => 0
  | m + 1 => lowSum l at_ m + ((l.getD (at_ + m) 0).toNat % 128) * 2 ^ (7 * m)

theorem lowSum_lt (l : List UInt8) (at_ m : Nat) : lowSum l at_ m < 2 ^ (7 * m) := by
  induction m with
  | zero => simp [lowSum]
  | succ m ih =>
    rw [lowSum, pow_step]
    have : ((l.getD (at_ + m) 0).toNat % 128) * 2 ^ (7 * m) ≤ 127 * 2 ^ (7 * m) := Nat.mul_le_mul_right _ (by omega)
    omega

/-- What the inner loop has come to: what is left below, what was read above. -/
def Above (l : List UInt8) (at_ k m n : Nat) : Prop := lowSum l at_ m + n * 2 ^ (7 * m) = lowSum l at_ k

theorem Above.next {l : List UInt8} {at_ k m n : Nat} (h : Above l at_ k (m + 1) n) : Above l at_ k m (n * 128 + (l.getD (at_ + m) 0).toNat % 128) := by
  unfold Above at *
  rw [← h, lowSum, pow_step, Nat.add_mul, ← Nat.mul_assoc]
  omega

theorem Above.lt {l : List UInt8} {at_ k m n : Nat} (h : Above l at_ k m n) (hk : k ≤ 9) : n < 2 ^ 63 := by
  have h1 := lowSum_lt l at_ k
  have h2 : 2 ^ (7 * k) ≤ 2 ^ 63 := Nat.pow_le_pow_right (by omega) (by omega)
  have h3 : n * 1 ≤ n * 2 ^ (7 * m) := Nat.mul_le_mul_left _ (Nat.two_pow_pos _)
  unfold Above at h
  omega

theorem Above.zero {l : List UInt8} {at_ k n : Nat} (h : Above l at_ k 0 n) : n = lowSum l at_ k := by
  unfold Above at h
  simpa [lowSum] using h

theorem Above.start (l : List UInt8) (at_ k : Nat) : Above l at_ k k 0 := by unfold Above; simp

theorem getAt_low {l : List UInt8} {at_ q x : Nat} (h : GetAt l at_ q (lowSum l at_ q)) (hx : x = (l.getD (at_ + q) 0).toNat) (hx1 : 128 ≤ x) (hq : q < 9) (he : at_ + q < l.length) : GetAt l at_ (q + 1) (lowSum l at_ (q + 1)) := by
  have := getAt_more h hx hx1 hq he
  have hx2 : x < 256 := by rw [hx]; exact (l.getD (at_ + q) 0).toNat_lt
  rw [lowSum, ← hx, show x % 128 = x - 128 from by omega]
  exact this

set_option maxRecDepth 100000 in
set_option maxHeartbeats 400000 in
theorem refGet_some (b off n c at_ : Nat) (l : List UInt8) (w : World) (hn : n ≤ 9223372036854775807) (hl : l.length = n) (ha : at_ ≤ n)
    (hc : ∀ j, j < n → w.cell? ⟨b, off + j, none⟩ = some (.int .u8 ((l.getD j 0).toNat : Int))) (rn ru re : Nat) (hR : getR l at_ = (rn, ru, re)) :
    Calls Try.prog 26 #[.slice (some ⟨b, off, none⟩) n c, .int .i64 at_] w fun e w' => e = .returned (.tuple #[.int .i64 rn, .int .i64 ru, .int .i64 re]) ∧ w = w' := by
  have HL := Lib.hid hl
  have HR := Lib.hid hR
  have t1 : decide (n < at_) = false := by simp; omega
  have t2 : decide ((at_ : Int) < 0) = false := by simp
  clear hl hR
  go_enter Try.func26, Try.ntmps26
  go_wp2
  go_loopg [7] 9 (fun g v W => ∃ q : Nat, w = W ∧ g + q = 9 ∧ at_ + q ≤ n ∧ GetAt l at_ q (lowSum l at_ q) ∧ v = .int .i64 ((q : Int) + 1))
  case atStart => exact ⟨0, rfl, rfl, by omega, ⟨by simp [lowSum], rfl⟩, rfl⟩
  case round =>
    obtain ⟨q, rfl, hg, hq, hA, rfl⟩ := hrel
    have HG := Lib.hid hg
    have HA := Lib.hid hA
    have hq9' : q ≤ 9 := by omega
    clear hg hA
    by_cases hq9 : q < 9
    · by_cases hend : at_ + q < n
      · obtain ⟨x, hx0, hx, hcell⟩ : ∃ x : Nat, x = (l.getD (at_ + q) 0).toNat ∧ x < 256 ∧ w.cell? ⟨b, off + (at_ + q), none⟩ = some (.int .u8 (x : Int)) := ⟨_, rfl, (l.getD (at_ + q) 0).toNat_lt, hc _ hend⟩
        have HX := Lib.hid hx0
        have HC := Lib.hid hc
        clear hc hx0
        by_cases hx1 : 128 ≤ x
        · go_wp2
          go_roundg (gk - 1)
          case measure => have := HG.out; omega
          case rel =>
            have hl := HL.out
            exact ⟨q + 1, rfl, by have := HG.out; omega, by omega, getAt_low HA.out HX.out hx1 hq9 (by omega), by go_num⟩
        · by_cases hz : x = 0 ∧ 0 < q
          · obtain ⟨rfl, hq0⟩ := hz
            go_wp2
            go_ret3
            obtain ⟨rfl, rfl, rfl⟩ := getAt_zero HA.out HR.out HX.out rfl hq9 hq0 (by have := HL.out; omega)
            exact ⟨rfl, rfl⟩
          · have hlast := getAt_last HA.out HR.out HX.out (by omega) hz hq9 (by have := HL.out; omega)
            have HZ := Lib.hid hlast
            clear hlast
            have hcase : ¬ 0 < q ∨ (0 < q ∧ ¬ x = 0) := by omega
            clear hz
            rcases hcase with hc1 | ⟨hc1, hc2⟩
            all_goals
              go_wp2_with fail
              go_loopg [8, 9] (q + 1) (fun g v8 v9 W => ∃ s : Nat, w = W ∧ g ≤ q + 1 ∧ Hid (Above l at_ (q + 1) g s) ∧ v8 = .int .i64 s ∧ ((g = 0 ∧ v9 = .int .i64 (-1)) ∨ ∃ m : Nat, g = m + 1 ∧ v9 = .int .i64 m))
              case atStart => exact ⟨0, rfl, Nat.le_refl _, Above.start _ _ _, rfl, .inr ⟨q, rfl, rfl⟩⟩
              case round =>
                obtain ⟨s, rfl, hgq, hab, rfl, hv⟩ := hrel
                rcases hv with ⟨rfl, rfl⟩ | ⟨m, rfl, rfl⟩
                · go_wp2
                  go_ret3
                  have h1 := HZ.out
                  have h2 := hab.out.zero
                  rw [lowSum, ← HX.out, show x % 128 = x from by omega] at h2
                  exact ⟨ret3 (by omega) (by omega) (by omega), rfl⟩
                · obtain ⟨y, hy0, hy, hcell'⟩ : ∃ y : Nat, y = (l.getD (at_ + m) 0).toNat ∧ y < 256 ∧ w.cell? ⟨b, off + (at_ + m), none⟩ = some (.int .u8 (y : Int)) := ⟨_, rfl, (l.getD (at_ + m) 0).toNat_lt, HC.out _ (by omega)⟩
                  have hnext := hab.out.next
                  rw [← hy0] at hnext
                  have hlt := hnext.lt (by omega)
                  have HN := Lib.hid hnext
                  clear hnext hy0
                  go_wp2
                  go_roundg m
                  case measure => omega
                  case rel =>
                    refine ⟨s * 128 + y % 128, rfl, by omega, HN.out, by go_num, ?_⟩
                    rcases Nat.eq_zero_or_pos m with h0 | h0
                    · subst h0; exact .inl ⟨rfl, rfl⟩
                    · exact .inr ⟨m - 1, by omega, by rw [show ((m - 1 : Nat) : Int) = (m : Int) - 1 from by omega]⟩
      · go_wp2
        go_ret3
        obtain ⟨rfl, rfl, rfl⟩ := getAt_end HA.out HR.out (.inr (by have := HL.out; omega))
        exact ⟨rfl, rfl⟩
    · go_wp2
      go_ret3
      obtain ⟨rfl, rfl, rfl⟩ := getAt_end HA.out HR.out (.inl hq9)
      exact ⟨rfl, rfl⟩

set_option maxRecDepth 100000 in
set_option maxHeartbeats 400000 in
theorem refGet_out (a : Option Addr) (n c : Nat) (at_ : Int) (w : World) (hn : n ≤ 9223372036854775807) (ha : at_ < 0 ∨ n < at_) :
    Calls Try.prog 26 #[.slice a n c, .int .i64 at_] w fun e w' => e = .returned (.tuple #[.int .i64 0, .int .i64 0, .int .i64 1]) ∧ w = w' := by
  rcases ha with ha | ha
  · go_enter Try.func26, Try.ntmps26
    go_wp2
    go_ret3
    exact ⟨rfl, rfl⟩
  · by_cases h0 : at_ < 0
    · omega
    · go_enter Try.func26, Try.ntmps26
      go_wp2
      go_ret3
      exact ⟨rfl, rfl⟩

set_option maxRecDepth 100000 in
set_option maxHeartbeats 400000 in
theorem refGet_nil (a : Option Addr) (w : World) :
    Calls Try.prog 26 #[.slice a 0 0, .int .i64 0] w fun e w' => e = .returned (.tuple #[.int .i64 0, .int .i64 0, .int .i64 6]) ∧ w = w' := by
  go_enter Try.func26, Try.ntmps26
  go_wp2
  refine wp_loop_rounds 1 ?_
  rw [rounds_succ]
  go_wp2
  go_ret3
  exact ⟨rfl, rfl⟩

theorem refGet_any (a : Option Addr) (n c : Nat) (l : List UInt8) (at_ : Int) (w : World) (hb : Bytes w a n c l) (rn ru re : Nat) (hR : getI l at_ = (rn, ru, re)) :
    Calls Try.prog 26 #[.slice a n c, .int .i64 at_] w fun e w' => e = .returned (.tuple #[.int .i64 rn, .int .i64 ru, .int .i64 re]) ∧ w = w' := by
  obtain ⟨hl, hnc, hc63, hb⟩ := hb
  unfold getI at hR
  by_cases ho : at_ < 0 ∨ (l.length : Int) < at_
  · rw [if_pos ho] at hR
    simp only [Prod.mk.injEq] at hR
    obtain ⟨rfl, rfl, rfl⟩ := hR
    exact refGet_out a n c at_ w (by omega) (by rw [← hl]; exact ho)
  · rw [if_neg ho] at hR
    obtain ⟨k, rfl⟩ := Int.eq_ofNat_of_zero_le (show 0 ≤ at_ by omega)
    rw [Int.toNat_natCast] at hR
    rcases hb with ⟨h1, h2⟩ | ⟨b, off, rfl, hcell⟩
    · subst h1 h2
      have : k = 0 := by omega
      subst this
      unfold getR at hR
      rw [getGo_nil _ _ _ _ (by rw [List.length_drop]; omega)] at hR
      simp only [Prod.mk.injEq] at hR
      obtain ⟨rfl, rfl, rfl⟩ := hR
      exact refGet_nil a w
    · exact refGet_some b off n c k l w (by omega) hl (by omega) hcell rn ru re hR
#print axioms refGet_any
end Go.Proofs.Ytheigemfbcgjcaa
