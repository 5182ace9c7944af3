/-
  The walk of Get: what stands at a place of bytes, read as a number.
-/
import Derived.Test.YtheigemfbcgjcaaMath
import Derived.Test.YtheigemfbcgjcaaBytes
import Derived.Deep.LoopGhost
namespace Go.Proofs.Ytheigemfbcgjcaa
open Go.RowKit

theorem wraps_i64 (n : Int) (h0 : 0 ≤ n) (h1 : n < 2 ^ 63) : IntKind.i64.wrap n = n := by rw [IntKind.wrap_i64]; omega

theorem shift_lt (y k : Nat) (hy : y < 128) (hk : k < 9) : y * 2 ^ (7 * k) < 2 ^ 63 := by
  have h1 : y * 2 ^ (7 * k) ≤ 127 * 2 ^ (7 * k) := Nat.mul_le_mul_right _ (by omega)
  have h2 : 2 ^ (7 * k) ≤ 2 ^ 56 := Nat.pow_le_pow_right (by omega) (by omega)
  have h3 : (2 : Nat) ^ 63 = 128 * 2 ^ 56 := by decide
  omega

theorem or_shift (acc y k : Nat) (z : Int) (hz : z = ((y * 2 ^ (7 * k) : Nat) : Int)) (ha : acc < 2 ^ (7 * k)) (hy : y < 128) (hk : k < 9) :
    bits .or .i64 (acc : Int) (wrap64 z) = ((acc + y * 2 ^ (7 * k) : Nat) : Int) := by
  have hs := shift_lt y k hy hk
  have h2 : 2 ^ (7 * k) ≤ 2 ^ 56 := Nat.pow_le_pow_right (by omega) (by omega)
  rw [hz, IntWalk.wrap64_in _ ⟨by omega, by omega⟩, (bits_nat .i64 63 (by decide) wraps_i64 acc _ (by omega) hs).2]
  congr 1
  rw [Nat.or_comm, Nat.mul_comm y, ← Nat.two_pow_add_eq_or_of_lt ha y, Nat.add_comm]

theorem or_zero (acc k : Nat) (ha : acc < 2 ^ (7 * k)) (hk : k < 9) : bits .or .i64 (acc : Int) 0 = (acc : Int) := by
  have h2 : 2 ^ (7 * k) ≤ 2 ^ 56 := Nat.pow_le_pow_right (by omega) (by omega)
  have h := (bits_nat .i64 63 (by decide) wraps_i64 acc 0 (by omega) (by decide)).2
  simpa using h

theorem ret3 {a a' b b' c c' : Int} (h1 : a = a') (h2 : b = b') (h3 : c = c') :
    Ending.returned (.tuple #[.int .i64 a, .int .i64 b, .int .i64 c]) = .returned (.tuple #[.int .i64 a', .int .i64 b', .int .i64 c']) := by rw [h1, h2, h3]

/-- Get's reading has come to this place with this much. -/
def GetAt (l : List UInt8) (at_ k acc : Nat) : Prop := acc < 2 ^ (7 * k) ∧ getGo 9 0 0 (l.drop at_) = getGo (9 - k) k acc (l.drop (at_ + k))

theorem getAt_end {l : List UInt8} {at_ k acc rn ru re : Nat} (h : GetAt l at_ k acc) (hR : getR l at_ = (rn, ru, re)) (hk : ¬ k < 9 ∨ ¬ at_ + k < l.length) : 0 = rn ∧ 0 = ru ∧ 6 = re := by
  have : getGo (9 - k) k acc (l.drop (at_ + k)) = none := by
    rcases hk with hk | hk
    · rw [show 9 - k = 0 from by omega]; rfl
    · exact getGo_nil _ _ _ _ (by simp; omega)
  unfold getR at hR
  rw [h.2, this] at hR
  simpa using hR

theorem getAt_more {l : List UInt8} {at_ k acc x : Nat} (h : GetAt l at_ k acc) (hx : x = (l.getD (at_ + k) 0).toNat) (hx1 : 128 ≤ x) (hk : k < 9) (he : at_ + k < l.length) :
    GetAt l at_ (k + 1) (acc + (x - 128) * 2 ^ (7 * k)) := by
  obtain ⟨h1, h2⟩ := h
  have hx2 : x < 256 := by rw [hx]; exact (l.getD (at_ + k) 0).toNat_lt
  constructor
  · rw [pow_step]
    have : (x - 128) * 2 ^ (7 * k) ≤ 127 * 2 ^ (7 * k) := Nat.mul_le_mul_right _ (by omega)
    omega
  · rw [h2, drop_cons _ _ he, show 9 - k = (9 - (k + 1)) + 1 from by omega, getGo, ← hx, if_pos hx1]
    rfl

theorem getAt_zero {l : List UInt8} {at_ k acc x rn ru re : Nat} (h : GetAt l at_ k acc) (hR : getR l at_ = (rn, ru, re)) (hx : x = (l.getD (at_ + k) 0).toNat) (hx1 : x = 0) (hk : k < 9) (hk0 : 0 < k) (he : at_ + k < l.length) :
    0 = rn ∧ 0 = ru ∧ 6 = re := by
  unfold getR at hR
  rw [h.2, drop_cons _ _ he, show 9 - k = (9 - (k + 1)) + 1 from by omega, getGo, ← hx, if_neg (by omega), if_pos ⟨hx1, hk0⟩] at hR
  simpa using hR

theorem getAt_last {l : List UInt8} {at_ k acc x rn ru re : Nat} (h : GetAt l at_ k acc) (hR : getR l at_ = (rn, ru, re)) (hx : x = (l.getD (at_ + k) 0).toNat) (hx1 : x < 128) (hz : ¬ (x = 0 ∧ 0 < k)) (hk : k < 9) (he : at_ + k < l.length) :
    acc + x * 2 ^ (7 * k) = rn ∧ at_ + k + 1 = ru ∧ 0 = re := by
  unfold getR at hR
  rw [h.2, drop_cons _ _ he, show 9 - k = (9 - (k + 1)) + 1 from by omega, getGo, ← hx, if_neg (by omega), if_neg hz] at hR
  simp only [Prod.mk.injEq] at hR
  omega

set_option maxRecDepth 100000 in
set_option maxHeartbeats 400000 in
theorem get_some (b off n c at_ : Nat) (l : List UInt8) (w : World) (hn : n ≤ 9223372036854775807) (hl : l.length = n) (ha : at_ ≤ n)
    (hc : ∀ j, j < n → w.cell? ⟨b, off + j, none⟩ = some (.int .u8 ((l.getD j 0).toNat : Int))) (rn ru re : Nat) (hR : getR l at_ = (rn, ru, re)) :
    Calls Try.prog 39 #[.slice (some ⟨b, off, none⟩) n c, .int .i64 at_] w fun e w' => e = .returned (.tuple #[.int .i64 rn, .int .i64 ru, .int .i64 re]) ∧ w = w' := by
  have HL := Lib.hid hl
  have HR := Lib.hid hR
  clear hl hR
  go_enter Try.func39, Try.ntmps39
  go_wp2
  go_step3
  go_wp2
  go_step3
  go_wp2
  go_loopg [4, 17] 9 (fun g v i W => ∃ k acc : Nat, w = W ∧ g + k = 9 ∧ at_ + k ≤ n ∧ GetAt l at_ k acc ∧ i = .int .i64 k ∧ v = .int .i64 acc)
  case atStart => exact ⟨0, 0, rfl, rfl, by omega, ⟨by decide, rfl⟩, rfl, rfl⟩
  case round =>
    obtain ⟨k, acc, rfl, hg, hk, hA, rfl, rfl⟩ := hrel
    have HG := Lib.hid hg
    have HA := Lib.hid hA
    clear hg hA
    by_cases hk9 : k < 9
    · by_cases hend : at_ + k < n
      · obtain ⟨x, hx0, hx, hcell⟩ : ∃ x : Nat, x = (l.getD (at_ + k) 0).toNat ∧ x < 256 ∧ w.cell? ⟨b, off + (at_ + k), none⟩ = some (.int .u8 (x : Int)) := ⟨_, rfl, (l.getD (at_ + k) 0).toNat_lt, hc _ hend⟩
        have HX := Lib.hid hx0
        clear hc hx0
        by_cases hx1 : 128 ≤ x
        · go_wp2
          go_roundg (gk - 1)
          case measure => have := HG.out; omega
          case rel =>
            have hl := HL.out
            have hA := HA.out
            exact ⟨k + 1, acc + (x - 128) * 2 ^ (7 * k), rfl, by have := HG.out; omega, by omega, getAt_more hA HX.out hx1 hk9 (by omega), by go_num,
              by rw [or_shift acc (x - 128) k _ (by rw [Int.natCast_mul, Int.natCast_sub hx1]; simp) hA.1 (by omega) hk9]⟩
        · by_cases hz : x = 0
          · subst hz
            by_cases hk0 : 0 < k
            · go_wp2
              rw [Exit.noGoto_ret]
              go_ret3
              obtain ⟨rfl, rfl, rfl⟩ := getAt_zero HA.out HR.out HX.out rfl hk9 hk0 (by have := HL.out; omega)
              exact ⟨rfl, rfl⟩
            · go_wp2
              rw [Exit.noGoto_ret]
              go_ret3
              obtain ⟨rfl, rfl, rfl⟩ := getAt_last HA.out HR.out HX.out (by omega) (by omega) hk9 (by have := HL.out; omega)
              exact ⟨ret3 (by rw [or_zero acc k HA.out.1 hk9]; simp) (by omega) rfl, rfl⟩
          · go_wp2
            rw [Exit.noGoto_ret]
            go_ret3
            obtain ⟨rfl, rfl, rfl⟩ := getAt_last HA.out HR.out HX.out (by omega) (by omega) hk9 (by have := HL.out; omega)
            exact ⟨ret3 (or_shift acc x k _ (by simp) HA.out.1 (by omega) hk9) (by omega) rfl, rfl⟩
      · go_wp2
        rw [Exit.noGoto_ret]
        go_ret3
        obtain ⟨rfl, rfl, rfl⟩ := getAt_end HA.out HR.out (.inr (by have := HL.out; omega))
        exact ⟨rfl, rfl⟩
    · go_wp2
      rw [Exit.noGoto_ret]
      go_ret3
      obtain ⟨rfl, rfl, rfl⟩ := getAt_end HA.out HR.out (.inl hk9)
      exact ⟨rfl, rfl⟩

/-- What Get answers, at whatever place. -/
def getI (l : List UInt8) (at_ : Int) : Nat × Nat × Nat := if at_ < 0 ∨ l.length < at_ then (0, 0, 1) else getR l at_.toNat

set_option maxRecDepth 100000 in
set_option maxHeartbeats 400000 in
theorem get_out (a : Option Addr) (n c : Nat) (at_ : Int) (w : World) (hn : n ≤ 9223372036854775807) (ha : at_ < 0 ∨ n < at_) :
    Calls Try.prog 39 #[.slice a n c, .int .i64 at_] w fun e w' => e = .returned (.tuple #[.int .i64 0, .int .i64 0, .int .i64 1]) ∧ w = w' := by
  rcases ha with ha | ha
  · go_enter Try.func39, Try.ntmps39
    go_wp2
    go_step3
    go_wp2
    rw [Exit.noGoto_ret]
    go_ret3
    exact ⟨rfl, rfl⟩
  · by_cases h0 : at_ < 0
    · omega
    · go_enter Try.func39, Try.ntmps39
      go_wp2
      go_step3
      go_wp2
      rw [Exit.noGoto_ret]
      go_ret3
      exact ⟨rfl, rfl⟩

set_option maxRecDepth 100000 in
set_option maxHeartbeats 400000 in
theorem get_nil (a : Option Addr) (w : World) :
    Calls Try.prog 39 #[.slice a 0 0, .int .i64 0] w fun e w' => e = .returned (.tuple #[.int .i64 0, .int .i64 0, .int .i64 6]) ∧ w = w' := by
  go_enter Try.func39, Try.ntmps39
  go_wp2
  go_step3
  go_wp2
  go_step3
  go_wp2
  refine wp_loop_rounds 1 ?_
  rw [rounds_succ]
  go_wp2
  rw [Exit.noGoto_ret]
  go_ret3
  exact ⟨rfl, rfl⟩

theorem get_any (a : Option Addr) (n c : Nat) (l : List UInt8) (at_ : Int) (w : World) (hb : Bytes w a n c l) (rn ru re : Nat) (hR : getI l at_ = (rn, ru, re)) :
    Calls Try.prog 39 #[.slice a n c, .int .i64 at_] w fun e w' => e = .returned (.tuple #[.int .i64 rn, .int .i64 ru, .int .i64 re]) ∧ w = w' := by
  obtain ⟨hl, hnc, hc63, hb⟩ := hb
  unfold getI at hR
  by_cases ho : at_ < 0 ∨ (l.length : Int) < at_
  · rw [if_pos ho] at hR
    simp only [Prod.mk.injEq] at hR
    obtain ⟨rfl, rfl, rfl⟩ := hR
    exact get_out a n c at_ w (by omega) (by rw [← hl]; exact ho)
  · rw [if_neg ho] at hR
    obtain ⟨k, rfl⟩ := Int.eq_ofNat_of_zero_le (show 0 ≤ at_ by omega)
    rw [Int.toNat_natCast] at hR
    rcases hb with ⟨h1, h2⟩ | ⟨b, off, rfl, hcell⟩
    · subst h1 h2
      have : k = 0 := by omega
      subst this
      unfold getR at hR
      rw [getGo_nil _ _ _ _ (by rw [List.length_drop]; omega)] at hR
      simp only [Prod.mk.injEq] at hR
      obtain ⟨rfl, rfl, rfl⟩ := hR
      exact get_nil a w
    · exact get_some b off n c k l w (by omega) hl (by omega) hcell rn ru re hR
theorem getGo_used (f i acc : Nat) (l : List UInt8) (n u : Nat) (h : getGo f i acc l = some (n, u)) : u ≤ i + l.length ∧ i < u := by
  obtain ⟨h1, h2, _⟩ := getGo_num f i acc l n u h
  omega

/-- What a good answer of Get says. -/
theorem getI_ok {l : List UInt8} {at_ : Int} {n u : Nat} (h : getI l at_ = (n, u, 0)) : 0 ≤ at_ ∧ at_.toNat < u ∧ u ≤ l.length ∧ n < 2 ^ 63 ∧ (l.drop at_.toNat).take (u - at_.toNat) = numF n := by
  unfold getI at h
  by_cases ho : at_ < 0 ∨ (l.length : Int) < at_
  · rw [if_pos ho] at h; simp at h
  · rw [if_neg ho] at h
    unfold getR at h
    cases hg : getGo 9 0 0 (l.drop at_.toNat) with
    | none => rw [hg] at h; simp at h
    | some p =>
      obtain ⟨m, v⟩ := p
      rw [hg] at h
      simp only [Prod.mk.injEq, and_true] at h
      obtain ⟨rfl, rfl⟩ := h
      obtain ⟨h1, h2, k, hk, _, ht⟩ := getGo_num _ _ _ _ _ _ hg
      have := getGo_lt _ _ _ _ _ _ (by omega) (by decide) hg
      rw [List.length_drop] at h2
      refine ⟨by omega, by omega, by omega, this, ?_⟩
      rw [show at_.toNat + v - at_.toNat = v - 0 from by omega, ht]
      congr 1
      simp at hk
      exact hk.symm

/-- What an answer of Get is, where it is no number. -/
theorem getI_err {l : List UInt8} {at_ : Int} {n u e : Nat} (h : getI l at_ = (n, u, e)) (he : e ≠ 0) : n = 0 ∧ u = 0 := by
  unfold getI at h
  by_cases ho : at_ < 0 ∨ (l.length : Int) < at_
  · rw [if_pos ho] at h; simp at h; omega
  · rw [if_neg ho] at h
    unfold getR at h
    split at h <;> simp at h <;> omega

/-- The errors' numbers. -/
theorem getI_num {l : List UInt8} {at_ : Int} {n u e : Nat} (h : getI l at_ = (n, u, e)) : e = 0 ∨ e = 1 ∨ e = 6 := by
  unfold getI at h
  by_cases ho : at_ < 0 ∨ (l.length : Int) < at_
  · rw [if_pos ho] at h; simp at h; omega
  · rw [if_neg ho] at h
    unfold getR at h
    split at h <;> simp at h <;> omega

#print axioms get_any
end Go.Proofs.Ytheigemfbcgjcaa
