/-
  Merged: Math, Get, GetText, BackMath, RfCode.
-/
import Derived.Below
import Derived.Test.YthihmlojdopmfaaDoorGrp1
import Derived.Deep.LoopGhost
import Derived.Test.YthihmlojdopmfaaDoorGrp2
import Derived.Test.YthihmlojdopmfaaDoorGrp11
namespace Go.Proofs.YthihmlojdopmfaaDoor

def numF (n : Nat) : List UInt8 := if n < 128 then [UInt8.ofNat n] else UInt8.ofNat (n % 128 + 128) :: numF (n / 128)
 termination_by n
 decreasing_by omega

def getGo : Nat → Nat → Nat → List UInt8 → Option (Nat × Nat)
 | 0, _, _, _ => none
 | _ + 1, _, _, [] => none
 | f + 1, i, acc, c :: r =>
  if 128 ≤ c.toNat then getGo f (i + 1) (acc + (c.toNat - 128) * 2 ^ (7 * i)) r
  else if c.toNat = 0 ∧ 0 < i then none else some (acc + c.toNat * 2 ^ (7 * i), i + 1)

theorem numF_lt (n : Nat) (h : n < 128) : numF n = [UInt8.ofNat n] := by rw [numF, if_pos h]
theorem numF_ge (n : Nat) (h : 128 ≤ n) : numF n = UInt8.ofNat (n % 128 + 128) :: numF (n / 128) := by rw [numF, if_neg (by omega)]

theorem byte_back (c : UInt8) : UInt8.ofNat c.toNat = c := by simp

theorem pow_step (i : Nat) : 2 ^ (7 * (i + 1)) = 128 * 2 ^ (7 * i) := by
 rw [show 7 * (i + 1) = 7 * i + 7 from by omega, Nat.pow_add]; omega

theorem getGo_num (f : Nat) : ∀ (i acc : Nat) (l : List UInt8) (n u : Nat), getGo f i acc l = some (n, u) →
  i < u ∧ u - i ≤ l.length ∧ ∃ m, n = acc + m * 2 ^ (7 * i) ∧ (0 < i → 0 < m) ∧ l.take (u - i) = numF m := by
 induction f with
 | zero => intro i acc l n u h; simp [getGo] at h
 | succ f ih =>
  intro i acc l n u h
  cases l with
  | nil => simp [getGo] at h
  | cons c r =>
   by_cases hc : 128 ≤ c.toNat
   ·rw [getGo, if_pos hc] at h
    obtain ⟨h1, h2, m, hn, hm, ht⟩ := ih _ _ _ _ _ h
    have hm' := hm (by omega)
    have hlt : c.toNat < 256 := c.toNat_lt
    refine ⟨by omega, by simp; omega, (c.toNat - 128) + 128 * m, ?_, fun _ => by omega, ?_⟩
    ·rw [hn, pow_step, Nat.add_mul, Nat.add_assoc]
     congr 2
     rw [← Nat.mul_assoc, Nat.mul_comm m 128]
    ·rw [numF_ge _ (by omega), show u - i = (u - (i + 1)) + 1 from by omega, List.take_succ_cons, ht]
     rw [show ((c.toNat - 128) + 128 * m) % 128 + 128 = c.toNat from by omega, byte_back, show ((c.toNat - 128) + 128 * m) / 128 = m from by omega]
   ·rw [getGo, if_neg hc] at h
    by_cases h0 : c.toNat = 0 ∧ 0 < i
    ·rw [if_pos h0] at h; cases h
    ·rw [if_neg h0] at h
     simp only [Option.some.injEq, Prod.mk.injEq] at h
     obtain ⟨rfl, rfl⟩ := h
     refine ⟨by omega, by simp, c.toNat, rfl, fun hi => by omega, ?_⟩
     rw [numF_lt _ (by omega), byte_back, show i + 1 - i = 1 from by omega]; rfl

theorem getGo_lt (f : Nat) : ∀ (i acc : Nat) (l : List UInt8) (n u : Nat), f + i = 9 → acc < 2 ^ (7 * i) → getGo f i acc l = some (n, u) → n < 2 ^ 63 := by
 induction f with
 | zero => intro i acc l n u _ _ h; simp [getGo] at h
 | succ f ih =>
  intro i acc l n u hi ha h
  have hp : 2 ^ (7 * i) * 2 ^ (7 * (8 - i)) = 2 ^ 56 := by rw [← Nat.pow_add]; congr 1; omega
  cases l with
  | nil => simp [getGo] at h
  | cons c r =>
   by_cases hc : 128 ≤ c.toNat
   ·rw [getGo, if_pos hc] at h
    have hlt : c.toNat < 256 := c.toNat_lt
    refine ih _ _ _ _ _ (by omega) ?_ h
    rw [pow_step]
    have : (c.toNat - 128) * 2 ^ (7 * i) ≤ 127 * 2 ^ (7 * i) := Nat.mul_le_mul_right _ (by omega)
    omega
   ·rw [getGo, if_neg hc] at h
    by_cases h0 : c.toNat = 0 ∧ 0 < i
    ·rw [if_pos h0] at h; cases h
    ·rw [if_neg h0] at h
     simp only [Option.some.injEq, Prod.mk.injEq] at h
     obtain ⟨rfl, rfl⟩ := h
     have h1 : c.toNat * 2 ^ (7 * i) ≤ 127 * 2 ^ (7 * i) := Nat.mul_le_mul_right _ (by omega)
     have h2 : 2 ^ (7 * i) ≤ 2 ^ 56 := Nat.pow_le_pow_right (by omega) (by omega)
     have h3 : (2 : Nat) ^ 63 = 128 * 2 ^ 56 := by decide
     omega

theorem getGo_back (f : Nat) : ∀ (i acc m : Nat) (rest : List UInt8), m < 2 ^ (7 * f) → 0 < f → (0 < i → 0 < m) →
  getGo f i acc (numF m ++ rest) = some (acc + m * 2 ^ (7 * i), i + (numF m).length) := by
 induction f with
 | zero => intro i acc m rest _ h0 _; omega
 | succ f ih =>
  intro i acc m rest hm _ hi
  by_cases h : m < 128
  ·rw [numF_lt _ h]
   have e : (UInt8.ofNat m).toNat = m := by simp; omega
   simp only [List.cons_append, List.nil_append, getGo, e, List.length_singleton]
   rw [if_neg (by omega), if_neg (by omega)]
  ·rw [numF_ge _ (by omega)]
   have e : (UInt8.ofNat (m % 128 + 128)).toNat = m % 128 + 128 := by simp; omega
   have hm7 : m < 2 ^ (7 * f) * 128 := by rw [pow_step] at hm; omega
   have hf : 0 < f := by
    rcases Nat.eq_zero_or_pos f with h0 | h0
    ·subst h0; omega
    ·exact h0
   simp only [List.cons_append, getGo, e, List.length_cons]
   rw [if_pos (by omega), ih _ _ _ _ (by omega) hf (fun _ => by omega)]
   have hx : acc + (m % 128 + 128 - 128) * 2 ^ (7 * i) + m / 128 * 2 ^ (7 * (i + 1)) = acc + m * 2 ^ (7 * i) := by
    rw [pow_step, ← Nat.mul_assoc, Nat.add_assoc, ← Nat.add_mul]
    congr 2; omega
   rw [hx, show i + 1 + (numF (m / 128)).length = i + ((numF (m / 128)).length + 1) from by omega]

def getR (l : List UInt8) (at_ : Nat) : Nat × Nat × Nat :=
 match getGo 9 0 0 (l.drop at_) with
 | none => (0, 0, 6)
 | some (n, u) => (n, at_ + u, 0)

theorem getGo_nil (f i acc : Nat) (l : List UInt8) (h : l.length = 0) : getGo f i acc l = none := by
 have : l = [] := List.length_eq_zero_iff.1 h
 subst this
 cases f <;> rfl

theorem drop_cons (l : List UInt8) (k : Nat) (h : k < l.length) : l.drop k = l.getD k 0 :: l.drop (k + 1) := by
 rw [List.drop_eq_getElem_cons h]; simp [h]

theorem numF_length_pos (n : Nat) : 0 < (numF n).length := by
 by_cases h : n < 128
 ·rw [numF_lt _ h]; simp
 ·rw [numF_ge _ (by omega)]; simp

theorem numF_length_le (k : Nat) : ∀ n, n < 2 ^ (7 * k) → 0 < k → (numF n).length ≤ k := by
 induction k with
 | zero => intro n _ h; omega
 | succ k ih =>
  intro n hn _
  by_cases h : n < 128
  ·rw [numF_lt _ h]; simp
  ·rw [numF_ge _ (by omega)]
   have h7 : n < 2 ^ (7 * k) * 128 := by rw [pow_step] at hn; omega
   have hk : 0 < k := by
    rcases Nat.eq_zero_or_pos k with h0 | h0
    ·subst h0; omega
    ·exact h0
   have := ih (n / 128) (by omega) hk
   simp; omega

theorem numF_length_le9 (n : Nat) (h : n < 2 ^ 63) : (numF n).length ≤ 9 := numF_length_le 9 n (by simpa using h) (by omega)

end Go.Proofs.YthihmlojdopmfaaDoor

namespace Go.Proofs.YthihmlojdopmfaaDoor
open Go.RowKit

theorem wraps_i64 (n : Int) (h0 : 0 ≤ n) (h1 : n < 2 ^ 63) : IntKind.i64.wrap n = n := by rw [IntKind.wrap_i64]; omega

theorem shift_lt (y k : Nat) (hy : y < 128) (hk : k < 9) : y * 2 ^ (7 * k) < 2 ^ 63 := by
 have h1 : y * 2 ^ (7 * k) ≤ 127 * 2 ^ (7 * k) := Nat.mul_le_mul_right _ (by omega)
 have h2 : 2 ^ (7 * k) ≤ 2 ^ 56 := Nat.pow_le_pow_right (by omega) (by omega)
 have h3 : (2 : Nat) ^ 63 = 128 * 2 ^ 56 := by decide
 omega

theorem or_shift (acc y k : Nat) (z : Int) (hz : z = ((y * 2 ^ (7 * k) : Nat) : Int)) (ha : acc < 2 ^ (7 * k)) (hy : y < 128) (hk : k < 9) :
  bits .or .i64 (acc : Int) (wrap64 z) = ((acc + y * 2 ^ (7 * k) : Nat) : Int) := by
 have hs := shift_lt y k hy hk
 have h2 : 2 ^ (7 * k) ≤ 2 ^ 56 := Nat.pow_le_pow_right (by omega) (by omega)
 rw [hz, IntWalk.wrap64_in _ ⟨by omega, by omega⟩, (bits_nat .i64 63 (by decide) wraps_i64 acc _ (by omega) hs).2]
 congr 1
 rw [Nat.or_comm, Nat.mul_comm y, ← Nat.two_pow_add_eq_or_of_lt ha y, Nat.add_comm]

theorem or_zero (acc k : Nat) (ha : acc < 2 ^ (7 * k)) (hk : k < 9) : bits .or .i64 (acc : Int) 0 = (acc : Int) := by
 have h2 : 2 ^ (7 * k) ≤ 2 ^ 56 := Nat.pow_le_pow_right (by omega) (by omega)
 have h := (bits_nat .i64 63 (by decide) wraps_i64 acc 0 (by omega) (by decide)).2
 simpa using h

theorem ret3 {a a' b b' c c' : Int} (h1 : a = a') (h2 : b = b') (h3 : c = c') :
  Ending.returned (.tuple #[.int .i64 a, .int .i64 b, .int .i64 c]) = .returned (.tuple #[.int .i64 a', .int .i64 b', .int .i64 c']) := by rw [h1, h2, h3]

def GetAt (l : List UInt8) (at_ k acc : Nat) : Prop := acc < 2 ^ (7 * k) ∧ getGo 9 0 0 (l.drop at_) = getGo (9 - k) k acc (l.drop (at_ + k))

theorem getAt_end {l : List UInt8} {at_ k acc rn ru re : Nat} (h : GetAt l at_ k acc) (hR : getR l at_ = (rn, ru, re)) (hk : ¬ k < 9 ∨ ¬ at_ + k < l.length) : 0 = rn ∧ 0 = ru ∧ 6 = re := by
 have : getGo (9 - k) k acc (l.drop (at_ + k)) = none := by
  rcases hk with hk | hk
  ·rw [show 9 - k = 0 from by omega]; rfl
  ·exact getGo_nil _ _ _ _ (by simp; omega)
 unfold getR at hR
 rw [h.2, this] at hR
 simpa using hR

theorem getAt_more {l : List UInt8} {at_ k acc x : Nat} (h : GetAt l at_ k acc) (hx : x = (l.getD (at_ + k) 0).toNat) (hx1 : 128 ≤ x) (hk : k < 9) (he : at_ + k < l.length) :
  GetAt l at_ (k + 1) (acc + (x - 128) * 2 ^ (7 * k)) := by
 obtain ⟨h1, h2⟩ := h
 have hx2 : x < 256 := by rw [hx]; exact (l.getD (at_ + k) 0).toNat_lt
 constructor
 ·rw [pow_step]
  have : (x - 128) * 2 ^ (7 * k) ≤ 127 * 2 ^ (7 * k) := Nat.mul_le_mul_right _ (by omega)
  omega
 ·rw [h2, drop_cons _ _ he, show 9 - k = (9 - (k + 1)) + 1 from by omega, getGo, ← hx, if_pos hx1]
  rfl

theorem getAt_zero {l : List UInt8} {at_ k acc x rn ru re : Nat} (h : GetAt l at_ k acc) (hR : getR l at_ = (rn, ru, re)) (hx : x = (l.getD (at_ + k) 0).toNat) (hx1 : x = 0) (hk : k < 9) (hk0 : 0 < k) (he : at_ + k < l.length) :
  0 = rn ∧ 0 = ru ∧ 6 = re := by
 unfold getR at hR
 rw [h.2, drop_cons _ _ he, show 9 - k = (9 - (k + 1)) + 1 from by omega, getGo, ← hx, if_neg (by omega), if_pos ⟨hx1, hk0⟩] at hR
 simpa using hR

theorem getAt_last {l : List UInt8} {at_ k acc x rn ru re : Nat} (h : GetAt l at_ k acc) (hR : getR l at_ = (rn, ru, re)) (hx : x = (l.getD (at_ + k) 0).toNat) (hx1 : x < 128) (hz : ¬ (x = 0 ∧ 0 < k)) (hk : k < 9) (he : at_ + k < l.length) :
  acc + x * 2 ^ (7 * k) = rn ∧ at_ + k + 1 = ru ∧ 0 = re := by
 unfold getR at hR
 rw [h.2, drop_cons _ _ he, show 9 - k = (9 - (k + 1)) + 1 from by omega, getGo, ← hx, if_neg (by omega), if_neg hz] at hR
 simp only [Prod.mk.injEq] at hR
 omega

set_option maxRecDepth 100000 in
set_option maxHeartbeats 400000 in
theorem get_some (b off n c at_ : Nat) (l : List UInt8) (w : World) (hn : n ≤ 9223372036854775807) (hl : l.length = n) (ha : at_ ≤ n)
  (hc : ∀ j, j < n → w.cell? ⟨b, off + j, none⟩ = some (.int .u8 ((l.getD j 0).toNat : Int))) (rn ru re : Nat) (hR : getR l at_ = (rn, ru, re)) :
  Calls Tryd.prog 68 #[.slice (some ⟨b, off, none⟩) n c, .int .i64 at_] w fun e w' => e = .returned (.tuple #[.int .i64 rn, .int .i64 ru, .int .i64 re]) ∧ w = w' := by
 have HL := Lib.hid hl
 have HR := Lib.hid hR
 clear hl hR
 go_enter Tryd.func68, Tryd.ntmps68
 go_wp2
 go_step3
 go_wp2
 go_step3
 go_wp2
 go_loopg [4, 17] 9 (fun g v i W => ∃ k acc : Nat, w = W ∧ g + k = 9 ∧ at_ + k ≤ n ∧ GetAt l at_ k acc ∧ i = .int .i64 k ∧ v = .int .i64 acc)
 case atStart => exact ⟨0, 0, rfl, rfl, by omega, ⟨by decide, rfl⟩, rfl, rfl⟩
 case round =>
  obtain ⟨k, acc, rfl, hg, hk, hA, rfl, rfl⟩ := hrel
  have HG := Lib.hid hg
  have HA := Lib.hid hA
  clear hg hA
  by_cases hk9 : k < 9
  ·by_cases hend : at_ + k < n
   ·obtain ⟨x, hx0, hx, hcell⟩ : ∃ x : Nat, x = (l.getD (at_ + k) 0).toNat ∧ x < 256 ∧ w.cell? ⟨b, off + (at_ + k), none⟩ = some (.int .u8 (x : Int)) := ⟨_, rfl, (l.getD (at_ + k) 0).toNat_lt, hc _ hend⟩
    have HX := Lib.hid hx0
    clear hc hx0
    by_cases hx1 : 128 ≤ x
    ·go_wp2
     go_roundg (gk - 1)
     case measure => have := HG.out; omega
     case rel =>
      have hl := HL.out
      have hA := HA.out
      exact ⟨k + 1, acc + (x - 128) * 2 ^ (7 * k), rfl, by have := HG.out; omega, by omega, getAt_more hA HX.out hx1 hk9 (by omega), by go_num,
       by rw [or_shift acc (x - 128) k _ (by rw [Int.natCast_mul, Int.natCast_sub hx1]; simp) hA.1 (by omega) hk9]⟩
    ·by_cases hz : x = 0
     ·subst hz
      by_cases hk0 : 0 < k
      ·go_wp2
       rw [Exit.noGoto_ret]
       go_ret3
       obtain ⟨rfl, rfl, rfl⟩ := getAt_zero HA.out HR.out HX.out rfl hk9 hk0 (by have := HL.out; omega)
       exact ⟨rfl, rfl⟩
      ·go_wp2
       rw [Exit.noGoto_ret]
       go_ret3
       obtain ⟨rfl, rfl, rfl⟩ := getAt_last HA.out HR.out HX.out (by omega) (by omega) hk9 (by have := HL.out; omega)
       exact ⟨ret3 (by rw [or_zero acc k HA.out.1 hk9]; simp) (by omega) rfl, rfl⟩
     ·go_wp2
      rw [Exit.noGoto_ret]
      go_ret3
      obtain ⟨rfl, rfl, rfl⟩ := getAt_last HA.out HR.out HX.out (by omega) (by omega) hk9 (by have := HL.out; omega)
      exact ⟨ret3 (or_shift acc x k _ (by simp) HA.out.1 (by omega) hk9) (by omega) rfl, rfl⟩
   ·go_wp2
    rw [Exit.noGoto_ret]
    go_ret3
    obtain ⟨rfl, rfl, rfl⟩ := getAt_end HA.out HR.out (.inr (by have := HL.out; omega))
    exact ⟨rfl, rfl⟩
  ·go_wp2
   rw [Exit.noGoto_ret]
   go_ret3
   obtain ⟨rfl, rfl, rfl⟩ := getAt_end HA.out HR.out (.inl hk9)
   exact ⟨rfl, rfl⟩

def getI (l : List UInt8) (at_ : Int) : Nat × Nat × Nat := if at_ < 0 ∨ l.length < at_ then (0, 0, 1) else getR l at_.toNat

set_option maxRecDepth 100000 in
set_option maxHeartbeats 400000 in
theorem get_out (a : Option Addr) (n c : Nat) (at_ : Int) (w : World) (hn : n ≤ 9223372036854775807) (ha : at_ < 0 ∨ n < at_) :
  Calls Tryd.prog 68 #[.slice a n c, .int .i64 at_] w fun e w' => e = .returned (.tuple #[.int .i64 0, .int .i64 0, .int .i64 1]) ∧ w = w' := by
 rcases ha with ha | ha
 ·go_enter Tryd.func68, Tryd.ntmps68
  go_wp2
  go_step3
  go_wp2
  rw [Exit.noGoto_ret]
  go_ret3
  exact ⟨rfl, rfl⟩
 ·by_cases h0 : at_ < 0
  ·omega
  ·go_enter Tryd.func68, Tryd.ntmps68
   go_wp2
   go_step3
   go_wp2
   rw [Exit.noGoto_ret]
   go_ret3
   exact ⟨rfl, rfl⟩

set_option maxRecDepth 100000 in
set_option maxHeartbeats 400000 in
theorem get_nil (a : Option Addr) (w : World) :
  Calls Tryd.prog 68 #[.slice a 0 0, .int .i64 0] w fun e w' => e = .returned (.tuple #[.int .i64 0, .int .i64 0, .int .i64 6]) ∧ w = w' := by
 go_enter Tryd.func68, Tryd.ntmps68
 go_wp2
 go_step3
 go_wp2
 go_step3
 go_wp2
 refine wp_loop_rounds 1 ?_
 rw [rounds_succ]
 go_wp2
 rw [Exit.noGoto_ret]
 go_ret3
 exact ⟨rfl, rfl⟩

theorem get_any (a : Option Addr) (n c : Nat) (l : List UInt8) (at_ : Int) (w : World) (hb : Bytes w a n c l) (rn ru re : Nat) (hR : getI l at_ = (rn, ru, re)) :
  Calls Tryd.prog 68 #[.slice a n c, .int .i64 at_] w fun e w' => e = .returned (.tuple #[.int .i64 rn, .int .i64 ru, .int .i64 re]) ∧ w = w' := by
 obtain ⟨hl, hnc, hc63, hb⟩ := hb
 unfold getI at hR
 by_cases ho : at_ < 0 ∨ (l.length : Int) < at_
 ·rw [if_pos ho] at hR
  simp only [Prod.mk.injEq] at hR
  obtain ⟨rfl, rfl, rfl⟩ := hR
  exact get_out a n c at_ w (by omega) (by rw [← hl]; exact ho)
 ·rw [if_neg ho] at hR
  obtain ⟨k, rfl⟩ := Int.eq_ofNat_of_zero_le (show 0 ≤ at_ by omega)
  rw [Int.toNat_natCast] at hR
  rcases hb with ⟨h1, h2⟩ | ⟨b, off, rfl, hcell⟩
  ·subst h1 h2
   have : k = 0 := by omega
   subst this
   unfold getR at hR
   rw [getGo_nil _ _ _ _ (by rw [List.length_drop]; omega)] at hR
   simp only [Prod.mk.injEq] at hR
   obtain ⟨rfl, rfl, rfl⟩ := hR
   exact get_nil a w
  ·exact get_some b off n c k l w (by omega) hl (by omega) hcell rn ru re hR
theorem getI_ok {l : List UInt8} {at_ : Int} {n u : Nat} (h : getI l at_ = (n, u, 0)) : 0 ≤ at_ ∧ at_.toNat < u ∧ u ≤ l.length ∧ n < 2 ^ 63 ∧ (l.drop at_.toNat).take (u - at_.toNat) = numF n := by
 unfold getI at h
 by_cases ho : at_ < 0 ∨ (l.length : Int) < at_
 ·rw [if_pos ho] at h; simp at h
 ·rw [if_neg ho] at h
  unfold getR at h
  cases hg : getGo 9 0 0 (l.drop at_.toNat) with
  | none => rw [hg] at h; simp at h
  | some p =>
   obtain ⟨m, v⟩ := p
   rw [hg] at h
   simp only [Prod.mk.injEq, and_true] at h
   obtain ⟨rfl, rfl⟩ := h
   obtain ⟨h1, h2, k, hk, _, ht⟩ := getGo_num _ _ _ _ _ _ hg
   have := getGo_lt _ _ _ _ _ _ (by omega) (by decide) hg
   rw [List.length_drop] at h2
   refine ⟨by omega, by omega, by omega, this, ?_⟩
   rw [show at_.toNat + v - at_.toNat = v - 0 from by omega, ht]
   congr 1
   simp at hk
   exact hk.symm

end Go.Proofs.YthihmlojdopmfaaDoor

namespace Go.Proofs.YthihmlojdopmfaaDoor
open Go.RowKit

def getT (l : List UInt8) (at_ most : Int) : List UInt8 × Nat × Nat :=
 match getI l at_ with
 | (n, u, 0) => if most < n then ([], 0, 2) else if l.length < u + n then ([], 0, 6) else ((l.drop u).take n, u + n, 0)
 | (_, _, e + 1) => ([], 0, e + 1)

def TextIs (r : List UInt8 × Nat × Nat) (w : World) (e : Ending) (w' : World) : Prop :=
 e = .returned (.tuple #[.string (strB r.1), .int .i64 r.2.1, .int .i64 r.2.2]) ∧ w = w'

set_option maxRecDepth 100000 in
set_option maxHeartbeats 400000 in
theorem getText_any (a : Option Addr) (n c : Nat) (l : List UInt8) (at_ most : Int) (w : World) (hb : Bytes w a n c l) :
  Calls Tryd.prog 65 #[.slice a n c, .int .i64 at_, .int .i64 most] w (TextIs (getT l at_ most) w) := by
 have HB := Lib.hid hb
 have hn63 : n ≤ 9223372036854775807 := by obtain ⟨_, h1, h2, _⟩ := hb; omega
 obtain ⟨rn, ru, re, hR⟩ : ∃ rn ru re, getI l at_ = (rn, ru, re) := ⟨_, _, _, rfl⟩
 have hln := hb.1
 cases re with
 | succ re =>
  have hT : getT l at_ most = ([], 0, re + 1) := by unfold getT; rw [hR]
  have HT := Lib.hid hT
  have HR := Lib.hid hR
  have hne : ((re : Int) + 1 != 0) = true := by rw [bne_iff_ne]; omega
  clear hT hR hln hb
  go_enter Tryd.func65, Tryd.ntmps65
  go_wp2_with (go_at_call 68; refine (get_any _ _ _ _ _ _ HB.out _ _ _ HR.out).mono ?_; rintro e w1 ⟨rfl, rfl⟩)
  go_ret3
  exact ⟨by rw [HT.out]; rfl, rfl⟩
 | zero =>
  obtain ⟨h0, h1, h2, h3, _⟩ := getI_ok hR
  have hru : ru ≤ n := by omega
  have hrn : rn < 9223372036854775808 := by omega
  by_cases hm : most < rn
  ·have hT : getT l at_ most = ([], 0, 2) := by unfold getT; rw [hR]; simp [hm]
   have HT := Lib.hid hT
   have HR := Lib.hid hR
   clear hT hR hln hb h0 h1 h2 h3
   go_enter Tryd.func65, Tryd.ntmps65
   go_wp2_with (go_at_call 68; refine (get_any _ _ _ _ _ _ HB.out _ _ _ HR.out).mono ?_; rintro e w1 ⟨rfl, rfl⟩)
   go_ret3
   exact ⟨by rw [HT.out]; rfl, rfl⟩
  ·by_cases hl : n < ru + rn
   ·have hT : getT l at_ most = ([], 0, 6) := by unfold getT; rw [hR]; simp only [if_neg hm]; rw [if_pos (by omega)]
    have HT := Lib.hid hT
    have HR := Lib.hid hR
    clear hT hR hln hb h0 h1 h2 h3
    go_enter Tryd.func65, Tryd.ntmps65
    go_wp2_with (go_at_call 68; refine (get_any _ _ _ _ _ _ HB.out _ _ _ HR.out).mono ?_; rintro e w1 ⟨rfl, rfl⟩)
    go_ret3
    exact ⟨by rw [HT.out]; rfl, rfl⟩
   ·have hT : getT l at_ most = ((l.drop ru).take rn, ru + rn, 0) := by unfold getT; rw [hR]; simp only [if_neg hm]; rw [if_neg (by omega)]
    have HT := Lib.hid hT
    have HR := Lib.hid hR
    obtain ⟨b, off, rfl⟩ : ∃ b off, a = some ⟨b, off, none⟩ := by
     rcases hb.2.2.2 with ⟨h, _⟩ | ⟨b, off, rfl, _⟩
     ·omega
     ·exact ⟨b, off, rfl⟩
    have hS := run_str (hb.cut ru rn (by omega))
    have hnc := hb.2.1
    have hc63 := hb.2.2.1
    clear hT hR hln hb h0 h1 h2 h3
    by_cases hcu : c = ru
    ·subst hcu
     obtain rfl : rn = 0 := by omega
     have hS0 := run_str (show Bytes w (some ⟨b, off, none⟩) 0 0 [] from ⟨rfl, Nat.le_refl _, by omega, .inr ⟨_, _, rfl, fun j hj => by omega⟩⟩)
     clear hS
     go_enter Tryd.func65, Tryd.ntmps65
     go_wp2_with (go_at_call 68; refine (get_any _ _ _ _ _ _ HB.out _ _ _ HR.out).mono ?_; rintro e w1 ⟨rfl, rfl⟩)
     go_ret3
     exact ⟨by rw [HT.out]; rfl, rfl⟩
    ·go_enter Tryd.func65, Tryd.ntmps65
     go_wp2_with (go_at_call 68; refine (get_any _ _ _ _ _ _ HB.out _ _ _ HR.out).mono ?_; rintro e w1 ⟨rfl, rfl⟩)
     go_ret3
     exact ⟨by rw [HT.out]; rfl, rfl⟩

end Go.Proofs.YthihmlojdopmfaaDoor

namespace Go.Proofs.YthihmlojdopmfaaDoor
open Go.RowKit

theorem getI_back (A R : List UInt8) (k : Nat) (hk : k < 9223372036854775808) : getI (A ++ (numF k ++ R)) (A.length : Int) = (k, A.length + (numF k).length, 0) := by
 unfold getI
 rw [if_neg (by simp; omega)]
 unfold getR
 rw [show ((A.length : Int)).toNat = A.length from by omega, List.drop_left, getGo_back 9 0 0 k R (by simpa using hk) (by omega) (by omega)]
 simp

theorem getD_back (A R il : List UInt8) (hi : il.length = 32) : getD_ (A ++ (il ++ R)) (A.length : Int) = (il, A.length + 32, 0) := by
 unfold getD_
 rw [if_neg (by simp; omega), if_neg (by simp; omega), show ((A.length : Int)).toNat = A.length from by omega, List.drop_left, ← hi, List.take_left]
end Go.Proofs.YthihmlojdopmfaaDoor

namespace Go.Proofs.YthihmlojdopmfaaDoor
open Go.RowKit

def txtRf (s : List UInt8) : List UInt8 := numF s.length ++ s
def nameB (x : RName) : List UInt8 := txtRf x.1 ++ x.2
def namesB (L : List RName) : List UInt8 := L.flatMap nameB
def entB (e : EntV) : List UInt8 := [UInt8.ofNat e.upd.kind] ++ (txtRf e.upd.name ++ (e.upd.old ++ (e.upd.new ++ txtRf e.note)))
def logB (L : List EntV) : List UInt8 := L.flatMap entB
def listB (L : List RName) : List UInt8 := numF L.length ++ namesB L
def writeF (r : RefsV) : List UInt8 := listB r.br ++ (listB r.tg ++ (txtRf r.head ++ (r.at_ ++ (numF r.log.length ++ logB r.log))))
theorem namesB_snoc (L : List RName) (x : RName) : namesB (L ++ [x]) = namesB L ++ nameB x := by simp [namesB]
theorem logB_snoc (L : List EntV) (x : EntV) : logB (L ++ [x]) = logB L ++ entB x := by simp [logB]

def pN (B : List UInt8) (at_ most : Nat) : Option (Nat × Nat) := match getI B at_ with
 | (n, u, 0) => if n ≤ most then some (n, u) else none
 | _ => none
def pT (B : List UInt8) (at_ most : Nat) : Option (List UInt8 × Nat) := match getT B at_ most with
 | (s, u, 0) => some (s, u)
 | _ => none
def pD (B : List UInt8) (at_ : Nat) : Option (List UInt8 × Nat) := match getD_ B at_ with
 | (s, u, 0) => some (s, u)
 | _ => none
def pB (B : List UInt8) (at_ : Nat) : Option (UInt8 × Nat) := if at_ < B.length then some (B.getD at_ 0, at_ + 1) else none
def pName (B : List UInt8) (m at_ : Nat) : Option (RName × Nat) := (pT B at_ m).bind fun s => (pD B s.2).map fun i => ((s.1, i.1), i.2)
def pEnt (B : List UInt8) (m at_ : Nat) : Option (EntV × Nat) := (pB B at_).bind fun k => (pT B k.2 m).bind fun s => (pD B s.2).bind fun o => (pD B o.2).bind fun n => (pT B n.2 256).map fun t => (⟨⟨k.1.toNat, s.1, o.1, n.1⟩, t.1⟩, t.2)
def pList {α : Type} (get : Nat → Option (α × Nat)) : Nat → Nat → Option (List α × Nat)
 | 0, at_ => some ([], at_)
 | n + 1, at_ => (get at_).bind fun x => (pList get n x.2).map fun l => (x.1 :: l.1, l.2)
def pNames (B : List UInt8) (m at_ : Nat) : Option (List RName × Nat) := (pN B at_ 64).bind fun n => pList (pName B m) n.1 n.2
def pLog (B : List UInt8) (m at_ : Nat) : Option (List EntV × Nat) := (pN B at_ 64).bind fun n => pList (pEnt B m) n.1 n.2
def readF (B : List UInt8) (m : Nat) : Option RefsV := (pNames B m 0).bind fun b => (pNames B m b.2).bind fun g => (pT B g.2 m).bind fun h => (pD B h.2).bind fun a => (pLog B m a.2).bind fun l =>
 if l.2 = B.length then some ⟨b.1, g.1, h.1, a.1, l.1⟩ else none
open Classical in
noncomputable def decRf (B : List UInt8) : RefsV × Nat := match readF B 32 with
 | some r => if RightV r then (r, 0) else (noRefs, 6)
 | none => (noRefs, 6)
open Classical in
noncomputable def encRf (r : RefsV) : List UInt8 × Nat := if RightV r then (writeF r, 0) else ([], 1)

theorem pN_back (A R : List UInt8) {k m : Nat} (hm : k ≤ m) (h : m < 9223372036854775808) : pN (A ++ (numF k ++ R)) A.length m = some (k, A.length + (numF k).length) := by
 unfold pN
 rw [getI_back A R k (by omega)]
 simp only []
 rw [if_pos hm]
theorem getT_more {A R s : List UInt8} {m : Nat} (hs : s.length ≤ m) (h : m < 9223372036854775808) : getT (A ++ (numF s.length ++ (s ++ R))) (A.length : Int) (m : Int) = (s, A.length + (numF s.length).length + s.length, 0) := by
 unfold getT
 rw [getI_back A (s ++ R) s.length (by omega)]
 simp only []
 rw [if_neg (by omega), if_neg (by simp; omega)]
 rw [← List.append_assoc, ← List.append_assoc, show A.length + (numF s.length).length = (A ++ numF s.length).length from by simp, List.append_assoc (A ++ numF s.length), List.drop_left, List.take_left]
theorem pT_back (A R : List UInt8) {s : List UInt8} {m : Nat} (hm : s.length ≤ m) (h : m < 9223372036854775808) : pT (A ++ (txtRf s ++ R)) A.length m = some (s, A.length + (txtRf s).length) := by
 unfold pT txtRf
 rw [List.append_assoc, getT_more hm h]
 simp only [List.length_append]
 rw [Nat.add_assoc]
theorem pD_back (A R : List UInt8) {i : List UInt8} (hi : i.length = 32) : pD (A ++ (i ++ R)) A.length = some (i, A.length + i.length) := by
 unfold pD
 rw [getD_back A R i hi]
 show some (i, A.length + 32) = _
 rw [hi]
theorem pB_back (A R : List UInt8) (k : UInt8) : pB (A ++ ([k] ++ R)) A.length = some (k, A.length + 1) := by
 unfold pB
 rw [if_pos (by simp)]
 simp
theorem pName_back (A R : List UInt8) {x : RName} {m : Nat} (h : m < 9223372036854775808) (h1 : x.1.length ≤ m) (h2 : x.2.length = 32) : pName (A ++ (nameB x ++ R)) m A.length = some (x, A.length + (nameB x).length) := by
 unfold pName nameB
 rw [List.append_assoc, pT_back A _ h1 h]
 simp only [Option.bind_some]
 have e : A ++ (txtRf x.1 ++ (x.2 ++ R)) = (A ++ txtRf x.1) ++ (x.2 ++ R) := by rw [List.append_assoc]
 rw [e, show A.length + (txtRf x.1).length = (A ++ txtRf x.1).length from by simp, pD_back _ R h2]
 simp only [Option.map_some, List.length_append]
 rw [Nat.add_assoc]
theorem pEnt_back (A R : List UInt8) {x : EntV} {m : Nat} (h : m < 9223372036854775808) (h1 : x.upd.name.length ≤ m) (hx : UpOk x.upd) (hn : x.note.length ≤ 256) : pEnt (A ++ (entB x ++ R)) m A.length = some (x, A.length + (entB x).length) := by
 obtain ⟨⟨k, s, o, n⟩, t⟩ := x
 obtain ⟨hk, ho, hn'⟩ := hx
 simp only at h1 hk ho hn' hn
 unfold pEnt entB
 simp only []
 have e1 : A ++ ([UInt8.ofNat k] ++ (txtRf s ++ (o ++ (n ++ txtRf t))) ++ R) = A ++ ([UInt8.ofNat k] ++ (txtRf s ++ (o ++ (n ++ (txtRf t ++ R))))) := by simp only [List.append_assoc]
 rw [e1, pB_back]
 simp only [Option.bind_some]
 have e2 : A ++ ([UInt8.ofNat k] ++ (txtRf s ++ (o ++ (n ++ (txtRf t ++ R))))) = (A ++ [UInt8.ofNat k]) ++ (txtRf s ++ (o ++ (n ++ (txtRf t ++ R)))) := by simp only [List.append_assoc]
 rw [e2, show A.length + 1 = (A ++ [UInt8.ofNat k]).length from by simp, pT_back _ _ h1 h]
 simp only [Option.bind_some]
 have e3 : (A ++ [UInt8.ofNat k]) ++ (txtRf s ++ (o ++ (n ++ (txtRf t ++ R)))) = ((A ++ [UInt8.ofNat k]) ++ txtRf s) ++ (o ++ (n ++ (txtRf t ++ R))) := by simp only [List.append_assoc]
 rw [e3, show (A ++ [UInt8.ofNat k]).length + (txtRf s).length = ((A ++ [UInt8.ofNat k]) ++ txtRf s).length from by simp; omega, pD_back _ _ ho]
 simp only [Option.bind_some]
 have e4 : ((A ++ [UInt8.ofNat k]) ++ txtRf s) ++ (o ++ (n ++ (txtRf t ++ R))) = (((A ++ [UInt8.ofNat k]) ++ txtRf s) ++ o) ++ (n ++ (txtRf t ++ R)) := by simp only [List.append_assoc]
 rw [e4, show ((A ++ [UInt8.ofNat k]) ++ txtRf s).length + o.length = (((A ++ [UInt8.ofNat k]) ++ txtRf s) ++ o).length from List.length_append.symm, pD_back _ _ hn']
 simp only [Option.bind_some]
 have e5 : (((A ++ [UInt8.ofNat k]) ++ txtRf s) ++ o) ++ (n ++ (txtRf t ++ R)) = ((((A ++ [UInt8.ofNat k]) ++ txtRf s) ++ o) ++ n) ++ (txtRf t ++ R) := by simp only [List.append_assoc]
 rw [e5, show (((A ++ [UInt8.ofNat k]) ++ txtRf s) ++ o).length + n.length = ((((A ++ [UInt8.ofNat k]) ++ txtRf s) ++ o) ++ n).length from List.length_append.symm, pT_back _ _ hn (by omega)]
 simp only [Option.map_some]
 have e6 : (UInt8.ofNat k).toNat = k := by simp; omega
 rw [e6]
 congr 2
 simp only [List.length_append, List.length_cons, List.length_nil]
 omega
theorem pList_back {α : Type} (get : List UInt8 → Nat → Option (α × Nat)) (wr : α → List UInt8) (ok : α → Prop) (hb : ∀ A R x, ok x → get (A ++ (wr x ++ R)) A.length = some (x, A.length + (wr x).length)) :
  ∀ (L : List α) (A R : List UInt8), (∀ x ∈ L, ok x) → pList (get (A ++ (L.flatMap wr ++ R))) L.length A.length = some (L, A.length + (L.flatMap wr).length)
 | [], A, R, _ => by simp [pList]
 | x :: L, A, R, h => by
  have ih := pList_back get wr ok hb L (A ++ wr x) R (fun y hy => h y (List.mem_cons_of_mem _ hy))
  have e : A ++ ((x :: L).flatMap wr ++ R) = A ++ (wr x ++ (L.flatMap wr ++ R)) := by simp [List.append_assoc]
  have e2 : (A ++ wr x) ++ (L.flatMap wr ++ R) = A ++ (wr x ++ (L.flatMap wr ++ R)) := by simp [List.append_assoc]
  rw [List.length_cons]
  unfold pList
  rw [e, hb A _ x (h x List.mem_cons_self)]
  simp only [Option.bind_some]
  rw [e2, show (A ++ wr x).length = A.length + (wr x).length from by simp] at ih
  rw [ih]
  simp only [Option.map_some, List.flatMap_cons, List.length_append]
  rw [Nat.add_assoc]
theorem pNames_back (A R : List UInt8) {L : List RName} {m : Nat} (h : m < 9223372036854775808) (hl : L.length ≤ 64) (hL : ∀ x ∈ L, x.1.length ≤ m ∧ x.2.length = 32) : pNames (A ++ (listB L ++ R)) m A.length = some (L, A.length + (listB L).length) := by
 unfold pNames listB
 rw [List.append_assoc, pN_back A _ hl (by omega)]
 simp only [Option.bind_some]
 have e : A ++ (numF L.length ++ (namesB L ++ R)) = (A ++ numF L.length) ++ (L.flatMap nameB ++ R) := by rw [List.append_assoc]; rfl
 rw [e, show A.length + (numF L.length).length = (A ++ numF L.length).length from by simp, pList_back (fun B => pName B m) nameB (fun x => x.1.length ≤ m ∧ x.2.length = 32) (fun A R x hx => pName_back A R h hx.1 hx.2) L _ R hL]
 congr 2
 show _ = A.length + (numF L.length ++ L.flatMap nameB).length
 simp only [List.length_append]; omega
theorem pLog_back (A R : List UInt8) {L : List EntV} {m : Nat} (h : m < 9223372036854775808) (hl : L.length ≤ 64) (hL : ∀ x ∈ L, x.upd.name.length ≤ m ∧ UpOk x.upd ∧ x.note.length ≤ 256) : pLog (A ++ ((numF L.length ++ logB L) ++ R)) m A.length = some (L, A.length + (numF L.length ++ logB L).length) := by
 unfold pLog
 rw [List.append_assoc, pN_back A _ hl (by omega)]
 simp only [Option.bind_some]
 have e : A ++ (numF L.length ++ (logB L ++ R)) = (A ++ numF L.length) ++ (L.flatMap entB ++ R) := by rw [List.append_assoc]; rfl
 rw [e, show A.length + (numF L.length).length = (A ++ numF L.length).length from by simp, pList_back (fun B => pEnt B m) entB (fun x => x.upd.name.length ≤ m ∧ UpOk x.upd ∧ x.note.length ≤ 256) (fun A R x hx => pEnt_back A R h hx.1 hx.2.1 hx.2.2) L _ R hL]
 congr 2
 show _ = A.length + (numF L.length ++ L.flatMap entB).length
 simp only [List.length_append]; omega
def Full (r : RefsV) : Prop := (∀ x ∈ r.br, x.2.length = 32) ∧ (∀ x ∈ r.tg, x.2.length = 32) ∧ (∀ e ∈ r.log, UpOk e.upd) ∧ r.at_.length = 32
theorem note_len {s : List UInt8} (h : noteF s = true) : s.length ≤ 256 := by
 unfold noteF at h
 simp only [Bool.and_eq_true, decide_eq_true_eq] at h
 omega
theorem head_len32 {r : RefsV} (h : RightV r) : r.head.length ≤ 32 := by
 have h3 := h.2.2.1
 unfold headF at h3
 split at h3
 ·rename_i h0; rw [h0]; decide
 ·rw [Bool.and_eq_true] at h3; exact name_len h3.1
theorem read_write {r : RefsV} {m : Nat} (hm1 : 32 ≤ m) (hm : m < 9223372036854775808) (h : RightV r) (hf : Full r) : readF (writeF r) m = some r := by
 obtain ⟨h1, h2, h3, h4⟩ := h
 obtain ⟨f1, f2, f3, f4⟩ := hf
 have g1 : ∀ x ∈ r.br, x.1.length ≤ m ∧ x.2.length = 32 := fun x hx => ⟨by have := name_len (h1.2.1 x hx).1; omega, f1 x hx⟩
 have g2 : ∀ x ∈ r.tg, x.1.length ≤ m ∧ x.2.length = 32 := fun x hx => ⟨by have := name_len (h2.2.1 x hx).1; omega, f2 x hx⟩
 have g3 : ∀ x ∈ r.log, x.upd.name.length ≤ m ∧ UpOk x.upd ∧ x.note.length ≤ 256 := fun x hx => by
  have := h4.2 x hx
  unfold entF at this
  simp only [Bool.and_eq_true, decide_eq_true_eq] at this
  exact ⟨by omega, f3 x hx, note_len this.2⟩
 have gh : r.head.length ≤ m := by have := head_len32 ⟨h1, h2, h3, h4⟩; omega
 unfold readF writeF
 have e0 := pNames_back [] (listB r.tg ++ (txtRf r.head ++ (r.at_ ++ (numF r.log.length ++ logB r.log)))) (L := r.br) hm h1.1 g1
 rw [List.nil_append, List.length_nil, Nat.zero_add] at e0
 rw [e0]
 simp only [Option.bind_some]
 rw [pNames_back (listB r.br) _ hm h2.1 g2]
 simp only [Option.bind_some]
 have e2 : listB r.br ++ (listB r.tg ++ (txtRf r.head ++ (r.at_ ++ (numF r.log.length ++ logB r.log)))) = (listB r.br ++ listB r.tg) ++ (txtRf r.head ++ (r.at_ ++ (numF r.log.length ++ logB r.log))) := by simp only [List.append_assoc]
 rw [e2, show (listB r.br).length + (listB r.tg).length = (listB r.br ++ listB r.tg).length from by simp, pT_back _ _ gh hm]
 simp only [Option.bind_some]
 have e3 : (listB r.br ++ listB r.tg) ++ (txtRf r.head ++ (r.at_ ++ (numF r.log.length ++ logB r.log))) = ((listB r.br ++ listB r.tg) ++ txtRf r.head) ++ (r.at_ ++ (numF r.log.length ++ logB r.log)) := by simp only [List.append_assoc]
 rw [e3, show (listB r.br ++ listB r.tg).length + (txtRf r.head).length = ((listB r.br ++ listB r.tg) ++ txtRf r.head).length from List.length_append.symm, pD_back _ _ f4]
 simp only [Option.bind_some]
 have e4 : ((listB r.br ++ listB r.tg) ++ txtRf r.head) ++ (r.at_ ++ (numF r.log.length ++ logB r.log)) = (((listB r.br ++ listB r.tg) ++ txtRf r.head) ++ r.at_) ++ ((numF r.log.length ++ logB r.log) ++ []) := by simp only [List.append_assoc, List.append_nil]
 rw [e4, show ((listB r.br ++ listB r.tg) ++ txtRf r.head).length + r.at_.length = (((listB r.br ++ listB r.tg) ++ txtRf r.head) ++ r.at_).length from List.length_append.symm, pLog_back _ _ hm h4.1 g3]
 simp only [Option.bind_some]
 rw [if_pos (by simp only [List.length_append, List.append_nil])]
end Go.Proofs.YthihmlojdopmfaaDoor
