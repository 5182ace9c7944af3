/-
  The walks of the document's May and of its Bytes.
-/
import Derived.Test.YtbfaaphijgmabaaDoorUtfDec
import Derived.Lib.Small
import Derived.Test.YtbfaaphijgmabaaDoorBytes
namespace Go.Proofs.YtbfaaphijgmabaaDoor
open Go.RowKit

theorem valid_nat (n : Nat) : Lib.validRune (n : Int) = mayF n := by
  rw [Bool.eq_iff_iff, mayF_iff]
  simp [Lib.validRune]
  omega

theorem valid_of (r : Int) (h : Lib.validRune r = true) : ∃ n : Nat, r = (n : Int) ∧ mayF n = true := by
  have h0 : 0 ≤ r := by simp [Lib.validRune] at h; omega
  obtain ⟨n, rfl⟩ := Int.eq_ofNat_of_zero_le h0
  exact ⟨n, rfl, by rw [← valid_nat]; exact h⟩

theorem mayF_lt {n : Nat} (h : mayF n = true) : n ≤ 1114111 := by rw [mayF_iff] at h; omega

/-- The model's own bytes of a rune. -/
theorem encode_eq (n : Nat) (h : mayF n = true) : Utf8.encode (n : Int) = strB (encF n) := by
  have hv : Utf8.valid (n : Int) = true := by
    rw [mayF_iff] at h
    simp [Utf8.valid]
    omega
  unfold Utf8.encode encF
  simp only [hv, if_true, Int.toNat_natCast]
  repeat' split
  all_goals rfl

theorem retB {a b : Bool} (h : a = b) : Ending.returned (.bool a) = .returned (.bool b) := by rw [h]

set_option maxRecDepth 100000 in
set_option maxHeartbeats 400000 in
theorem refMay_any (r : Int) (w : World) : Calls Tryd.prog 42 #[.int .i32 r] w fun e w' => e = .returned (.bool (Lib.validRune r)) ∧ w = w' := by
  obtain ⟨b, hb⟩ : ∃ b, b = Lib.validRune r := ⟨_, rfl⟩
  rw [← hb]
  have HB := Lib.hid hb
  clear hb
  by_cases h1 : 0 ≤ r
  · by_cases h2 : r < 55296
    · have hv := Lib.hid (show b = true by rw [HB.out]; simp [Lib.validRune]; omega)
      clear HB
      go_enter Tryd.func42, Tryd.ntmps42
      go_wp2
      go_ret
      exact ⟨retB hv.out.symm, rfl⟩
    · by_cases h3 : 57343 < r
      · by_cases h4 : r ≤ 1114111
        · have hv := Lib.hid (show b = true by rw [HB.out]; simp [Lib.validRune]; omega)
          clear HB
          go_enter Tryd.func42, Tryd.ntmps42
          go_wp2
          go_ret
          exact ⟨retB hv.out.symm, rfl⟩
        · have hv := Lib.hid (show b = false by rw [HB.out]; simp [Lib.validRune]; omega)
          clear HB
          go_enter Tryd.func42, Tryd.ntmps42
          go_wp2
          go_ret
          exact ⟨retB hv.out.symm, rfl⟩
      · have hv := Lib.hid (show b = false by rw [HB.out]; simp [Lib.validRune]; omega)
        clear HB
        go_enter Tryd.func42, Tryd.ntmps42
        go_wp2
        go_ret
        exact ⟨retB hv.out.symm, rfl⟩
  · have hv := Lib.hid (show b = false by rw [HB.out]; simp [Lib.validRune]; omega)
    clear HB
    have h5 : ¬ 57343 < r := by omega
    go_enter Tryd.func42, Tryd.ntmps42
    go_wp2
    go_ret
    exact ⟨retB hv.out.symm, rfl⟩

theorem own_new (w : World) (l : List UInt8) (h : l.length ≤ 100) : Own (w.alloc (.cells (l.map B).toArray 5)) w.heap.size (.slice (some ⟨w.heap.size, 0, none⟩) l.length l.length) l := by
  refine ⟨by simp, .inr ⟨w.heap.size, l.length, (l.map B).toArray, rfl, Nat.le_refl _, heap_alloc_new w _, Nat.le_refl _, by unfold maxLen; omega, by simp, List.take_of_length_le (by simp)⟩⟩

theorem B_ofNat (n : Nat) (z : Int) (h : n < 256) (hz : z = (n : Int)) : B (UInt8.ofNat n) = .int .u8 z := by
  unfold B; rw [ofNat_toNat n h, hz]

theorem made_new {w : World} {l : List UInt8} {vs : Array Value} {k : Nat} (hv : (l.map B).toArray = vs) (hk : l.length = k) (h : k ≤ 100) :
    Made w l (.returned (.slice (some ⟨w.heap.size, 0, none⟩) k k)) (w.alloc (.cells vs 5)) := by
  subst hv hk
  exact ⟨_, _, _, rfl, own_new w l h, (Below.refl _ _).alloc (Nat.le_refl _) _⟩

set_option maxRecDepth 100000 in
set_option maxHeartbeats 400000 in
theorem refBytes_any (n : Nat) (h : n ≤ 1114111) (w : World) : Calls Tryd.prog 26 #[.int .i32 (n : Int)] w (Made w (encF n)) := by
  by_cases h1 : n < 128
  · have HE := Lib.hid (show encF n = [UInt8.ofNat n] by unfold encF; rw [if_pos h1])
    have g1 : (n : Int) < 128 := by omega
    have H := Lib.hid (show n ≤ 1114111 ∧ n < 128 from ⟨h, h1⟩)
    clear h h1
    go_enter Tryd.func26, Tryd.ntmps26
    go_wp2
    go_ret
    rw [HE.out]
    obtain ⟨h, h1⟩ := H.out
    exact made_new (by simp only [List.map_cons, List.map_nil]; rw [B_ofNat (n) ((n : Int)) (by omega) (by omega)]) rfl (by omega)
  · by_cases h2 : n < 2048
    · have HE := Lib.hid (show encF n = [UInt8.ofNat (192 + n / 64), UInt8.ofNat (128 + n % 64)] by unfold encF; rw [if_neg h1, if_pos h2])
      have g1 : ¬ ((n : Int) < 128) := by omega
      have g2 : (n : Int) < 2048 := by omega
      have H := Lib.hid (show n ≤ 1114111 ∧ ¬ n < 128 ∧ n < 2048 from ⟨h, h1, h2⟩)
      clear h h1 h2
      go_enter Tryd.func26, Tryd.ntmps26
      go_wp2
      go_ret
      rw [HE.out]
      obtain ⟨h, h1, h2⟩ := H.out
      exact made_new (by simp only [List.map_cons, List.map_nil]; rw [B_ofNat (192 + n / 64) (192 + (n : Int) / 64) (by omega) (by omega), B_ofNat (128 + n % 64) (128 + (n : Int) % 64) (by omega) (by omega)]) rfl (by omega)
    · by_cases h3 : n < 65536
      · have HE := Lib.hid (show encF n = [UInt8.ofNat (224 + n / 4096), UInt8.ofNat (128 + n / 64 % 64), UInt8.ofNat (128 + n % 64)] by unfold encF; rw [if_neg h1, if_neg h2, if_pos h3])
        have g1 : ¬ ((n : Int) < 128) := by omega
        have g2 : ¬ ((n : Int) < 2048) := by omega
        have g3 : (n : Int) < 65536 := by omega
        have H := Lib.hid (show n ≤ 1114111 ∧ ¬ n < 128 ∧ ¬ n < 2048 ∧ n < 65536 from ⟨h, h1, h2, h3⟩)
        clear h h1 h2 h3
        go_enter Tryd.func26, Tryd.ntmps26
        go_wp2
        go_ret
        rw [HE.out]
        obtain ⟨h, h1, h2, h3⟩ := H.out
        exact made_new (by simp only [List.map_cons, List.map_nil]; rw [B_ofNat (224 + n / 4096) (224 + (n : Int) / 4096) (by omega) (by omega), B_ofNat (128 + n / 64 % 64) (128 + (n : Int) / 64 % 64) (by omega) (by omega), B_ofNat (128 + n % 64) (128 + (n : Int) % 64) (by omega) (by omega)]) rfl (by omega)
      · have HE := Lib.hid (show encF n = [UInt8.ofNat (240 + n / 262144), UInt8.ofNat (128 + n / 4096 % 64), UInt8.ofNat (128 + n / 64 % 64), UInt8.ofNat (128 + n % 64)] by unfold encF; rw [if_neg h1, if_neg h2, if_neg h3])
        have g1 : ¬ ((n : Int) < 128) := by omega
        have g2 : ¬ ((n : Int) < 2048) := by omega
        have g3 : ¬ ((n : Int) < 65536) := by omega
        have g4 : (n : Int) ≤ 1114111 := by omega
        have H := Lib.hid (show n ≤ 1114111 ∧ ¬ n < 128 ∧ ¬ n < 2048 ∧ ¬ n < 65536 from ⟨h, h1, h2, h3⟩)
        clear h h1 h2 h3
        go_enter Tryd.func26, Tryd.ntmps26
        go_wp2
        go_ret
        rw [HE.out]
        obtain ⟨h, h1, h2, h3⟩ := H.out
        exact made_new (by simp only [List.map_cons, List.map_nil]; rw [B_ofNat (240 + n / 262144) (240 + (n : Int) / 262144) (by omega) (by omega), B_ofNat (128 + n / 4096 % 64) (128 + (n : Int) / 4096 % 64) (by omega) (by omega), B_ofNat (128 + n / 64 % 64) (128 + (n : Int) / 64 % 64) (by omega) (by omega), B_ofNat (128 + n % 64) (128 + (n : Int) % 64) (by omega) (by omega)]) rfl (by omega)
#print axioms refBytes_any
end Go.Proofs.YtbfaaphijgmabaaDoor
