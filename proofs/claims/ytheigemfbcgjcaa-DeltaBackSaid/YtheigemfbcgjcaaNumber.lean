/-
  The walk of number: the bytes of a number, made anew.
-/
import Derived.Test.YtheigemfbcgjcaaMath
import Derived.Test.YtheigemfbcgjcaaBytes
import Derived.Deep.LoopGhost
namespace Go.Proofs.Ytheigemfbcgjcaa
open Go.RowKit

theorem byte_more (g : Nat) : bits .or .u8 ((g : Int) % 128) 128 = ((UInt8.ofNat (g % 128 + 128)).toNat : Int) := by
  rw [u8_or128_right _ (by omega) (by omega)]
  have : (UInt8.ofNat (g % 128 + 128)).toNat = g % 128 + 128 := by simp; omega
  rw [this]; omega

theorem byte_last (g : Nat) (h : g < 128) : (g : Int) = ((UInt8.ofNat g).toNat : Int) := by
  have : (UInt8.ofNat g).toNat = g := by simp; omega
  rw [this]

set_option maxRecDepth 100000 in
set_option maxHeartbeats 400000 in
theorem number_any (n : Nat) (w : World) (hn : n < 9223372036854775808) :
    Calls Try.prog 28 #[.int .i64 n] w (Made w (numF n)) := by
  go_enter Try.func28, Try.ntmps28
  go_wp2
  go_loopg [0, 3] n (fun g v0 v3 wr => ∃ done : List UInt8, g ≤ n ∧ v0 = .int .i64 (g : Int) ∧ Hid (numF n = done ++ numF g ∧ done.length + (numF g).length ≤ 9) ∧ Own wr w.heap.size v3 done ∧ Below w.heap.size w wr)
  case atStart => exact ⟨[], Nat.le_refl _, rfl, ⟨rfl, by have := numF_length_le9 n (by omega); simpa using this⟩, Own.nil _ _, Below.refl _ _⟩
  case round =>
    obtain ⟨done, hg, rfl, hd, hown, hbel⟩ := hrel
    have hB := Lib.hid (byte_more gk)
    have hsz := hbel.size
    by_cases h128 : 128 ≤ gk
    · go_wp2_with (at_builtin; go_must (refine app_bytes rfl (.tmp 8) (.tmp 13) rfl w.heap.size _ done rfl (hown.alloc _) (some ⟨wr.heap.size, 0, none⟩) 1 1 [UInt8.ofNat (gk % 128 + 128)] rfl (by rw [hB.out]; exact bytes_one _ _) (by have := hd.out.2; omega) (by simp; omega) ?_); intro v' w1 hown1 hgr1)
      go_roundg (gk / 128)
      case measure => omega
      case rel =>
        have hd := hd.out
        have hn7 := numF_ge gk (by omega)
        refine ⟨done ++ [UInt8.ofNat (gk % 128 + 128)], by omega, by go_num, ⟨by rw [hd.1, hn7]; simp, ?_⟩, hown1, ((hbel.alloc hsz _).grown hgr1 (by simp; omega) hown.grown)⟩
        rw [hn7] at hd
        simp at hd ⊢
        omega
    · have hlt : gk < 128 := by omega
      have hL := Lib.hid (byte_last gk hlt)
      go_wp2_with (at_builtin; go_must (refine app_bytes rfl (.tmp 15) (.tmp 18) rfl w.heap.size _ done rfl (hown.alloc _) (some ⟨wr.heap.size, 0, none⟩) 1 1 [UInt8.ofNat gk] rfl (by rw [hL.out]; exact bytes_one _ _) (by have := hd.out.2; omega) (by simp; omega) ?_); intro v' w1 hown1 hgr1)
      go_ret
      refine Made.of ?_ ((hbel.alloc hsz _).grown hgr1 (by simp; omega) hown.grown)
      rw [hd.out.1, numF_lt _ hlt]
      exact hown1
#print axioms number_any
end Go.Proofs.Ytheigemfbcgjcaa
