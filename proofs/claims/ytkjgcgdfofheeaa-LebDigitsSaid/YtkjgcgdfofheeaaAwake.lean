/-
  The walk of awake: what the chapter's examples say, holds.
-/
import Derived.Test.YtkjgcgdfofheeaaPut
import Derived.Test.YtkjgcgdfofheeaaGetText
namespace Go.Proofs.Ytkjgcgdfofheeaa
open Go.RowKit

theorem numF_300 : numF 300 = [172, 2] := by rw [numF_ge _ (by omega), numF_lt _ (by omega)]; rfl

theorem bytes_new (w : World) (l : List UInt8) (cs : Array Value) (n : Nat) (hn : l.length = n) (hcs : cs = (l.map B).toArray) (h63 : n ≤ 1000000) : Bytes (w.alloc (.cells cs 5)) (some ⟨w.heap.size, 0, none⟩) n n l := by
  subst hcs
  refine ⟨hn, Nat.le_refl _, by omega, .inr ⟨_, _, rfl, fun j hj => ?_⟩⟩
  rw [Nat.zero_add, World.cell?_alloc_new]
  have : j < l.length := by omega
  simp [this, B]

set_option maxRecDepth 100000 in
set_option maxHeartbeats 400000 in
theorem awake_any (w : World) : Calls Try.prog 11 #[] w fun e w' => e = .returned (.bool true) ∧ Below w.heap.size w w' := by
  go_enter Try.func11, Try.ntmps11
  go_wp2_with (go_at_call 9; go_must (refine (put_any none 0 0 300 [] _ (Bytes.nil _) (by omega) (by simp)).mono ?_); rintro e w1 ⟨a, n, c, rfl, hown, hbel⟩)
  rw [numF_300] at hown
  have hn : n = 2 := hown.len
  subst hn
  have hb := hown.isBytes
  obtain ⟨_, hc2, hc63, hb⟩ := hb
  rcases hb with ⟨h, _⟩ | ⟨b, off, rfl, hc⟩
  · omega
  have c0 : w1.cell? ⟨b, off, none⟩ = some (.int .u8 172) := hc 0 (by omega)
  have c1 : w1.cell? ⟨b, off + 1, none⟩ = some (.int .u8 2) := hc 1 (by omega)
  have B1 := Lib.hid (bytes_new w1 [128, 0] #[.int .u8 128, .int .u8 0] 2 rfl rfl (by omega))
  have R1 := Lib.hid (show getI [128, 0] 0 = (0, 0, 6) from by decide)
  have hsz := hbel.size
  have hlt := World.block_lt_of_cell? _ _ c0
  clear hc hown
  go_wp2_with (go_at_call 15; go_must (refine (get_any _ _ _ _ _ _ B1.out _ _ _ R1.out).mono ?_); rintro e w2 ⟨rfl, rfl⟩)
  have b2 := (bytes_new (w1.alloc (.cells #[.int .u8 128, .int .u8 0] 5)) [3, 97, 98, 99, 100] #[.int .u8 3, .int .u8 97, .int .u8 98, .int .u8 99, .int .u8 100] 5 rfl rfl (by omega))
  simp only [World.size_alloc] at b2
  have B2 := Lib.hid b2
  clear b2
  have R2 := Lib.hid (show getT [3, 97, 98, 99, 100] 0 3 = ([97, 98, 99], 4, 0) from by decide)
  go_wp2_with (go_at_call 17; go_must (refine (getText_any _ _ _ _ _ _ _ B2.out).mono ?_); rintro e w2 ⟨he, rfl⟩; rw [R2.out] at he; obtain rfl : e = .returned (.tuple #[.string ⟨#[97, 98, 99]⟩, .int .i64 4, .int .i64 0]) := he)
  go_ret
  exact ⟨rfl, (hbel.alloc hsz _).alloc (by simp; omega) _⟩
#print axioms awake_any
end Go.Proofs.Ytkjgcgdfofheeaa
