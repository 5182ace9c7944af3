/-
  The walk of delta's awake: what the chapter's example says, holds.
-/
import Derived.Test.YtheigemfbcgjcaaDlPure
import Derived.Test.YtheigemfbcgjcaaDlMakeW
import Derived.Lib.SmallJoins
namespace Go.Proofs.Ytheigemfbcgjcaa
open Go.RowKit Go.Lib

theorem bytes_new (w : World) (l : List UInt8) (cs : Array Value) (n : Nat) (hn : l.length = n) (hcs : cs = (l.map B).toArray) (h63 : n ≤ 1000000) (fz : Nat × Nat) : Bytes (w.alloc (.cells cs 5 fz)) (some ⟨w.heap.size, 0, none⟩) n n l := by
  subst hcs
  refine ⟨hn, Nat.le_refl _, by omega, .inr ⟨_, _, rfl, fun j hj => ?_⟩⟩
  rw [Nat.zero_add, cell_of_row _ _ _ _ _ _ (heap_alloc_new w _)]
  have : j < l.length := by omega
  simp [this, B]
def egB : List UInt8 := [48, 49, 50, 51, 52, 53, 54, 55, 56, 57]
def egT : List UInt8 := [48, 49, 50, 51, 52, 53, 54, 55, 56, 57, 120]
theorem eg_make : makeF egB egT = [10, 11, 21, 0, 2, 120] := by
  have r0 : rowF egB (egT.drop 0) = (0, 10) := by decide +kernel
  have r1 : rowF egB (egT.drop (0 + 10)) = (0, 0) := by decide +kernel
  unfold makeF
  rw [show egT.length + 1 = 11 + 1 from rfl, go_row (at_ := 0) (by decide) r0 (by decide), show (11 : Nat) = 10 + 1 from rfl, go_none (by decide) r1, show (10 : Nat) = 9 + 1 from rfl, go_end (by decide)]
  have n1 : numF egB.length = [10] := numF_lt 10 (by omega)
  have n2 : numF egT.length = [11] := numF_lt 11 (by omega)
  have n3 : numF 21 = [21] := numF_lt 21 (by omega)
  have n4 : numF 0 = [0] := numF_lt 0 (by omega)
  have n5 : numF 2 = [2] := numF_lt 2 (by omega)
  have a1 : addF egT 0 0 = [] := rfl
  have a2 : addF egT (0 + 10) egT.length = numF 2 ++ [120] := rfl
  rw [n1, n2, n3, n4, a1, a2, n5]
  rfl
theorem eg_apply : applyF egB [10, 11, 21, 0, 2, 120] = (egT, 0) := by
  have h := apply_make egB egT (by decide) (by decide)
  rwa [eg_make] at h

set_option maxRecDepth 100000 in
set_option maxHeartbeats 1000000 in
theorem awake_any (w : World) : Calls Try.prog 11 #[] w fun e w' => e = .returned (.bool true) ∧ Below w.heap.size w w' := by
  have b1 := bytes_new w egB #[.int .u8 48, .int .u8 49, .int .u8 50, .int .u8 51, .int .u8 52, .int .u8 53, .int .u8 54, .int .u8 55, .int .u8 56, .int .u8 57] 10 rfl rfl (by omega) (10, 11)
  have b2 := bytes_new (w.alloc (.cells #[.int .u8 48, .int .u8 49, .int .u8 50, .int .u8 51, .int .u8 52, .int .u8 53, .int .u8 54, .int .u8 55, .int .u8 56, .int .u8 57] 5 (10, 11))) egT #[.int .u8 48, .int .u8 49, .int .u8 50, .int .u8 51, .int .u8 52, .int .u8 53, .int .u8 54, .int .u8 55, .int .u8 56, .int .u8 57, .int .u8 120] 11 rfl rfl (by omega) (11, 12)
  have b1' := b1.below ((Below.refl _ _).alloc (Nat.le_refl _) (.cells #[.int .u8 48, .int .u8 49, .int .u8 50, .int .u8 51, .int .u8 52, .int .u8 53, .int .u8 54, .int .u8 55, .int .u8 56, .int .u8 57, .int .u8 120] 5 (11, 12)))
  simp only [World.size_alloc] at b2
  have B1 := Lib.hid b1'
  have B2 := Lib.hid b2
  have BW : Hid (∀ o1 o2, Below w.heap.size w ((w.alloc o1).alloc o2)) := Lib.hid (fun o1 o2 => ((Below.refl _ _).alloc (Nat.le_refl _) o1).alloc (by simp) o2)
  clear b1 b2 b1'
  have kc := fun (w : World) (C : Array Value) (n c : Nat) => Lib.run_convert_bytes_const (P := Try.prog) w 22 5 C n c Try.underlying22 Try.underlying5
  have kc2 := Go.Joins.run_convert_bytes_const_at (P := Try.prog) (w.alloc (.cells #[.int .u8 48, .int .u8 49, .int .u8 50, .int .u8 51, .int .u8 52, .int .u8 53, .int .u8 54, .int .u8 55, .int .u8 56, .int .u8 57] 5 (10, 11))) 22 5 #[.int .u8 48, .int .u8 49, .int .u8 50, .int .u8 51, .int .u8 52, .int .u8 53, .int .u8 54, .int .u8 55, .int .u8 56, .int .u8 57, .int .u8 120] 11 11 (w.heap.size + 1) (by simp) Try.underlying22 Try.underlying5
  go_enter Try.func11, Try.ntmps11
  go_wp2_with (go_at_call 8; go_must (refine (make_any _ _ _ _ _ _ egB egT _ B1.out B2.out (by omega) (by omega)).mono ?_); rintro e w1 ⟨a, n, c, rfl, ho, hb⟩; have HO := Lib.hid ho; have HB1 := Lib.hid ((BW.out _ _).trans (hb.mono (by simp; omega))); clear ho hb)
  rw [eg_make] at HO
  have b3 := bytes_new w1 egB #[.int .u8 48, .int .u8 49, .int .u8 50, .int .u8 51, .int .u8 52, .int .u8 53, .int .u8 54, .int .u8 55, .int .u8 56, .int .u8 57] 10 rfl rfl (by omega) (10, 11)
  have B3 := Lib.hid b3
  have HO1 := Lib.hid (HO.out.isBytes.below ((Below.refl _ _).alloc (Nat.le_refl _) (.cells #[.int .u8 48, .int .u8 49, .int .u8 50, .int .u8 51, .int .u8 52, .int .u8 53, .int .u8 54, .int .u8 55, .int .u8 56, .int .u8 57] 5 (10, 11))))
  have HB2 := Lib.hid (HB1.out.alloc HB1.out.size (.cells #[.int .u8 48, .int .u8 49, .int .u8 50, .int .u8 51, .int .u8 52, .int .u8 53, .int .u8 54, .int .u8 55, .int .u8 56, .int .u8 57] 5 (10, 11)))
  clear b3
  go_wp2_with (go_at_call 12; go_must (refine (apply_any _ _ _ _ _ _ egB [10, 11, 21, 0, 2, 120] _ B3.out HO1.out (by decide)).mono ?_); rintro e w2 ⟨a2, n2, c2, rfl, ho, hb⟩; rw [eg_apply] at *; have hs1 : ∀ dst, Try.prog.underlying dst = some .string → (convert 22 dst (.slice a n c)).run Try.prog w2 = .ok (.string ⟨#[10, 11, 21, 0, 2, 120]⟩) w2 := run_str (HO1.out.below hb); have hs2 : ∀ dst, Try.prog.underlying dst = some .string → (convert 22 dst (.slice a2 n2 c2)).run Try.prog w2 = .ok (.string ⟨#[48, 49, 50, 51, 52, 53, 54, 55, 56, 57, 120]⟩) w2 := run_str ho.isBytes; have HB3 := Lib.hid (HB2.out.trans (hb.mono HB2.out.size)); clear ho hb)
  go_ret
  exact ⟨rfl, HB3.out⟩
#print axioms awake_any
end Go.Proofs.Ytheigemfbcgjcaa
