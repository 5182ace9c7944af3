/-
  The walks of Put, PutText, PutId: what is written behind bytes, in new memory.
-/
import Derived.Test.YtheigemfbcgjcaaNumber
import Derived.Test.YtheigemfbcgjcaaConcat
namespace Go.Proofs.Ytheigemfbcgjcaa
open Go.RowKit

/-- What is made anew, with an error's number beside it. -/
def MadePair (w : World) (l : List UInt8) (er : Int) (e : Ending) (w' : World) : Prop := ∃ a n c, e = .returned (.tuple #[.slice a n c, .int .i64 er]) ∧ Own w' w.heap.size (.slice a n c) l ∧ Below w.heap.size w w'

theorem parts_two {w : World} {a1 a2 : Option Addr} {n1 c1 n2 c2 : Nat} {l1 l2 : List UInt8} (h1 : Bytes w a1 n1 c1 l1) (h2 : Bytes w a2 n2 c2 l2) :
    Parts (w.alloc (.cells #[.slice a1 n1 c1, .slice a2 n2 c2] 22)) w.heap.size [l1, l2] := by
  have hb : Below w.heap.size w (w.alloc (.cells #[.slice a1 n1 c1, .slice a2 n2 c2] 22)) := (Below.refl _ _).alloc (Nat.le_refl _) _
  intro j hj
  rcases (by simp at hj; omega : j = 0 ∨ j = 1) with rfl | rfl
  · exact ⟨a1, n1, c1, by simp, h1.below hb⟩
  · exact ⟨a2, n2, c2, by simp, h2.below hb⟩

theorem put_neg (a : Option Addr) (n c : Nat) (m : Int) (w : World) (hm : m < 0) :
    Calls Try.prog 17 #[.slice a n c, .int .i64 m] w fun e w' => e = .returned (.tuple #[.slice none 0 0, .int .i64 1]) ∧ w = w' := by
  go_enter Try.func17, Try.ntmps17
  go_wp2
  go_ret2
  exact ⟨rfl, rfl⟩

set_option maxRecDepth 100000 in
set_option maxHeartbeats 400000 in
theorem put_any (a : Option Addr) (n c m : Nat) (l : List UInt8) (w : World) (hb : Bytes w a n c l) (hm : m < 9223372036854775808) (hl : l.length ≤ 281474976710000) :
    Calls Try.prog 17 #[.slice a n c, .int .i64 m] w (MadePair w (l ++ numF m) 0) := by
  have h9 := numF_length_le9 m (by omega)
  have HB := Lib.hid hb
  clear hb
  go_enter Try.func17, Try.ntmps17
  go_wp2_with (go_at_call 28; refine (number_any _ _ hm).mono ?_; rintro e w1 ⟨a1, n1, c1, rfl, hown1, hbel1⟩)
  have hb1 := hown1.isBytes
  have hP := parts_two (HB.out.below hbel1) hb1
  have HP := Lib.hid hP
  have hsz := hbel1.size
  clear hP hb1 hown1
  go_wp2_with (go_at_call 27; go_must (refine (concat_any _ 2 [l, numF m] _ rfl (by omega) HP.out (by simp; omega)).mono ?_); rintro e w2 ⟨a2, n2, c2, rfl, hown2, hbel2⟩)
  go_ret2
  have hz : w1.heap.size ≤ (w1.alloc (.cells #[.slice a n c, .slice a1 n1 c1] 22)).heap.size := by simp
  exact ⟨_, _, _, rfl, by have := hown2.mono (Nat.le_trans hsz hz); simpa using this, (hbel1.trans ((Below.refl _ _).alloc hsz _)).trans (hbel2.mono (Nat.le_trans hsz hz))⟩

#print axioms put_any
end Go.Proofs.Ytheigemfbcgjcaa
