/-
  LebPuts: any number, text and id, added to any bytes, as the document's own answers.
-/
import Derived.Test.YtkjgcgdfofheeaaCopy
import Derived.Test.YtkjgcgdfofheeaaAwake
import Derived.Test.YtkjgcgdfofheeaaText
import Derived.Deep.RegionHeld3
namespace Go.Proofs.Ytkjgcgdfofheeaa
open Go.RowKit

theorem run_cat (l m : List UInt8) (h : l.length + m.length ≤ 9223372036854775807) (W : World) : (Op.stringOp .add (strB l) (strB m)).run Try.prog W = .ok (.string (strB (l ++ m))) W := by
  have hm : ¬ (((strB l).size + (strB m).size : Nat) : Int) > IntKind.i64.max := by
    rw [strB_size, strB_size]
    simp only [IntKind.max, IntKind.signed, IntKind.bits]
    simp; omega
  unfold Op.stringOp
  simp only [hm, if_false, Sem.run_pure]
  congr 2

set_option maxRecDepth 100000 in
set_option maxHeartbeats 400000 in
theorem puts_neg (a : Option Addr) (n c : Nat) (l : List UInt8) (m : Int) (s : ByteArray) (w : World) (hb : Bytes w a n c l) (hl : l.length ≤ 140737488351232) (hm : m < 0) :
    Calls Try.prog 3 #[.slice a n c, .int .i64 m, .string s] w fun e w' => e = .returned (.bool true) ∧ Below w.heap.size w w' := by
  have HB := Lib.hid hb
  have HL := Lib.hid hl
  clear hb hl
  go_enter Try.func3, Try.ntmps3
  go_wp2_with (first
    | (go_at_call 10; go_must (refine (copy_any _ _ _ _ _ HB.out (by have := HL.out; omega)).mono ?_); rintro e w1 ⟨a1, n1, c1, rfl, hown1, hbel1⟩; have hsz1 := hbel1.size)
    | (go_at_call 9; go_must (refine (put_neg _ _ _ _ _ hm).mono ?_); rintro e w2 ⟨rfl, rfl⟩)
    | (go_at_call 11; go_must (refine (awake_any _).mono ?_); rintro e w3 ⟨rfl, hbel3⟩))
  go_ret
  exact ⟨rfl, hbel1.trans (hbel3.mono hsz1)⟩

set_option maxRecDepth 100000 in
set_option maxHeartbeats 1000000 in
theorem puts_ok (a : Option Addr) (n c : Nat) (l : List UInt8) (m : Nat) (s : ByteArray) (w : World) (hb : Bytes w a n c l) (hl : l.length ≤ 140737488351232) (hs : s.size ≤ 140737488351232) (hm : m < 9223372036854775808) :
    Calls Try.prog 3 #[.slice a n c, .int .i64 m, .string s] w fun e w' => e = .returned (.bool true) ∧ Below w.heap.size w w' := by
  have HB := Lib.hid hb
  have HL := Lib.hid hl
  have HS := Lib.hid hs
  have HM := Lib.hid hm
  clear hb hl hs hm
  go_enter Try.func3, Try.ntmps3
  go_wp2_with fail
  refine (copy_any _ _ _ _ _ HB.out (by have := HL.out; omega)).mono ?_
  rintro e w1 ⟨a1, n1, c1, rfl, hown1, hbel1⟩
  go_wp2_with fail
  refine (put_any _ _ _ _ _ _ hown1.isBytes HM.out (by have := HL.out; omega)).mono ?_
  rintro e w2 ⟨a2, n2, c2, rfl, hown2, hbel2⟩
  have hb2 := hbel1.trans (hbel2.mono hbel1.size)
  clear hown1 hbel1 hbel2
  go_wp2_with fail
  refine (copy_any _ _ _ _ _ (HB.out.below hb2) (by have := HL.out; omega)).mono ?_
  rintro e w3 ⟨a3, n3, c3, rfl, hown3, hbel3⟩
  have hb3 := hb2.trans (hbel3.mono hb2.size)
  have hB2 := hown2.isBytes.below hbel3
  clear hown2 hbel3 hb2
  go_wp2_with fail
  refine (putText_any _ _ _ _ _ _ hown3.isBytes HS.out (by have := HL.out; have := HS.out; omega)).mono ?_
  rintro e w4 ⟨a4, n4, c4, rfl, hown4, hbel4⟩
  have hb4 := hb3.trans (hbel4.mono hb3.size)
  have hc1 : ∀ W, Below w4.heap.size w4 W → ∀ dst, Try.prog.underlying dst = some .string → (convert 22 dst (.slice a2 n2 c2)).run Try.prog W = .ok (.string (strB (l ++ numF m))) W := fun W hW => run_str ((hB2.below hbel4).below hW)
  have hc2 : ∀ W, Below w4.heap.size w4 W → ∀ dst, Try.prog.underlying dst = some .string → (convert 22 dst (.slice a n c)).run Try.prog W = .ok (.string (strB l)) W := fun W hW => run_str ((HB.out.below hb4).below hW)
  have hc3 : ∀ W, Below w4.heap.size w4 W → ∀ dst, Try.prog.underlying dst = some .string → (convert 22 dst (.slice a4 n4 c4)).run Try.prog W = .ok (.string (strB (l ++ (numF s.size ++ s.data.toList)))) W := fun W hW => run_str (hown4.isBytes.below hW)
  have hk1 := run_cat l (numF m) (by have := HL.out; have := numF_length_le9 m (by have := HM.out; omega); omega)
  have hk2 := run_cat l (numF s.size ++ s.data.toList) (by have := HL.out; have := HS.out; have := numF_length_le9 s.size (by omega); simp; omega)
  have hS0 : Below w4.heap.size w4 w4.drew := (Below.refl _ _).drew
  clear hown4 hB2 hown3 hb3 hbel4
  go_wp2_with fail
  go_region_held (fun W => Below w4.heap.size w4 W) (first | with_reducible assumption | exact Below.refl _ _)
    (first
      | (go_at_call 13; refine (refNumber_any _ _ HM.out).mono ?_; rintro e w5 ⟨a5, n5, c5, rfl, hown5, hbel5⟩; have hs5 := run_str hown5.isBytes; have hS5 : Below w4.heap.size w4 w5 := hS0.trans hbel5; clear hown5)
      | (go_at_call 14; refine (refText_any _ _ HS.out).mono ?_; rintro e w6 ⟨a6, n6, c6, rfl, hB6, hbel6⟩; have hs6 := run_str hB6; have hS6 := hS5.trans (hbel6.mono hS5.size))
      | (go_at_call 11; refine (awake_any _).mono ?_; rintro e w7 ⟨rfl, hbel7⟩; have hS7 := hS6.trans (hbel7.mono hS6.size)))
  clear hc1 hc2 hc3 hk1 hk2
  go_wp2_with fail
  go_ret
  exact ⟨rfl, hb4.trans (hS7.mono hb4.size)⟩

theorem puts_any (a : Option Addr) (n c : Nat) (l : List UInt8) (m : Int) (s : ByteArray) (w : World) (hb : Bytes w a n c l) (hl : l.length ≤ 140737488351232) (hs : s.size ≤ 140737488351232) (hm : m ≤ 9223372036854775807) :
    Calls Try.prog 3 #[.slice a n c, .int .i64 m, .string s] w fun e w' => e = .returned (.bool true) ∧ Below w.heap.size w w' := by
  by_cases h : m < 0
  · exact puts_neg a n c l m s w hb hl h
  · obtain ⟨k, rfl⟩ := Int.eq_ofNat_of_zero_le (show 0 ≤ m by omega)
    exact puts_ok a n c l k s w hb hl hs (by omega)
#print axioms puts_any
end Go.Proofs.Ytkjgcgdfofheeaa
