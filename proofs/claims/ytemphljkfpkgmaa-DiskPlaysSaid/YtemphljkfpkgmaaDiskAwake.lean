/-
  The walk of awake: what the chapter's examples say, holds.
-/
import Derived.Test.YtemphljkfpkgmaaDiskRun
import Derived.Lib.SlBytesConst
namespace Go.Proofs.Ytemphljkfpkgmaa
open Go.RowKit Go.Maps

abbrev aS : ByteArray := ⟨#[97]⟩
def p1 : DS := (appendS (newS 100) aS.data.toList [120, 121]).1
def p2 : DS := (syncS p1 aS.data.toList).1
def p3 : DS := (appendS p2 aS.data.toList [122]).1
def p4 : DS := crashS p3 [0, 0]
def r1 : DS := (appendS (newS 100) aS.data.toList [120]).1
def r2 : DS := crashS r1 [0]
theorem few_p : (newS 100).kept.length + (newS 100).acts.length ≤ 1000000 ∧ p1.kept.length + p1.acts.length ≤ 1000000 ∧ p2.kept.length + p2.acts.length ≤ 1000000 ∧ p3.kept.length + p3.acts.length ≤ 1000000 ∧ r1.kept.length + r1.acts.length ≤ 1000000 ∧ r2.kept.length + r2.acts.length ≤ 1000000 := by decide +kernel
theorem ref_p : (newS 100).refused ≤ 1000000 ∧ p2.refused ≤ 1000000 ∧ r2.refused ≤ 1000000 := by decide +kernel
theorem ans_p : (appendS (newS 100) aS.data.toList [120, 121]).2 = 0 ∧ (syncS p1 aS.data.toList).2 = 0 ∧ (appendS p2 aS.data.toList [122]).2 = 0 ∧ readS p4 aS.data.toList = ([120, 121], 0) ∧ (appendS (newS 100) aS.data.toList [120]).2 = 0 ∧ (readS r2 aS.data.toList).2 = 4 ∧ (appendS r2 (⟨#[]⟩ : ByteArray).data.toList []).2 = 10 := by decide +kernel
theorem zer (l : List Int) (h : l = [0, 0] ∨ l = [0]) : ∀ z ∈ l, -9223372036854775808 ≤ z ∧ z ≤ 9223372036854775807 := by
  intro z hz
  rcases h with rfl | rfl <;> simp at hz <;> omega

theorem strB_xy : strB [120, 121] = ⟨#[120, 121]⟩ := rfl
set_option maxRecDepth 100000 in
set_option maxHeartbeats 2000000 in
theorem awake_any (w : World) : Calls Try.prog 15 #[] w fun e w' => e = .returned (.bool true) ∧ Below w.heap.size w w' := by
  obtain ⟨f0, f1, f2, f3, f4, f5⟩ := few_p
  obtain ⟨g0, g2, g3⟩ := ref_p
  obtain ⟨a1, a2, a3, a4, a5, a6, a7⟩ := ans_p
  have N1 := Lib.hid (aw_new (Below.refl w.heap.size w) 100 100 rfl (by omega))
  have A1 := Lib.hid (fun W F db (R : Run w W F db (newS 100)) => aw_app R aS [120, 121] #[.int .u8 120, .int .u8 121] (2, 3) 2 rfl rfl (by omega) f0 g0 (z := 0) (by rw [a1]; rfl))
  have Y1 := Lib.hid (fun W F db (R : Run w W F db p1) => aw_sync R aS f1 (z := 0) (by rw [a2]; rfl))
  have A2 := Lib.hid (fun W F db (R : Run w W F db p2) => aw_app R aS [122] #[.int .u8 122] (1, 2) 1 rfl rfl (by omega) f2 g2 (z := 0) (by rw [a3]; rfl))
  have C1 := Lib.hid (fun W F db (R : Run w W F db p3) => aw_crash R [0, 0] #[.int .i64 0, .int .i64 0] 2 rfl rfl (by omega) f3 (zer _ (.inl rfl)))
  have D1 := Lib.hid (fun W F db (R : Run w W F db p4) => aw_read R aS a4)
  have N2 := Lib.hid (fun (W : World) => aw_new (Below.refl W.heap.size W) 100 100 rfl (by omega))
  have A3 := Lib.hid (fun w W F db (R : Run w W F db (newS 100)) => aw_app R aS [120] #[.int .u8 120] (1, 2) 1 rfl rfl (by omega) f0 g0 (z := 0) (by rw [a5]; rfl))
  have C2 := Lib.hid (fun w W F db (R : Run w W F db r1) => aw_crash R [0] #[.int .i64 0] 1 rfl rfl (by omega) f4 (zer _ (.inr rfl)))
  have D2 := Lib.hid (fun w W F db (R : Run w W F db r2) => aw_read R aS (r := (readS r2 aS.data.toList)) rfl)
  have A4 := Lib.hid (fun w W F db (R : Run w W F db r2) => aw_nil R ⟨#[]⟩ f5 g3 (z := 10) (by rw [a7]; rfl))
  have Q6 := Lib.hid a6
  clear f0 f1 f2 f3 f4 f5 g0 g2 g3 a1 a2 a3 a4 a5 a6 a7
  have kc := fun (w : World) (C : Array Value) (n c : Nat) => Lib.run_convert_bytes_const (P := Try.prog) w 35 5 C n c Try.underlying35 Try.underlying5
  go_enter Try.func15, Try.ntmps15
  go_wp2_with (first
    | (go_at_call 5; have _ := Q9; (with_reducible refine (N2.out _).mono ?_); rintro e W6 ⟨db2, rfl, F6, hr⟩; have R6 := Lib.hid hr; have Q10 := trivial; clear hr)
    | (go_at_call 5; (with_reducible refine N1.out.mono ?_); rintro e W1 ⟨db, rfl, F, hr⟩; have R1 := Lib.hid hr; clear hr)
    | (go_at_call 16; (with_reducible refine (A4.out _ _ _ _ R8.out).mono ?_); rintro e W9 ⟨rfl, F9, hr⟩; have R9 := Lib.hid hr; clear hr)
    | (go_at_call 16; (with_reducible refine (A3.out _ _ _ _ R6.out).mono ?_); rintro e W7 ⟨rfl, F7, hr⟩; have R7 := Lib.hid hr; clear hr)
    | (go_at_call 16; (with_reducible refine (A2.out _ _ _ R3.out).mono ?_); rintro e W4 ⟨rfl, F4, hr⟩; have R4 := Lib.hid hr; clear hr)
    | (go_at_call 16; (with_reducible refine (A1.out _ _ _ R1.out).mono ?_); rintro e W2 ⟨rfl, F2, hr⟩; have R2 := Lib.hid hr; clear hr)
    | (go_at_call 18; (with_reducible refine (Y1.out _ _ _ R2.out).mono ?_); rintro e W3 ⟨rfl, F3, hr⟩; have R3 := Lib.hid hr; clear hr)
    | (go_at_call 26; (with_reducible refine (C2.out _ _ _ _ R7.out).mono ?_); rintro e W8 ⟨rfl, F8, hr⟩; have R8 := Lib.hid hr; clear hr)
    | (go_at_call 26; (with_reducible refine (C1.out _ _ _ R4.out).mono ?_); rintro e W5 ⟨rfl, F5, hr⟩; have R5 := Lib.hid hr; clear hr)
    | (go_at_call 23; (with_reducible refine (D2.out _ _ _ _ R8.out).mono ?_); rintro e Wb ⟨ar, nr, cr, Fb, rfl, hbt, hr, _⟩; have R8 := Lib.hid hr; have hs := run_str (Bytes.below BY.out hr.2.2) 9 Try.underlying9; rw [strB_xy] at hs; rw [Q6.out]; clear hr hbt)
    | (go_at_call 23; (with_reducible refine (D1.out _ _ _ R5.out).mono ?_); rintro e Wa ⟨ar, nr, cr, Fa, rfl, hbt, hr, _⟩; have BB := Lib.hid hr.2.2; have BY := Lib.hid hbt; have Q9 := trivial; clear hr hbt))
  go_ret
  exact ⟨rfl, BB.out.trans (R9.out.2.2.mono BB.out.size)⟩
#print axioms awake_any
end Go.Proofs.Ytemphljkfpkgmaa
