/-
  The walks of Clash and of clashes, the program's and the document's.
-/
import Derived.Test.YtipoielcmaegaaaGreatDoorPathMath
import Derived.Test.YtipoielcmaegaaaGreatDoorOneG
import Derived.Lib.Strings
namespace Go.Proofs.YtipoielcmaegaaaGreatDoor
open Go.RowKit

theorem retBl {a b : Bool} (h : a = b) : Ending.returned (.bool a) = .returned (.bool b) := by rw [h]
theorem b_len (s : ByteArray) : s.data.toList.length = s.size := by simp
theorem b_at (s : ByteArray) (p : Nat) (h : p < s.size) : s[p]'h = s.data.toList.getD p 0 := by
  rw [List.getD_eq_getElem?_getD, List.getElem?_eq_getElem (by rw [b_len]; exact h)]; rfl
theorem b_ext (s : ByteArray) (p q : Nat) : (s.extract p q).data.toList = (s.data.toList.drop p).take (q - p) := by
  simp [ByteArray.data_extract, Array.toList_extract, List.extract]
theorem b_eq (x y : ByteArray) : (x.toList == y.toList) = (x.data.toList == y.data.toList) := by rw [Lib.toList_data, Lib.toList_data]
theorem b_app (x y : ByteArray) : (x ++ y).data.toList = x.data.toList ++ y.data.toList := by simp
theorem b_ext_eq (b a : ByteArray) : ((b.extract 0 a.size).toList == a.toList) = (b.data.toList.take a.data.toList.length == a.data.toList) := by
  rw [b_eq, b_ext, List.drop_zero, b_len, Nat.sub_zero]
theorem byte47 {c : UInt8} : ((c.toNat : Int) = 47) ↔ c = 47 := by
  constructor
  · intro h; apply UInt8.toNat_inj.1; show c.toNat = 47; omega
  · rintro rfl; rfl

set_option maxRecDepth 100000 in
set_option maxHeartbeats 400000 in
theorem leads_any (a b : ByteArray) (w : World) :
    Calls Tryz.prog 49 #[.string a, .string b] w fun e w' => e = .returned (.bool (leadsF a.data.toList b.data.toList)) ∧ w = w' := by
  have HE := Lib.hid (leadsF_code a.data.toList b.data.toList)
  by_cases h1 : (a.size : Int) < (b.size : Int)
  · have h2 : a.size < b.size := by omega
    have HB := Lib.hid (b_at b a.size h2)
    have HX := Lib.hid (b_ext_eq b a)
    by_cases h3 : ((b[a.size]'h2).toNat : Int) = 47
    · have HS := Lib.hid h2
      have H3 := Lib.hid h3
      go_enter Tryz.func49, Tryz.ntmps49
      go_wp2
      go_ret
      refine ⟨retBl ?_, rfl⟩
      rw [HX.out, HE.out, b_len, b_len, decide_eq_true HS.out, ← HB.out, byte47.1 H3.out]
      simp
    · have HS := Lib.hid h2
      have H3 := Lib.hid h3
      go_enter Tryz.func49, Tryz.ntmps49
      go_wp2
      go_ret
      refine ⟨retBl ?_, rfl⟩
      rw [HE.out, b_len, b_len, decide_eq_true HS.out, ← HB.out, show (b[a.size]'HS.out == 47) = false from by rw [beq_eq_false_iff_ne]; exact fun h => H3.out (byte47.2 h)]
      simp
  · have HS := Lib.hid h1
    go_enter Tryz.func49, Tryz.ntmps49
    go_wp2
    go_ret
    refine ⟨retBl ?_, rfl⟩
    rw [HE.out, b_len, b_len, decide_eq_false (by have := HS.out; omega)]
    simp

set_option maxRecDepth 100000 in
set_option maxHeartbeats 400000 in
theorem clash_any (a b : ByteArray) (w : World) :
    Calls Tryz.prog 32 #[.string a, .string b] w fun e w' => e = .returned (.bool (clashF a.data.toList b.data.toList)) ∧ w = w' := by
  have H1 := Lib.hid (fun w => leads_any a b w)
  have H2 := Lib.hid (fun w => leads_any b a w)
  have HE := Lib.hid (show clashF a.data.toList b.data.toList = _ from rfl)
  unfold clashF at HE
  obtain ⟨c0, hc0⟩ : ∃ c, c = (a.data.toList == b.data.toList) := ⟨_, rfl⟩
  have hq : (a.toList == b.toList) = c0 := by rw [b_eq, hc0]
  obtain ⟨c1, hc1⟩ : ∃ c, c = leadsF a.data.toList b.data.toList := ⟨_, rfl⟩
  obtain ⟨c2, hc2⟩ : ∃ c, c = leadsF b.data.toList a.data.toList := ⟨_, rfl⟩
  rw [← hc1] at H1
  rw [← hc2] at H2
  have HF := Lib.hid (show clashF a.data.toList b.data.toList = (c0 || c1 || c2) by rw [hc0, hc1, hc2]; rfl)
  clear hc0 hc1 hc2 HE
  rcases c0 <;> rcases c1 <;> rcases c2
  all_goals
    go_enter Tryz.func32, Tryz.ntmps32
    go_wp2_with (first
      | (go_at_call 49; (with_reducible refine (H1.out _).mono ?_); rintro e w1 ⟨rfl, rfl⟩)
      | (go_at_call 49; (with_reducible refine (H2.out _).mono ?_); rintro e w1 ⟨rfl, rfl⟩))
    go_ret
    refine ⟨retBl ?_, rfl⟩
    rw [HF.out]
    rfl

set_option maxRecDepth 100000 in
set_option maxHeartbeats 400000 in
theorem begins_any (a b : ByteArray) (w : World) :
    Calls Tryz.prog 79 #[.string a, .string b] w fun e w' => e = .returned (.bool (b.data.toList.isPrefixOf a.data.toList)) ∧ w = w' := by
  obtain ⟨r, hr⟩ : ∃ r, r = b.data.toList.isPrefixOf a.data.toList := ⟨_, rfl⟩
  rw [← hr]
  have HR := Lib.hid hr
  clear hr
  by_cases h1 : (b.size : Int) ≤ (a.size : Int)
  · have h2 : b.size ≤ a.size := by omega
    have HX := Lib.hid (b_ext_eq a b)
    go_enter Tryz.func79, Tryz.ntmps79
    go_wp2
    go_ret
    refine ⟨retBl ?_, rfl⟩
    rw [HX.out, HR.out, Bool.eq_iff_iff, beq_iff_eq, List.isPrefixOf_iff_prefix, List.prefix_iff_eq_take]
    exact ⟨fun h => h.symm, fun h => h.symm⟩
  · have HS := Lib.hid h1
    go_enter Tryz.func79, Tryz.ntmps79
    go_wp2
    go_ret
    refine ⟨retBl ?_, rfl⟩
    symm
    rw [HR.out, Bool.eq_false_iff]
    intro h
    have := (List.isPrefixOf_iff_prefix.1 h).length_le
    rw [b_len, b_len] at this
    have := HS.out
    omega

set_option maxRecDepth 100000 in
set_option maxHeartbeats 400000 in
theorem refClash_any (a b : ByteArray) (w : World) (ha : a.size ≤ 1000000000000000) (hb : b.size ≤ 1000000000000000) :
    Calls Tryz.prog 52 #[.string a, .string b] w fun e w' => e = .returned (.bool (clashF a.data.toList b.data.toList)) ∧ w = w' := by
  have H1 := Lib.hid (fun w => begins_any a (b ++ ⟨#[47]⟩) w)
  have H2 := Lib.hid (fun w => begins_any b (a ++ ⟨#[47]⟩) w)
  obtain ⟨c0, hc0⟩ : ∃ c, c = (a.data.toList == b.data.toList) := ⟨_, rfl⟩
  have hq : (a.toList == b.toList) = c0 := by rw [b_eq, hc0]
  obtain ⟨c1, hc1⟩ : ∃ c, c = (b ++ (⟨#[47]⟩ : ByteArray)).data.toList.isPrefixOf a.data.toList := ⟨_, rfl⟩
  obtain ⟨c2, hc2⟩ : ∃ c, c = (a ++ (⟨#[47]⟩ : ByteArray)).data.toList.isPrefixOf b.data.toList := ⟨_, rfl⟩
  rw [← hc1] at H1
  rw [← hc2] at H2
  rw [b_app] at hc1 hc2
  have HF := Lib.hid (show clashF a.data.toList b.data.toList = (c0 || c2 || c1) by rw [hc0, hc1, hc2]; rfl)
  have haI : (a.size : Int) ≤ 1000000000000000 := by omega
  have hbI : (b.size : Int) ≤ 1000000000000000 := by omega
  clear hc0 hc1 hc2 ha hb
  rcases c0 <;> rcases c1 <;> rcases c2
  all_goals
    go_enter Tryz.func52, Tryz.ntmps52
    go_wp2_with (first
      | (go_at_call 79; (with_reducible refine (H1.out _).mono ?_); rintro e w1 ⟨rfl, rfl⟩)
      | (go_at_call 79; (with_reducible refine (H2.out _).mono ?_); rintro e w1 ⟨rfl, rfl⟩))
    go_ret
    refine ⟨retBl ?_, rfl⟩
    rw [HF.out]
    rfl
end Go.Proofs.YtipoielcmaegaaaGreatDoor
