/-
  Merged: Clash, Digits.
-/
import Derived.Test.YtfoalaoanpbmeaaDoorGrp12
import Derived.Test.YtfoalaoanpbmeaaDoorGrp6
import Derived.Lib.Strings
namespace Go.Proofs.YtfoalaoanpbmeaaDoor
open Go.RowKit

theorem retBl {a b : Bool} (h : a = b) : Ending.returned (.bool a) = .returned (.bool b) := by rw [h]
theorem b_len (s : ByteArray) : s.data.toList.length = s.size := by simp
theorem b_at (s : ByteArray) (p : Nat) (h : p < s.size) : s[p]'h = s.data.toList.getD p 0 := by
  rw [List.getD_eq_getElem?_getD, List.getElem?_eq_getElem (by rw [b_len]; exact h)]; rfl
theorem b_ext (s : ByteArray) (p q : Nat) : (s.extract p q).data.toList = (s.data.toList.drop p).take (q - p) := by
  simp [ByteArray.data_extract, Array.toList_extract, List.extract]
theorem b_eq (x y : ByteArray) : (x.toList == y.toList) = (x.data.toList == y.data.toList) := by rw [Lib.toList_data, Lib.toList_data]
theorem b_app (x y : ByteArray) : (x ++ y).data.toList = x.data.toList ++ y.data.toList := by simp
theorem b_ext_eq (b a : ByteArray) : ((b.extract 0 a.size).toList == a.toList) = (b.data.toList.take a.data.toList.length == a.data.toList) := by
  rw [b_eq, b_ext, List.drop_zero, b_len, Nat.sub_zero]
theorem byte47 {c : UInt8} : ((c.toNat : Int) = 47) ↔ c = 47 := by
  constructor
  · intro h; apply UInt8.toNat_inj.1; show c.toNat = 47; omega
  · rintro rfl; rfl

end Go.Proofs.YtfoalaoanpbmeaaDoor

namespace Go.Proofs.YtfoalaoanpbmeaaDoor
open Go.RowKit

theorem dec_step {m : Nat} (h : 10 ≤ m) : Lib.decDigits m = Lib.decDigits (m / 10) ++ [UInt8.ofNat (48 + m % 10)] := by
  conv => lhs; rw [Lib.decDigits]
  rw [dif_neg (by omega)]
theorem dec_low {m : Nat} (h : m < 10) : Lib.decDigits m = [UInt8.ofNat (48 + m)] := by rw [Lib.decDigits, dif_pos h]
def digB : ByteArray := ⟨#[48, 49, 50, 51, 52, 53, 54, 55, 56, 57]⟩
theorem dig_at {r : Nat} (h : r < 10) : (digB.extract r (r + 1)).data.toList = [UInt8.ofNat (48 + r)] := by
  rw [b_ext]
  have : r = 0 ∨ r = 1 ∨ r = 2 ∨ r = 3 ∨ r = 4 ∨ r = 5 ∨ r = 6 ∨ r = 7 ∨ r = 8 ∨ r = 9 := by omega
  rcases this with rfl | rfl | rfl | rfl | rfl | rfl | rfl | rfl | rfl | rfl <;> rfl

set_option maxRecDepth 100000 in
set_option maxHeartbeats 400000 in
theorem digits_any (n : Nat) (w : World) (hn : n ≤ 1000000000000) :
    Calls Tryd.prog 33 #[.int .i64 n] w fun e w' => e = .returned (.string (strB (Lib.decDigits n))) ∧ w = w' := by
  have HN := Lib.hid hn
  have H0 := Lib.hid (show Lib.decDigits n = Lib.decDigits n ++ ([] : List UInt8) by rw [List.append_nil])
  clear hn
  go_enter Tryd.func33, Tryd.ntmps33
  go_wp2
  go_loopg [0, 3] n (fun g v0 v3 W => ∃ (m : Nat) (out : ByteArray), w = W ∧ v0 = .int .i64 m ∧ v3 = .string out ∧ g = m ∧ m ≤ 1000000000000 ∧ out.size + m ≤ n ∧ Hid (Lib.decDigits n = Lib.decDigits m ++ out.data.toList))
  case atStart => exact ⟨n, _, rfl, rfl, rfl, rfl, HN.out, Nat.le_of_eq (Nat.zero_add n), H0⟩
  case round =>
    obtain ⟨m, out, rfl, rfl, rfl, hg, hm, ho, hinv⟩ := hrel
    have HG := Lib.hid hg
    have HO := Lib.hid ho
    have hoI : (out.size : Int) + m ≤ 1000000000000 := by have := HN.out; omega
    clear hg ho
    by_cases hj : (10 : Int) ≤ (m : Int)
    · have HM := Lib.hid hm
      have HJ := Lib.hid (show 10 ≤ m by omega)
      have HI := Lib.hid (show Lib.decDigits n = Lib.decDigits (m / 10) ++ (digB.extract (m % 10) (m % 10 + 1) ++ out).data.toList by
        rw [hinv.out, dec_step HJ.out, b_app, dig_at (by omega)]; simp)
      go_wp2
      go_roundg (m / 10)
      case measure => have := HG.out; have := HJ.out; omega
      case rel => exact ⟨m / 10, _, rfl, rfl, rfl, rfl, by have := HM.out; omega, by
        have h1 := HO.out
        have h2 := HJ.out
        have h3 : ((digB.extract (m % 10) (m % 10 + 1)) ++ out).size = 1 + out.size := by
          rw [← b_len, b_app, dig_at (by omega), List.length_append, b_len]; rfl
        show ((digB.extract (m % 10) (m % 10 + 1)) ++ out).size + m / 10 ≤ n
        omega, HI⟩
    · have HJ := Lib.hid (show m < 10 by omega)
      have HI := Lib.hid (show digB.extract m (m + 1) ++ out = strB (Lib.decDigits n) by
        rw [hinv.out, dec_low HJ.out, ← dig_at HJ.out, ← b_app, strB_of])
      go_wp2
      go_ret
      exact ⟨congrArg (fun x => Ending.returned (.string x)) HI.out, rfl⟩
#print axioms digits_any
end Go.Proofs.YtfoalaoanpbmeaaDoor
