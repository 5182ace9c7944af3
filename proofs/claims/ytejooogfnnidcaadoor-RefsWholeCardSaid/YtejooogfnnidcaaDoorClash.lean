/-
  The walks of Clash and of clashes, the program's and the document's.
-/
import Derived.Test.YtejooogfnnidcaaDoorPathMath
import Derived.Test.YtejooogfnnidcaaDoorOneG
import Derived.Lib.Strings
namespace Go.Proofs.YtejooogfnnidcaaDoor
open Go.RowKit

theorem retBl {a b : Bool} (h : a = b) : Ending.returned (.bool a) = .returned (.bool b) := by rw [h]
theorem b_len (s : ByteArray) : s.data.toList.length = s.size := by simp
theorem b_at (s : ByteArray) (p : Nat) (h : p < s.size) : s[p]'h = s.data.toList.getD p 0 := by
  rw [List.getD_eq_getElem?_getD, List.getElem?_eq_getElem (by rw [b_len]; exact h)]; rfl
theorem b_ext (s : ByteArray) (p q : Nat) : (s.extract p q).data.toList = (s.data.toList.drop p).take (q - p) := by
  simp [ByteArray.data_extract, Array.toList_extract, List.extract]
theorem b_eq (x y : ByteArray) : (x.toList == y.toList) = (x.data.toList == y.data.toList) := by rw [Lib.toList_data, Lib.toList_data]
theorem b_app (x y : ByteArray) : (x ++ y).data.toList = x.data.toList ++ y.data.toList := by simp
theorem b_ext_eq (b a : ByteArray) : ((b.extract 0 a.size).toList == a.toList) = (b.data.toList.take a.data.toList.length == a.data.toList) := by
  rw [b_eq, b_ext, List.drop_zero, b_len, Nat.sub_zero]
theorem byte47 {c : UInt8} : ((c.toNat : Int) = 47) ↔ c = 47 := by
  constructor
  · intro h; apply UInt8.toNat_inj.1; show c.toNat = 47; omega
  · rintro rfl; rfl

end Go.Proofs.YtejooogfnnidcaaDoor
