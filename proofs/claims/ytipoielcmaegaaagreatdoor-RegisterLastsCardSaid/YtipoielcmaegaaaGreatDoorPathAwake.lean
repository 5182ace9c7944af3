/-
  The walk of the chapter's examples.
-/
import Derived.Test.YtipoielcmaegaaaGreatDoorFresh
import Derived.Test.YtipoielcmaegaaaGreatDoorPath
namespace Go.Proofs.YtipoielcmaegaaaGreatDoor
open Go.RowKit

theorem fresh_is (s : ByteArray) (r : List UInt8) (a : Option Addr) (m c : Nat) (L : List (List UInt8)) (w : World) (hA : At1 St w a m c L) (hm : m ≤ 60) (hs : s.size ≤ 140737488355328) (hx : ∀ j, j < m → (L.getD j default).length ≤ 140737488355328) (hT : PTabs w) (hr : FreshR s.data.toList L r) :
    Calls Tryz.prog 17 #[.string s, .slice a m c] w fun e w' => e = .returned (.string (strB r)) ∧ Below w.heap.size w w' :=
  (fresh_any s a m c L w hA hm hs hx hT).mono fun e w' h => by
    obtain ⟨q, he, hq, hb⟩ := h
    rw [hq.uniq hr] at he
    exact ⟨he, hb⟩

theorem num1 (s : List UInt8) {n : Nat} (h : n < 10) : numF s n = hdF s ++ 126 :: UInt8.ofNat (48 + n) :: s.drop (hdF s).length := by unfold numF; rw [Lib.decDigits_one h]; rfl
theorem fresh_one : FreshR [97] [[97], [97, 126, 49]] [97, 126, 50] := by
  refine .inr ⟨by decide, 2, ⟨by decide, ?_, ?_⟩, ?_⟩
  · rw [num1 _ (by decide)]; decide
  · intro m h1 h2
    obtain rfl : m = 1 := by omega
    rw [num1 _ (by decide)]; decide
  · rw [num1 _ (by decide)]; decide
theorem fresh_two : FreshR [97, 47, 98] [[97]] [97, 126, 49, 47, 98] := by
  refine .inr ⟨by decide, 1, ⟨by decide, ?_, ?_⟩, ?_⟩
  · rw [num1 _ (by decide)]; decide
  · intro m h1 h2; omega
  · rw [num1 _ (by decide)]; decide

theorem lit_one (w : World) (x : ByteArray) (T : TypeId) : At1 St (w.alloc (.cells #[.string x] T)) (some ⟨w.heap.size, 0, none⟩) 1 1 [x.data.toList] := by
  refine ⟨rfl, Nat.le_refl _, by omega, .inr ⟨_, _, rfl, fun j hj => ?_⟩⟩
  obtain rfl : j = 0 := by omega
  show _ = some (Value.string (strB x.data.toList))
  rw [strB_of]
  simp
theorem lit_two (w : World) (x y : ByteArray) (T : TypeId) : At1 St (w.alloc (.cells #[.string x, .string y] T)) (some ⟨w.heap.size, 0, none⟩) 2 2 [x.data.toList, y.data.toList] := by
  refine ⟨rfl, Nat.le_refl _, by omega, .inr ⟨_, _, rfl, fun j hj => ?_⟩⟩
  rcases (show j = 0 ∨ j = 1 by omega) with rfl | rfl
  · show _ = some (Value.string (strB x.data.toList))
    rw [strB_of]
    simp
  · show _ = some (Value.string (strB y.data.toList))
    rw [strB_of]
    simp

end Go.Proofs.YtipoielcmaegaaaGreatDoor
