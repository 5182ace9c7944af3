/-
  The walk of do at a disk that is not there: whatever the act, nothing happens.
-/
import Derived.Test.YtmlnmjpohkjgbaaDiskMore
namespace Go.Proofs.Ytmlnmjpohkjgbaa
open Go.RowKit Go.Maps

/-- An act, by its cells. -/
abbrev actC (z : Int) (s t : ByteArray) (a : Option Addr) (m c : Nat) (n : Int) (a5 : Option Addr) (m5 c5 : Nat) : Array Value := #[.int .i64 z, .string s, .string t, .slice a m c, .int .i64 n, .slice a5 m5 c5]
theorem box_act (w : World) (z : Int) (s t : ByteArray) (a : Option Addr) (m c : Nat) (n : Int) (a5 : Option Addr) (m5 c5 : Nat) (ty : TypeId) :
    (w.alloc (.cells (actC z s t a m c n a5 m5 c5) ty)).cell? ⟨w.heap.size, 0, none⟩ = some (.int .i64 z) ∧ (w.alloc (.cells (actC z s t a m c n a5 m5 c5) ty)).cell? ⟨w.heap.size, 1, none⟩ = some (.string s) ∧
    (w.alloc (.cells (actC z s t a m c n a5 m5 c5) ty)).cell? ⟨w.heap.size, 2, none⟩ = some (.string t) ∧ (w.alloc (.cells (actC z s t a m c n a5 m5 c5) ty)).cell? ⟨w.heap.size, 3, none⟩ = some (.slice a m c) ∧
    (w.alloc (.cells (actC z s t a m c n a5 m5 c5) ty)).cell? ⟨w.heap.size, 4, none⟩ = some (.int .i64 n) ∧ (w.alloc (.cells (actC z s t a m c n a5 m5 c5) ty)).cell? ⟨w.heap.size, 5, none⟩ = some (.slice a5 m5 c5) := by
  refine ⟨?_, ?_, ?_, ?_, ?_, ?_⟩ <;> rw [World.cell?_alloc_new] <;> rfl

set_option maxRecDepth 100000 in
set_option maxHeartbeats 2000000 in
theorem nil_do (z : Int) (s t : ByteArray) (a : Option Addr) (m c : Nat) (n : Int) (a5 : Option Addr) (m5 c5 : Nat) (w : World) :
    Calls Try.prog 19 #[.pointer none, .agg (actC z s t a m c n a5 m5 c5)] w fun e w' => e = .returned (.tuple #[]) ∧ Below w.heap.size w w' := by
  obtain ⟨k0, k1, k2, k3, k4, k5⟩ := box_act w z s t a m c n a5 m5 c5 37
  have hb := (Below.refl w.heap.size w).alloc (Nat.le_refl _) (.cells (actC z s t a m c n a5 m5 c5) 37)
  have HB := Lib.hid hb
  clear hb
  go_enter Try.func19, Try.ntmps19
  go_wp2_with (first
    | (go_at_call 22; (with_reducible refine (nil_append _ _ _ _ _).mono ?_); rintro e w5 ⟨rfl, hb5⟩)
    | (go_at_call 23; (with_reducible refine (nil_sync _ _).mono ?_); rintro e w5 ⟨rfl, hb5⟩)
    | (go_at_call 27; (with_reducible refine (nil_rename _ _ _).mono ?_); rintro e w5 ⟨rfl, hb5⟩)
    | (go_at_call 29; (with_reducible refine (nil_remove _ _).mono ?_); rintro e w5 ⟨rfl, hb5⟩)
    | (go_at_call 21; (with_reducible refine (nil_arm _ _).mono ?_); rintro e w5 ⟨rfl, rfl⟩)
    | (go_at_call 20; (with_reducible refine (nil_crash _ _ _ _).mono ?_); rintro e w5 ⟨rfl, hb5⟩))
  all_goals first
    | exact bodyPost_end (results_none rfl _ _ _) rfl ⟨rfl, HB.out.trans (hb5.mono HB.out.size)⟩
    | exact bodyPost_end (results_none rfl _ _ _) rfl ⟨rfl, HB.out⟩
#print axioms nil_do
end Go.Proofs.Ytmlnmjpohkjgbaa
