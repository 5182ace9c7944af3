/-
  The walk of the chapter's examples.
-/
import Derived.Test.YtcahdlihoocplaaDoorFresh
import Derived.Test.YtcahdlihoocplaaDoorPath
import Derived.Test.YtcahdlihoocplaaDoorName
namespace Go.Proofs.YtcahdlihoocplaaDoor
open Go.RowKit

theorem name_is (s : ByteArray) (c : Bool) (w : World) (h : nameF s.data.toList = c) :
    Calls Tryd.prog 10 #[.string s] w fun e w' => e = .returned (.bool c) ∧ Below w.heap.size w w' := by subst h; exact name_any s w
theorem author_is (s : ByteArray) (c : Bool) (w : World) (hs : s.size ≤ 140737488355328) (hT : Tabs w) (h : authorF s.data.toList = c) :
    Calls Tryd.prog 12 #[.string s] w fun e w' => e = .returned (.bool c) ∧ Below w.heap.size w w' := by subst h; exact author_any s w hs hT
theorem fresh_is (s : ByteArray) (r : List UInt8) (a : Option Addr) (m c : Nat) (L : List (List UInt8)) (w : World) (hA : At1 St w a m c L) (hm : m ≤ 60) (hs : s.size ≤ 140737488355328) (hx : ∀ j, j < m → (L.getD j default).length ≤ 140737488355328) (hT : PTabs w) (hr : FreshR s.data.toList L r) :
    Calls Tryd.prog 26 #[.string s, .slice a m c] w fun e w' => e = .returned (.string (strB r)) ∧ Below w.heap.size w w' :=
  (fresh_any s a m c L w hA hm hs hx hT).mono fun e w' h => by
    obtain ⟨q, he, hq, hb⟩ := h
    rw [hq.uniq hr] at he
    exact ⟨he, hb⟩

theorem num1 (s : List UInt8) {n : Nat} (h : n < 10) : numF s n = hdF s ++ 126 :: UInt8.ofNat (48 + n) :: s.drop (hdF s).length := by unfold numF; rw [Lib.decDigits_one h]; rfl
theorem fresh_one : FreshR [97] [[97], [97, 126, 49]] [97, 126, 50] := by
  refine .inr ⟨by decide, 2, ⟨by decide, ?_, ?_⟩, ?_⟩
  · rw [num1 _ (by decide)]; decide
  · intro m h1 h2
    obtain rfl : m = 1 := by omega
    rw [num1 _ (by decide)]; decide
  · rw [num1 _ (by decide)]; decide
theorem fresh_two : FreshR [97, 47, 98] [[97]] [97, 126, 49, 47, 98] := by
  refine .inr ⟨by decide, 1, ⟨by decide, ?_, ?_⟩, ?_⟩
  · rw [num1 _ (by decide)]; decide
  · intro m h1 h2; omega
  · rw [num1 _ (by decide)]; decide

theorem lit_one (w : World) (x : ByteArray) (T : TypeId) : At1 St (w.alloc (.cells #[.string x] T)) (some ⟨w.heap.size, 0, none⟩) 1 1 [x.data.toList] := by
  refine ⟨rfl, Nat.le_refl _, by omega, .inr ⟨_, _, rfl, fun j hj => ?_⟩⟩
  obtain rfl : j = 0 := by omega
  show _ = some (Value.string (strB x.data.toList))
  rw [strB_of]
  simp
theorem lit_two (w : World) (x y : ByteArray) (T : TypeId) : At1 St (w.alloc (.cells #[.string x, .string y] T)) (some ⟨w.heap.size, 0, none⟩) 2 2 [x.data.toList, y.data.toList] := by
  refine ⟨rfl, Nat.le_refl _, by omega, .inr ⟨_, _, rfl, fun j hj => ?_⟩⟩
  rcases (show j = 0 ∨ j = 1 by omega) with rfl | rfl
  · show _ = some (Value.string (strB x.data.toList))
    rw [strB_of]
    simp
  · show _ = some (Value.string (strB y.data.toList))
    rw [strB_of]
    simp

set_option maxRecDepth 100000 in
set_option maxHeartbeats 1000000 in
theorem awake_any (w : World) (hT : PTabs w) : Calls Tryd.prog 21 #[] w fun e w' => e = .returned (.bool true) ∧ Below w.heap.size w w' := by
  have HT := Lib.hid hT
  clear hT
  have P1 := Lib.hid (fun W hT => path_is ⟨#[97, 47, 98, 46, 116, 120, 116]⟩ true W (by decide) hT (by decide +kernel))
  have P2 := Lib.hid (fun W hT => path_is ⟨#[97, 47, 47, 98]⟩ false W (by decide) hT (by decide +kernel))
  have P3 := Lib.hid (fun W hT => path_is ⟨#[97, 126, 49]⟩ true W (by decide) hT (by decide +kernel))
  have P4 := Lib.hid (fun W => name_is ⟨#[109, 97, 105, 110]⟩ true W (by decide +kernel))
  have P5 := Lib.hid (fun W => name_is ⟨#[46, 120]⟩ false W (by decide +kernel))
  have P6 := Lib.hid (fun W hT => author_is ⟨#[65, 110, 110]⟩ true W (by decide) hT (by decide +kernel))
  have P7 := Lib.hid (fun W a c hA hT => fresh_is ⟨#[97]⟩ [97, 126, 50] a 2 c [[97], [97, 126, 49]] W hA (by decide) (by decide) (by decide) hT fresh_one)
  have P8 := Lib.hid (fun W a c hA hT => fresh_is ⟨#[97, 47, 98]⟩ [97, 126, 49, 47, 98] a 1 c [[97]] W hA (by decide) (by decide) (by decide) hT fresh_two)
  have hz1 : ((strB [97, 126, 50]).toList == [97, 126, 50]) = true := by rw [Lib.toList_data, strB_list]; rfl
  have hz2 : ((strB [97, 126, 49, 47, 98]).toList == [97, 126, 49, 47, 98]) = true := by rw [Lib.toList_data, strB_list]; rfl
  go_enter Tryd.func21, Tryd.ntmps21
  go_wp2_with (first
    | (go_at_call 16; (with_reducible refine (P1.out _ HT.out.tabs).mono ?_); rintro e w1 ⟨rfl, hb1⟩; have HB1 := Lib.hid hb1; clear hb1)
    | (go_at_call 16; (with_reducible refine (P2.out _ (HT.out.below HB1.out).tabs).mono ?_); rintro e w2 ⟨rfl, hb2⟩; have HB2 := Lib.hid (Below.step HB1.out hb2); clear hb2)
    | (go_at_call 16; (with_reducible refine (P3.out _ (HT.out.below HB2.out).tabs).mono ?_); rintro e w3 ⟨rfl, hb3⟩; have HB3 := Lib.hid (Below.step HB2.out hb3); clear hb3)
    | (go_at_call 10; (with_reducible refine (P4.out _).mono ?_); rintro e w4 ⟨rfl, hb4⟩; have HB4 := Lib.hid (Below.step HB3.out hb4); clear hb4)
    | (go_at_call 10; (with_reducible refine (P5.out _).mono ?_); rintro e w5 ⟨rfl, hb5⟩; have HB5 := Lib.hid (Below.step HB4.out hb5); clear hb5)
    | (go_at_call 12; (with_reducible refine (P6.out _ (HT.out.below HB5.out).tabs).mono ?_); rintro e w6 ⟨rfl, hb6⟩; have HB6 := Lib.hid (Below.step HB5.out hb6); have HA7 := Lib.hid (lit_two w6 ⟨#[97]⟩ ⟨#[97, 126, 49]⟩ 9); have HB7 := Lib.hid (HB6.out.alloc HB6.out.size (.cells #[.string ⟨#[97]⟩, .string ⟨#[97, 126, 49]⟩] 9)); clear hb6)
    | (go_at_call 26; (with_reducible refine (P7.out _ _ _ HA7.out (HT.out.below HB7.out)).mono ?_); rintro e w8 ⟨rfl, hb8⟩; have HB8 := Lib.hid (HB7.out.trans (hb8.mono HB7.out.size)); have HA9 := Lib.hid (lit_one w8 ⟨#[97]⟩ 9); have HB9 := Lib.hid (HB8.out.alloc HB8.out.size (.cells #[.string ⟨#[97]⟩] 9)); clear hb8)
    | (go_at_call 26; (with_reducible refine (P8.out _ _ _ HA9.out (HT.out.below HB9.out)).mono ?_); rintro e w9 ⟨rfl, hb9⟩; have HB10 := Lib.hid (HB9.out.trans (hb9.mono HB9.out.size)); clear hb9))
  go_ret
  exact ⟨rfl, HB10.out⟩
#print axioms awake_any
end Go.Proofs.YtcahdlihoocplaaDoor
