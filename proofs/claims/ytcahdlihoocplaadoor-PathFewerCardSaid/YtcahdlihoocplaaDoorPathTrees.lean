/-
  The walk of a law: why any files may not be a tree.
-/
import Derived.Test.YtcahdlihoocplaaDoorRefTree
import Derived.Test.YtcahdlihoocplaaDoorFilesOwn
namespace Go.Proofs.YtcahdlihoocplaaDoor
open Go.RowKit

set_option maxRecDepth 100000 in
set_option maxHeartbeats 2000000 in
theorem pathTrees_any (a : Option Addr) (n c : Nat) (L : List FileL) (w : World) (hA : FilesAt w a n c L) (hX : ∀ j, j < n → (L.getD j default).1.length ≤ 140737488355328 ∧ (L.getD j default).2.length ≤ 140737488355328) (hT : PTabs w) :
    Calls Tryd.prog 6 #[.slice a n c] w fun e w' => e = .returned (.bool true) ∧ Below w.heap.size w w' := by
  have HA := Lib.hid hA
  have HL := Lib.hid hA.1
  have HX := Lib.hid hX
  have HT := Lib.hid hT
  clear hA hX hT
  by_cases h1 : (70 : Int) < (n : Int)
  · go_enter Tryd.func6, Tryd.ntmps6
    go_wp2
    go_ret
    exact ⟨rfl, Below.refl _ _⟩
  · have HN := Lib.hid (show n ≤ 70 by omega)
    have H0 := Lib.hid (show ∀ j, j < 0 → (L.getD j default).1.length ≤ 200 from fun j hj => by omega)
    have hnI : (n : Int) ≤ 70 := by omega
    go_enter Tryd.func6, Tryd.ntmps6
    go_wp2
    go_loopg [3] n (fun g v3 W => ∃ i : Nat, w = W ∧ v3 = .int .i64 i ∧ g + i = n ∧ Hid (∀ j, j < i → (L.getD j default).1.length ≤ 200))
    case atStart => exact ⟨0, rfl, rfl, rfl, H0⟩
    case round =>
      obtain ⟨i, rfl, rfl, hg, hall⟩ := hrel
      have HG := Lib.hid hg
      have hi0 : (0 : Int) ≤ (i : Int) := by omega
      have hiI : (i : Int) ≤ (n : Int) := by omega
      by_cases hi : (i : Int) < (n : Int)
      · have hin : i < n := by omega
        obtain ⟨b, o, rfl⟩ := HA.out.some_ (by omega)
        obtain ⟨hc1, hc2⟩ := HA.out.cell i hin
        obtain ⟨p1, hp1⟩ : ∃ p, p = strB (L.getD i default).1 := ⟨_, rfl⟩
        obtain ⟨p2, hp2⟩ : ∃ p, p = strB (L.getD i default).2 := ⟨_, rfl⟩
        rw [← hp1] at hc1
        rw [← hp2] at hc2
        have HS := Lib.hid (show p1.size = (L.getD i default).1.length by rw [hp1, strB_size])
        clear hg hp1 hp2
        by_cases hl1 : (200 : Int) < (p2.size : Int)
        · by_cases hl2 : (p2.size : Int) ≤ 4096
          · go_wp2
            go_ret
            exact ⟨rfl, Below.refl _ _⟩
          · by_cases hl3 : (200 : Int) < (p1.size : Int)
            · go_wp2
              go_ret
              exact ⟨rfl, Below.refl _ _⟩
            · have HNX := Lib.hid (show ∀ j, j < i + 1 → (L.getD j default).1.length ≤ 200 from fun j hj => by
                rcases Nat.lt_or_ge j i with h | h
                · exact hall.out j h
                · obtain rfl : j = i := by omega
                  rw [← HS.out]; omega)
              go_wp2
              go_roundg (gk - 1)
              case measure => have := HG.out; omega
              case rel => exact ⟨i + 1, rfl, by go_num, by have := HG.out; omega, HNX⟩
        · by_cases hl3 : (200 : Int) < (p1.size : Int)
          · go_wp2
            go_ret
            exact ⟨rfl, Below.refl _ _⟩
          · have HNX := Lib.hid (show ∀ j, j < i + 1 → (L.getD j default).1.length ≤ 200 from fun j hj => by
              rcases Nat.lt_or_ge j i with h | h
              · exact hall.out j h
              · obtain rfl : j = i := by omega
                rw [← HS.out]; omega)
            go_wp2
            go_roundg (gk - 1)
            case measure => have := HG.out; omega
            case rel => exact ⟨i + 1, rfl, by go_num, by have := HG.out; omega, HNX⟩
      · have HALL := Lib.hid (show ∀ j, j < n → (L.getD j default).1.length ≤ 1000000000 from fun j hj => by have := hall.out j (by omega); omega)
        obtain ⟨z, hz⟩ : ∃ z : Nat, z = treeF L := ⟨_, rfl⟩
        have T1 : Hid (∀ W a' c', FilesAt W a' n c' L → PTabs W → Calls Tryd.prog 28 #[.slice a' n c'] W fun e w' => e = .returned (.int .i64 (z : Int)) ∧ Below W.heap.size W w') := Lib.hid (fun W a' c' h hT => by rw [hz]; exact tree_any a' n c' L W h HX.out hT)
        have T2 : Hid (∀ W, FilesAt W a n c L → Calls Tryd.prog 29 #[.slice a n c] W fun e w' => e = .returned (.int .i64 (z : Int)) ∧ Below W.heap.size W w') := Lib.hid (fun W h => by rw [hz]; exact refTree_any a n c L W h HALL.out)
        clear hg hz
        go_wp2_with (first
          | ((with_reducible show wpList _ _ _ (⟨some 40, _, _, _, _, _⟩ :: _) _ _); go_must (refine wl_copyFl (by rfl) (.tmp 38) (.tmp 39) rfl a n c L rfl rfl HA.out (by have := HN.out; omega) ?_); intro a4 c4 w4 hat4 hb4; have HC4 := Lib.hid hat4.isFiles; have HB4 := Lib.hid hb4; clear hat4 hb4)
          | (go_at_call 28; (with_reducible refine (T1.out _ _ _ HC4.out (HT.out.below HB4.out)).mono ?_); rintro e w5 ⟨rfl, hb5⟩; have HB5 := Lib.hid (Below.step HB4.out hb5); clear hb5)
          | (go_at_call 29; (with_reducible refine (T2.out _ (HA.out.below HB5.out)).mono ?_); rintro e w6 ⟨rfl, hb6⟩; have HB6 := Lib.hid (Below.step HB5.out hb6); clear hb6)
          | (go_at_call 21; (with_reducible refine (awake_any _ (HT.out.below HB6.out)).mono ?_); rintro e w7 ⟨rfl, hb7⟩; have HB7 := Lib.hid (Below.step HB6.out hb7); clear hb7))
        go_ret
        exact ⟨rfl, HB7.out⟩
#print axioms pathTrees_any
end Go.Proofs.YtcahdlihoocplaaDoor
