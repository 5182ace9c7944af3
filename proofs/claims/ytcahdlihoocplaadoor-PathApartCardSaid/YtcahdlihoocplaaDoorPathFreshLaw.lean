/-
  The walk of a law: which texts clash; a path that clashes with none.
-/
import Derived.Test.YtcahdlihoocplaaDoorPathAwake
import Derived.Test.YtcahdlihoocplaaDoorPathJoins
import Derived.Test.YtcahdlihoocplaaDoorRefFresh
import Derived.Test.YtcahdlihoocplaaDoorCopyS
namespace Go.Proofs.YtcahdlihoocplaaDoor
open Go.RowKit

theorem refClash_is (a b : ByteArray) (c : Bool) (w : World) (ha : a.size ≤ 1000000000000000) (hb : b.size ≤ 1000000000000000) (h : clashF a.data.toList b.data.toList = c) :
    Calls Tryd.prog 25 #[.string a, .string b] w fun e w' => e = .returned (.bool c) ∧ w = w' := by subst h; exact refClash_any a b w ha hb

set_option maxRecDepth 100000 in
set_option maxHeartbeats 2000000 in
theorem pathFresh_any (s t : ByteArray) (a : Option Addr) (m c : Nat) (L : List (List UInt8)) (w : World) (hA : At1 St w a m c L) (hT : PTabs w) : Calls Tryd.prog 5 #[.string s, .string t, .slice a m c] w fun e w' => e = .returned (.bool true) ∧ Below w.heap.size w w' := by
  have HT := Lib.hid hT
  have HA := Lib.hid hA
  have HL := Lib.hid hA.1
  clear hT hA
  by_cases h1 : (60 : Int) < (m : Int)
  · go_enter Tryd.func5, Tryd.ntmps5
    go_wp2
    go_ret
    exact ⟨rfl, Below.refl _ _⟩
  · by_cases h2 : (100 : Int) < (s.size : Int)
    · go_enter Tryd.func5, Tryd.ntmps5
      go_wp2
      go_ret
      exact ⟨rfl, Below.refl _ _⟩
    · by_cases h3 : (100 : Int) < (t.size : Int)
      · go_enter Tryd.func5, Tryd.ntmps5
        go_wp2
        go_ret
        exact ⟨rfl, Below.refl _ _⟩
      · have HM := Lib.hid (show m ≤ 60 by omega)
        have HS := Lib.hid (show s.size ≤ 100 by omega)
        have HTS := Lib.hid (show t.size ≤ 100 by omega)
        obtain ⟨q, hq⟩ : ∃ q, clashF s.data.toList t.data.toList = q := ⟨_, rfl⟩
        have C1 := Lib.hid (fun W => clash_is s t q W hq)
        have C2 := Lib.hid (fun W => refClash_is s t q W (by omega) (by omega) hq)
        have H0 := Lib.hid (show ∀ j, j < 0 → (L.getD j default).length ≤ 100 from fun j hj => by omega)
        clear hq
        go_enter Tryd.func5, Tryd.ntmps5
        go_wp2
        go_loopg [7] m (fun g v7 W => ∃ i : Nat, w = W ∧ v7 = .int .i64 i ∧ g + i = m ∧ Hid (∀ j, j < i → (L.getD j default).length ≤ 100))
        case atStart => exact ⟨0, rfl, rfl, rfl, H0⟩
        case round =>
          obtain ⟨i, rfl, rfl, hg, hall⟩ := hrel
          have HG := Lib.hid hg
          have hi0 : (0 : Int) ≤ (i : Int) := by omega
          have hiI : (i : Int) ≤ (m : Int) := by omega
          by_cases hi : (i : Int) < (m : Int)
          · have him : i < m := by omega
            obtain ⟨b, o, rfl⟩ := HA.out.some_ (by omega)
            obtain ⟨x, hx⟩ : ∃ x, x = L.getD i default := ⟨_, rfl⟩
            have hc : w.cell? ⟨b, o + i, none⟩ = some (.string (strB x)) := by rw [hx]; exact HA.out.cell i him
            obtain ⟨xs, hxs⟩ : ∃ xs, xs = strB x := ⟨_, rfl⟩
            rw [← hxs] at hc
            have HXS := Lib.hid (show xs.size = x.length by rw [hxs, strB_size])
            have HX := Lib.hid hx
            clear hg hx hxs
            by_cases hl : (100 : Int) < (xs.size : Int)
            · go_wp2
              go_ret
              exact ⟨rfl, Below.refl _ _⟩
            · have HN := Lib.hid (show ∀ j, j < i + 1 → (L.getD j default).length ≤ 100 from fun j hj => by
                rcases Nat.lt_or_ge j i with h | h
                · exact hall.out j h
                · obtain rfl : j = i := by omega
                  rw [← HX.out, ← HXS.out]; omega)
              go_wp2
              go_roundg (gk - 1)
              case measure => have := HG.out; omega
              case rel => exact ⟨i + 1, rfl, by go_num, by have := HG.out; omega, HN⟩
          · have HALL := Lib.hid (show ∀ j, j < m → (L.getD j default).length ≤ 100 from fun j hj => hall.out j (by omega))
            have R2 := Lib.hid (fun W hA => refFresh_any s a m c L W hA HM.out (by have := HS.out; omega) (fun j hj => by have := HALL.out j hj; omega))
            have R1 := Lib.hid (fun W a' c' hA hT => fresh_any s a' m c' L W hA HM.out (by have := HS.out; omega) (fun j hj => by have := HALL.out j hj; omega) hT)
            unfold FreshIs at R1
            clear hg
            go_wp2_with (first
              | (go_at_call 24; (with_reducible refine (C1.out _).mono ?_); rintro e w1 ⟨rfl, rfl⟩)
              | (go_at_call 25; (with_reducible refine (C2.out _).mono ?_); rintro e w2 ⟨rfl, rfl⟩)
              | ((with_reducible show wpList _ _ _ (⟨some 44, _, _, _, _, _⟩ :: _) _ _); go_must (refine wl_copyS (by rfl) (.tmp 42) (.tmp 43) rfl a m c L rfl rfl HA.out (by have := HM.out; omega) ?_); intro a4 c4 w4 hat4 hb4; have HC4 := Lib.hid hat4; have HB4 := Lib.hid hb4; clear hat4 hb4)
              | (go_at_call 26; (with_reducible refine (R1.out _ _ _ HC4.out (HT.out.below HB4.out)).mono ?_); rintro e w5 ⟨r5, rfl, hr5, hb5⟩; have HR5 := Lib.hid hr5; have HB5 := Lib.hid (Below.step HB4.out hb5); clear hr5 hb5)
              | (go_at_call 27; (with_reducible refine (R2.out _ (HA.out.below HB5.out)).mono ?_); rintro e w6 ⟨r6, rfl, hr6, hb6⟩; obtain rfl := hr6.uniq HR5.out; have HB6 := Lib.hid (Below.step HB5.out hb6); clear hr6 hb6)
              | (go_at_call 21; (with_reducible refine (awake_any _ (HT.out.below HB6.out)).mono ?_); rintro e w7 ⟨rfl, hb7⟩; have HB7 := Lib.hid (Below.step HB6.out hb7); clear hb7))
            go_ret
            exact ⟨rfl, HB7.out⟩
#print axioms pathFresh_any

set_option maxRecDepth 100000 in
set_option maxHeartbeats 2000000 in
theorem pathApart_any (s : ByteArray) (a : Option Addr) (m c : Nat) (L : List (List UInt8)) (w : World) (hA : At1 St w a m c L) (hX : ∀ j, j < m → (L.getD j default).length ≤ 140737488355328) (hT : PTabs w) : Calls Tryd.prog 8 #[.string s, .slice a m c] w fun e w' => e = .returned (.bool true) ∧ Below w.heap.size w w' := by
  have HT := Lib.hid hT
  have HA := Lib.hid hA
  have HL := Lib.hid hA.1
  have HX := Lib.hid hX
  clear hT hA hX
  by_cases h1 : (60 : Int) < (m : Int)
  · go_enter Tryd.func8, Tryd.ntmps8
    go_wp2
    go_ret
    exact ⟨rfl, Below.refl _ _⟩
  · by_cases h2 : (100 : Int) < (s.size : Int)
    · go_enter Tryd.func8, Tryd.ntmps8
      go_wp2
      go_ret
      exact ⟨rfl, Below.refl _ _⟩
    · have HM := Lib.hid (show m ≤ 60 by omega)
      have HS := Lib.hid (show s.size ≤ 100 by omega)
      have R1 := Lib.hid (fun W hA hT => fresh_any s a m c L W hA HM.out (by have := HS.out; omega) HX.out hT)
      unfold FreshIs at R1
      have H0 := Lib.hid (show clashesF s.data.toList (L.take 0) = false from rfl)
      go_enter Tryd.func8, Tryd.ntmps8
      go_wp2_with (first
        | (go_at_call 26; (with_reducible refine (R1.out _ HA.out HT.out).mono ?_); rintro e w5 ⟨r5, rfl, hr5, hb5⟩; have HR5 := Lib.hid hr5; have HB5 := Lib.hid hb5; clear hr5 hb5))
      obtain ⟨rs, hrs⟩ : ∃ rs, rs = strB r5 := ⟨_, rfl⟩
      rw [← hrs]
      have HRS := Lib.hid hrs
      clear hrs
      go_loopg [6, 7] m (fun g v6 v7 W => ∃ (i : Nat) (f : Bool), w5 = W ∧ v6 = .bool f ∧ v7 = .int .i64 i ∧ g + i = m ∧ Hid (f = clashesF s.data.toList (L.take i)))
      case atStart => exact ⟨0, false, rfl, rfl, rfl, rfl, Lib.hid H0.out.symm⟩
      case round =>
        obtain ⟨i, f, rfl, rfl, rfl, hg, hf⟩ := hrel
        have HG := Lib.hid hg
        have hi0 : (0 : Int) ≤ (i : Int) := by omega
        have hiI : (i : Int) ≤ (m : Int) := by omega
        by_cases hi : (i : Int) < (m : Int)
        · have him : i < m := by omega
          obtain ⟨b, o, rfl⟩ := HA.out.some_ (by omega)
          obtain ⟨x, hx⟩ : ∃ x, x = L.getD i default := ⟨_, rfl⟩
          have hc : w5.cell? ⟨b, o + i, none⟩ = some (.string (strB x)) := by rw [hx]; exact (HA.out.below HB5.out).cell i him
          have hno : clashF r5 x = false := by
            have h := HR5.out.free
            cases hh : clashF r5 x with
            | false => rfl
            | true => rw [clashesF_hit (by rw [HL.out]; exact him) (by rw [← hx]; exact hh)] at h; cases h
          obtain ⟨u, hu⟩ : ∃ u, clashF s.data.toList x = u := ⟨_, rfl⟩
          have hnext : clashesF s.data.toList (L.take (i + 1)) = (f || u) := by rw [clashesF_take (by rw [HL.out]; exact him), ← hf.out, ← hx, hu]
          have C1 := Lib.hid (fun W => clash_is rs (strB x) false W (by rw [HRS.out, strB_list, strB_list]; exact hno))
          have C2 := Lib.hid (fun W => clash_is s (strB x) u W (by rw [strB_list]; exact hu))
          have HN := Lib.hid hnext
          generalize hxs : strB x = xs at hc C1 C2
          clear hg hx hno hu hnext hxs hf
          by_cases hl : (100 : Int) < (xs.size : Int)
          · go_wp2
            go_ret
            exact ⟨rfl, HB5.out⟩
          · rcases f
            · go_wp2_with (first
                | (go_at_call 24; (with_reducible refine (C1.out _).mono ?_); rintro e w6 ⟨rfl, rfl⟩)
                | (go_at_call 24; (with_reducible refine (C2.out _).mono ?_); rintro e w7 ⟨rfl, rfl⟩))
              go_roundg (gk - 1)
              case measure => have := HG.out; omega
              case rel => exact ⟨i + 1, u, rfl, by simp, by go_num, by have := HG.out; omega, Lib.hid (by rw [HN.out]; simp)⟩
            · go_wp2_with (first
                | (go_at_call 24; (with_reducible refine (C1.out _).mono ?_); rintro e w6 ⟨rfl, rfl⟩))
              go_roundg (gk - 1)
              case measure => have := HG.out; omega
              case rel => exact ⟨i + 1, true, rfl, rfl, by go_num, by have := HG.out; omega, Lib.hid (by rw [HN.out]; simp)⟩
        · have hfull : f = clashesF s.data.toList L := by
            have h := hf.out
            rw [List.take_of_length_le (by rw [HL.out]; omega)] at h
            exact h
          have hsame := HR5.out.same
          have heq : (rs.toList == s.toList) = !f := by
            rw [Lib.toList_data, Lib.toList_data, HRS.out, strB_list, hfull]
            cases hh : clashesF s.data.toList L with
            | false => rw [hsame.1.2 hh]; simp
            | true =>
              rw [show (r5 == s.data.toList) = false from by
                rw [beq_eq_false_iff_ne]; intro e; have := hsame.1.1 e; rw [this] at hh; cases hh]
              rfl
          have hlen : (s.size : Int) ≤ (rs.size : Int) := by
            have := hsame.2
            rw [b_len] at this
            rw [HRS.out, strB_size]; omega
          clear hg hf hfull hsame
          rcases f
          · have heq2 : (rs.toList == s.toList) = true := heq
            clear heq
            go_wp2_with (first
              | (go_at_call 21; (with_reducible refine (awake_any _ (HT.out.below HB5.out)).mono ?_); rintro e w7 ⟨rfl, hb7⟩; have HB7 := Lib.hid (Below.step HB5.out hb7); clear hb7))
            go_ret
            exact ⟨rfl, HB7.out⟩
          · have heq2 : (rs.toList == s.toList) = false := heq
            clear heq
            go_wp2_with (first
              | (go_at_call 21; (with_reducible refine (awake_any _ (HT.out.below HB5.out)).mono ?_); rintro e w7 ⟨rfl, hb7⟩; have HB7 := Lib.hid (Below.step HB5.out hb7); clear hb7))
            go_ret
            exact ⟨rfl, HB7.out⟩
#print axioms pathApart_any
end Go.Proofs.YtcahdlihoocplaaDoor
