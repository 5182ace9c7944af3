/-
  The walk of a law: a path is its parts.
-/
import Derived.Test.YtcahdlihoocplaaDoorPathAwake
import Derived.Test.YtcahdlihoocplaaDoorPathJoinMath
namespace Go.Proofs.YtcahdlihoocplaaDoor
open Go.RowKit

theorem clash_is (a b : ByteArray) (c : Bool) (w : World) (h : clashF a.data.toList b.data.toList = c) :
    Calls Tryd.prog 24 #[.string a, .string b] w fun e w' => e = .returned (.bool c) ∧ w = w' := by subst h; exact clash_any a b w
theorem join_next (l : List (List UInt8)) (i : Nat) (h : i < l.length) : joinF (l.take (i + 1)) = (if i = 0 then [] else joinF (l.take i) ++ [47]) ++ l.getD i default := by
  have hd : l.getD i default = l[i] := by simp [h]
  rw [List.take_succ_eq_append_getElem h, hd]
  by_cases h0 : i = 0
  · subst h0; simp [joinF]
  · rw [if_neg h0, joinF_snoc _ _ (by
      intro e
      have := congrArg List.length e
      rw [List.length_take, List.length_nil] at this
      omega)]
    simp

set_option maxRecDepth 100000 in
set_option maxHeartbeats 2000000 in
theorem pathJoins_any (s : ByteArray) (w : World) (hT : PTabs w) : Calls Tryd.prog 7 #[.string s] w fun e w' => e = .returned (.bool true) ∧ Below w.heap.size w w' := by
  have HT := Lib.hid hT
  clear hT
  by_cases h1 : (100 : Int) < (s.size : Int)
  · go_enter Tryd.func7, Tryd.ntmps7
    go_wp2_with (first
      | (go_at_call 21; (with_reducible refine (awake_any _ HT.out).mono ?_); rintro e w3 ⟨rfl, hb3⟩))
    go_ret
    exact ⟨rfl, hb3⟩
  · have hs : s.size ≤ 100 := by omega
    obtain ⟨sl, hsl⟩ : ∃ sl, sl = s.data.toList := ⟨_, rfl⟩
    obtain ⟨c, hc⟩ : ∃ c, pathF s.data.toList = c := ⟨_, rfl⟩
    have A4 := Lib.hid (fun W hT => path_is s c W (by omega) hT hc)
    have A5 := Lib.hid (fun W hT => parts_any s W (by omega) hT)
    rcases c
    · clear hc hs hsl
      go_enter Tryd.func7, Tryd.ntmps7
      go_wp2_with (first
        | (go_at_call 16; (with_reducible refine (A4.out _ HT.out.tabs).mono ?_); rintro e w7 ⟨rfl, hb7⟩; have HB7 := Lib.hid hb7; clear hb7)
        | (go_at_call 21; (with_reducible refine (awake_any _ (HT.out.below HB7.out)).mono ?_); rintro e w3 ⟨rfl, hb3⟩; have HB3 := Lib.hid (Below.step HB7.out hb3); clear hb3))
      go_ret
      exact ⟨rfl, HB3.out⟩
    · have hparts : partsF s.data.toList = pcs sl := by unfold partsF; rw [if_pos hc, hsl]
      unfold PartsIs at A5
      rw [hparts] at A5
      rw [← hsl] at hc
      have HC := Lib.hid hc
      have HSL := Lib.hid hsl
      have HLEN := Lib.hid (show sl.length = s.size by rw [hsl, b_len])
      have HSZ := Lib.hid hs
      have HJ := Lib.hid (pieces_of sl).1
      have HNE := Lib.hid (pcs_ne sl)
      have hpl := pcs_length sl
      have HPL := Lib.hid hpl
      clear hc hs hsl hparts hpl
      go_enter Tryd.func7, Tryd.ntmps7
      go_wp2_with (first
        | (go_at_call 16; (with_reducible refine (A4.out _ HT.out.tabs).mono ?_); rintro e w7 ⟨rfl, hb7⟩; have HB7 := Lib.hid hb7; clear hb7)
        | (go_at_call 19; (with_reducible refine (A5.out _ (HT.out.below HB7.out).tabs).mono ?_); rintro e w9 ⟨a9, n, d9, rfl, ho9, hi9, hb9⟩; have HB9 := Lib.hid (Below.step HB7.out hb9); have HO9 := Lib.hid ho9.at1; have HN := Lib.hid ho9.len; have hnI : (n : Int) ≤ 101 := (by have := HN.out; have := HPL.out; have := HLEN.out; have := HSZ.out; omega); have hn1 : (1 : Int) ≤ (n : Int) := (by have := HN.out; have := List.length_pos_iff.2 HNE.out; omega); clear ho9 hb9 hi9))
      go_loopg [4, 5] n (fun g v4 v5 W => ∃ (i : Nat) (all : ByteArray), Below w.heap.size w W ∧ Hid (Below w9.heap.size w9 W) ∧ v4 = .string all ∧ v5 = .int .i64 i ∧ g + i = n ∧ Hid (all = strB (joinF ((pcs sl).take i))) ∧ all.size ≤ 100)
      case atStart => exact ⟨0, _, HB9.out, Lib.hid (Below.refl _ _), rfl, rfl, rfl, Lib.hid rfl, Nat.zero_le _⟩
      case round =>
        obtain ⟨i, all, hbw, hb9, rfl, rfl, hg, hall, hsz⟩ := hrel
        have HG := Lib.hid hg
        have HBW := Lib.hid hbw
        have hi0 : (0 : Int) ≤ (i : Int) := by omega
        have hiI : (i : Int) ≤ (n : Int) := by omega
        have hszI : (all.size : Int) ≤ 100 := by omega
        by_cases hi : (i : Int) < (n : Int)
        · have hin : i < n := by omega
          have hil : i < (pcs sl).length := by rw [HN.out]; exact hin
          obtain ⟨q1, q2, q3⟩ := path_parts HC.out hil
          obtain ⟨b, o, rfl⟩ := HO9.out.some_ (by omega)
          obtain ⟨x, hx⟩ : ∃ x, x = (pcs sl).getD i default := ⟨_, rfl⟩
          have hc : wr.cell? ⟨b, o + i, none⟩ = some (.string (strB x)) := by rw [hx]; exact (HO9.out.below hb9.out).cell i hin
          obtain ⟨nx, hnx⟩ : ∃ nx, nx = joinF ((pcs sl).take (i + 1)) := ⟨_, rfl⟩
          have hjn := join_next (pcs sl) i hil
          rw [← hnx, ← hx] at hjn
          rw [← hnx] at q2 q3
          have hnl : nx.length ≤ 64 := by
            rw [pathF_ok] at q2
            simp only [Bool.and_eq_true, decide_eq_true_eq] at q2
            exact q2.1.2
          have hxl : x.length ≤ 64 := by
            have : (pcs sl).getD i [] = x := hx.symm
            rw [this, pathF_ok] at q1
            simp only [Bool.and_eq_true, decide_eq_true_eq] at q1
            exact q1.1.2
          have P1 := Lib.hid (fun W hT => path_is (strB x) true W (by rw [strB_size]; omega) hT (by rw [strB_list, hx]; exact q1))
          have P2 := Lib.hid (fun W hT => path_is (strB nx) true W (by rw [strB_size]; omega) hT (by rw [strB_list]; exact q2))
          have P3 := Lib.hid (fun W => clash_is (strB nx) s true W (by rw [strB_list, ← HSL.out]; exact q3))
          have hxI : ((strB x).size : Int) ≤ 64 := by rw [strB_size]; omega
          have HNL := Lib.hid (show (strB nx).size ≤ 100 by rw [strB_size]; omega)
          have HNX := Lib.hid hnx
          have HHC := Lib.hid hc
          by_cases h0 : i = 0
          · subst h0
            have hc' : wr.cell? ⟨b, o, none⟩ = some (.string (strB x)) := by have := hc; rw [Nat.add_zero] at this; exact this
            have HEQ := Lib.hid (show all ++ strB x = strB nx by
              rw [hjn, if_pos rfl, hall.out, strB_app]; rfl)
            generalize hxs : strB x = xs at hc hc' P1 hxI HEQ HHC
            clear hg hbw q1 q2 q3 hx hnx hjn hnl hxl hxs hin hil hsz
            go_wp2_with (first
              | (go_at_call 16; (with_reducible refine (P1.out _ (HT.out.below HBW.out).tabs).mono ?_); rintro e w11 ⟨rfl, hb11⟩; have HB11 := Lib.hid (Below.trans HBW.out (hb11.mono HBW.out.size)); have HD11 := Lib.hid (Below.trans hb9.out (hb11.mono hb9.out.size)); clear hb11)
              | (rw [HEQ.out]; go_at_call 24; (with_reducible refine (P3.out _).mono ?_); rintro e w12 ⟨rfl, rfl⟩)
              | (go_at_call 16; (with_reducible refine (P2.out _ (HT.out.below HB11.out).tabs).mono ?_); rintro e w13 ⟨rfl, hb13⟩; have HB13 := Lib.hid (Below.trans HB11.out (hb13.mono HB11.out.size)); have HD13 := Lib.hid (Below.trans HD11.out (hb13.mono HD11.out.size)); clear hb13))
            go_roundg (gk - 1)
            case measure => have := HG.out; omega
            case rel => exact ⟨1, _, HB13.out, HD13, rfl, by go_num, by have := HG.out; omega, Lib.hid (by rw [HNX.out]), HNL.out⟩
          · have hip : (0 : Int) < (i : Int) := by omega
            have HEQ := Lib.hid (show all ++ ⟨#[47]⟩ ++ strB x = strB nx by
              rw [hjn, if_neg h0, hall.out, show (⟨#[47]⟩ : ByteArray) = strB [47] from rfl, strB_app, strB_app])
            generalize hxs : strB x = xs at hc P1 hxI HEQ HHC
            clear hg hbw q1 q2 q3 hx hnx hjn hnl hxl hxs hin hil hsz
            go_wp2_with (first
              | (go_at_call 16; (with_reducible refine (P1.out _ (HT.out.below HBW.out).tabs).mono ?_); rintro e w11 ⟨rfl, hb11⟩; have HB11 := Lib.hid (Below.trans HBW.out (hb11.mono HBW.out.size)); have HD11 := Lib.hid (Below.trans hb9.out (hb11.mono hb9.out.size)); clear hb11)
              | (rw [HEQ.out]; go_at_call 24; (with_reducible refine (P3.out _).mono ?_); rintro e w12 ⟨rfl, rfl⟩)
              | (go_at_call 16; (with_reducible refine (P2.out _ (HT.out.below HB11.out).tabs).mono ?_); rintro e w13 ⟨rfl, hb13⟩; have HB13 := Lib.hid (Below.trans HB11.out (hb13.mono HB11.out.size)); have HD13 := Lib.hid (Below.trans HD11.out (hb13.mono HD11.out.size)); clear hb13))
            go_roundg (gk - 1)
            case measure => have := HG.out; omega
            case rel => exact ⟨i + 1, _, HB13.out, HD13, rfl, by go_num, by have := HG.out; omega, Lib.hid (by rw [HNX.out]), HNL.out⟩
        · have HE := Lib.hid (show all = s by
            rw [hall.out, List.take_of_length_le (by rw [HN.out]; omega), HJ.out, HSL.out, strB_of])
          have he1 : (all.toList == s.toList) = true := by rw [HE.out]; simp
          clear hg
          go_wp2_with (first
            | (go_at_call 21; (with_reducible refine (awake_any _ (HT.out.below HBW.out)).mono ?_); rintro e w3 ⟨rfl, hb3⟩; have HB3 := Lib.hid (Below.trans HBW.out (hb3.mono HBW.out.size)); clear hb3))
          go_ret
          exact ⟨rfl, HB3.out⟩
#print axioms pathJoins_any
end Go.Proofs.YtcahdlihoocplaaDoor
