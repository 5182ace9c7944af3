/-
  The walk of the law ScoreRanks.
-/
import Derived.Test.YtkafeadgjpglaaaScoreMeans
import Derived.Test.YtkafeadgjpglaaaRefRank2
import Derived.Test.YtkafeadgjpglaaaRefBest
namespace Go.Proofs.Ytkafeadgjpglaaa
open Go.RowKit

set_option maxRecDepth 100000 in
set_option maxHeartbeats 4000000 in
theorem scoreRanks_any (a : Option Addr) (n c : Nat) (L : List Nat) (w : World) (hL : At1 F w a n c L) (h64 : W64 L) : Calls Try.prog 5 #[.slice a n c] w (Yes w) := by
  by_cases hn : (60 : Int) < (n : Int)
  · clear hL
    go_enter Try.func5, Try.ntmps5
    go_wp2
    go_ret
    exact ⟨rfl, Below.refl _ _⟩
  · have HL := Lib.hid hL
    have H64 := Lib.hid h64
    have hnI : (n : Int) ≤ 60 := by omega
    have HN := Lib.hid (show n ≤ 1000000000 by omega)
    obtain ⟨b, hb⟩ : ∃ b, b = (bestF L n).1 := ⟨_, rfl⟩
    obtain ⟨f, hf⟩ : ∃ f, f = (bestF L n).2 := ⟨_, rfl⟩
    have H1 := fun (A : Option Addr) (C : Nat) (W : World) => Lib.hid (fun hat : At1 F W A n C L => show Calls Try.prog 22 #[.slice A n C] W (BestIs b f W) by rw [hb, hf]; exact best_any A n C L W hat H64.out HN.out)
    have H2 := fun (A : Option Addr) (C : Nat) (W : World) => Lib.hid (fun hat : At1 F W A n C L => show Calls Try.prog 23 #[.slice A n C] W (BestIs b f W) by rw [hb, hf]; exact refBest_any A n C L W hat H64.out HN.out)
    have hbb : ((b : Int) == (b : Int)) = true := by simp
    have hff : (f == f) = true := by simp
    clear hL h64 hb hf
    go_enter Try.func5, Try.ntmps5
    go_wp2_with (first
      | ((with_reducible show wpList _ _ _ (⟨some 13, _, _, _, _, _⟩ :: _) _ _); go_must (refine wl_copyF (by rfl) (.tmp 11) (.tmp 12) rfl a n c L rfl rfl HL.out HN.out ?_); intro a1 c1 w1 hat1 hb1; have HC1 := Lib.hid hat1; have HB1 := Lib.hid hb1; clear hat1 hb1)
      | (go_at_call 22; (with_reducible refine ((H1 _ _ _).out HC1.out).mono ?_); rintro e w2 ⟨rfl, hb2⟩; have HB2 := Lib.hid (Below.step HB1.out hb2); have HL2 := Lib.hid (HL.out.below (Below.step HB1.out hb2)); clear hb2)
      | (go_at_call 23; (with_reducible refine ((H2 _ _ _).out HL2.out).mono ?_); rintro e w3 ⟨rfl, hb3⟩; have HB3 := Lib.hid (Below.step HB2.out hb3); have HL3 := Lib.hid (HL2.out.below hb3); clear hb3)
      | ((with_reducible show wpList _ _ _ (⟨some 33, _, _, _, _, _⟩ :: _) _ _); go_must (refine wl_copyF (by rfl) (.tmp 31) (.tmp 32) rfl a n c L rfl rfl HL3.out HN.out ?_); intro a4 c4 w4 hat4 hb4; have HC4 := Lib.hid hat4; have HB4 := Lib.hid (Below.step HB3.out hb4); have HL4 := Lib.hid (HL3.out.below hb4); clear hat4 hb4)
      | (go_at_call 25; (with_reducible refine (rank_any a4 n c4 L _ HC4.out H64.out HN.out).mono ?_); rintro e w5 ⟨a5, c5, rfl, hat5, hb5, hf5⟩; have HC5 := Lib.hid hat5; have HB5 := Lib.hid (Below.step HB4.out hb5); have HL5 := Lib.hid (HL4.out.below hb5); clear hat5 hb5 hf5)
      | (go_at_call 26; (with_reducible refine (refRank_any a n c L _ HL5.out H64.out HN.out).mono ?_); rintro e w6 ⟨a6, c6, rfl, hat6, hb6, hf6⟩; have HC6 := Lib.hid hat6; have HB6 := Lib.hid (Below.step HB5.out hb6); have HD6 := Lib.hid (HC5.out.below hb6); clear hat6 hb6 hf6)
      | (go_at_call 24; (with_reducible refine (ints_yes a5 n c5 (rankS L) a6 n c6 (rankS L) _ HD6.out HC6.out HN.out rfl).mono ?_); rintro e w7 ⟨rfl, hb7⟩; have HB7 := Lib.hid (Below.step HB6.out hb7); clear hb7)
      | (go_at_call 20; (with_reducible refine (awake_any _).mono ?_); rintro e w8 ⟨rfl, hb8⟩; have HB8 := Lib.hid (Below.step HB7.out hb8); clear hb8))
    go_ret
    exact ⟨rfl, HB8.out⟩
end Go.Proofs.Ytkafeadgjpglaaa
