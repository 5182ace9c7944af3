/-
  The walks of UtfReads, UtfBack, UtfJoins, UtfPieces.
-/
import Derived.Test.YtpopjkkihhidjaaDoorUtfLaws1
import Derived.Test.YtpopjkkihhidjaaDoorUtfJoinMath
namespace Go.Proofs.YtpopjkkihhidjaaDoor
open Go.RowKit (wrap64)
open Go.RowKit

theorem runes_some (s : ByteArray) (L : List Nat) (e0 : Nat) (w : World) (hs : s.size ≤ 20000000000) (hT : Tabs w) (h : runesF s.data.toList = (some L, e0)) :
    Calls Tryd.prog 17 #[.string s] w fun e w' => ∃ a n c, e = .returned (.tuple #[.slice a n c, .int .i64 0, .int .i64 0]) ∧ Runs w' a n c (zs L) ∧ Below w.heap.size w w' :=
  (runes_any s w hs hT).mono fun _ _ ⟨a, n, c, h1, h2, h3⟩ => ⟨a, n, c, by rw [h1, runE_some h]; rfl, by rw [runE_some h] at h2; exact h2.isRuns, h3⟩
theorem runes_none (s : ByteArray) (p : Nat) (w : World) (hs : s.size ≤ 20000000000) (hT : Tabs w) (h : runesF s.data.toList = (none, p)) :
    Calls Tryd.prog 17 #[.string s] w fun e w' => ∃ a n c, e = .returned (.tuple #[.slice a n c, .int .i64 p, .int .i64 5]) ∧ Runs w' a n c [] ∧ Below w.heap.size w w' :=
  (runes_any s w hs hT).mono fun _ _ ⟨a, n, c, h1, h2, h3⟩ => ⟨a, n, c, by rw [h1, runE_none h]; rfl, by rw [runE_none h] at h2; exact h2.isRuns, h3⟩

theorem same_yes (a : Option Addr) (n c : Nat) (l : List Int) (b : Option Addr) (m d : Nat) (w : World) (ha : Runs w a n c l) (hb : Runs w b m d l) (hn : n ≤ 1000000000000) :
    Calls Tryd.prog 21 #[.slice a n c, .slice b m d] w fun e w' => e = .returned (.bool true) ∧ Below w.heap.size w w' :=
  (same_any a n c l b m d l w ha hb hn).mono fun _ _ h => ⟨h.1.trans (boolR (decide_eq_true rfl)), h.2⟩

set_option maxRecDepth 100000 in
set_option maxHeartbeats 1000000 in
theorem reads_any (s : ByteArray) (w : World) (hT : Tabs w) :
    Calls Tryd.prog 5 #[.string s] w fun e w' => e = .returned (.bool true) ∧ Below w.heap.size w w' := by
  by_cases hn : (s.size : Int) ≤ 20000
  · have HT := Lib.hid hT
    rcases runesF_cases s.data.toList with ⟨L, hL⟩ | ⟨p, hL⟩
    · have HL := Lib.hid hL
      have hll := runesF_len hL
      rw [str_len] at hll
      obtain ⟨N, hN⟩ : ∃ N, N = L.length := ⟨_, rfl⟩
      have HN := Lib.hid hN
      have HC := fun W h => Lib.hid ((count_some s L _ W (by omega) h hL))
      rw [← hN] at HC
      have HLL := Lib.hid hll
      clear hT hL hll hN
      go_enter Tryd.func5, Tryd.ntmps5
      go_wp2_with (first
        | (go_at_call 17; go_must (refine (runes_some s L _ _ (by omega) HT.out HL.out).mono ?_); rintro e w1 ⟨a1, n1, c1, rfl, hr1, hb1⟩; have HR1 := Lib.hid hr1; have hn1 : n1 = N := (by have := hr1.1; rw [zs_length] at this; have := HN.out; omega); subst hn1; clear hr1)
        | (go_at_call 18; go_must (refine (refRunes_some s L _ _ (by omega) HL.out).mono ?_); rintro e w2 ⟨a2, n2, c2, rfl, hr2, hb2⟩; have HR2 := Lib.hid hr2; have hn2 : n2 = n1 := (by have := hr2.1; rw [zs_length] at this; have := HN.out; omega); subst hn2; have hb3 := hb1.trans (hb2.mono hb1.size); have HR3 := Lib.hid (HR1.out.below hb2); clear hr2 HR1 hb2)
        | (go_at_call 19; go_must (refine (check_some s L _ _ (by omega) (HT.out.below hb3) HL.out).mono ?_); rintro e w4 ⟨rfl, hb4⟩; have hb5 := hb3.trans (hb4.mono hb3.size); have HR4 := Lib.hid (HR3.out.below hb4); have HR5 := Lib.hid (HR2.out.below hb4); clear HR2 HR3 hb4)
        | (go_at_call 20; go_must (refine (HC _ (HT.out.below hb5)).out.mono ?_); rintro e w6 ⟨rfl, hb6⟩; have hb7 := hb5.trans (hb6.mono hb5.size); have HR6 := Lib.hid (HR4.out.below hb6); have HR7 := Lib.hid (HR5.out.below hb6); clear HR4 HR5 hb6)
        | (go_at_call 21; go_must (refine (same_yes _ _ _ _ _ _ _ _ HR6.out HR7.out (by have := HLL.out; have := HN.out; omega)).mono ?_); rintro e w8 ⟨rfl, hb8⟩; have hb9 := hb7.trans (hb8.mono hb7.size); clear hb8)
        | (go_at_call 13; go_must (refine (awake_any _ (HT.out.below hb9)).mono ?_); rintro e w10 ⟨rfl, hb10⟩))
      go_ret
      exact ⟨rfl, hb9.trans (hb10.mono hb9.size)⟩
    · have HL := Lib.hid hL
      clear hT hL
      go_enter Tryd.func5, Tryd.ntmps5
      go_wp2_with (first
        | (go_at_call 17; go_must (refine (runes_none s p _ (by omega) HT.out HL.out).mono ?_); rintro e w1 ⟨a1, n1, c1, rfl, hr1, hb1⟩; have HR1 := Lib.hid hr1; have hn1 : n1 = 0 := hr1.1.symm; subst hn1; clear hr1)
        | (go_at_call 18; go_must (refine (refRunes_none s p _ (by omega) HL.out).mono ?_); rintro e w2 ⟨a2, n2, c2, rfl, hr2, hb2⟩; have HR2 := Lib.hid hr2; have hn2 : n2 = 0 := hr2.1.symm; subst hn2; have hb3 := hb1.trans (hb2.mono hb1.size); have HR3 := Lib.hid (HR1.out.below hb2); clear hr2 HR1 hb2)
        | (go_at_call 19; go_must (refine (check_none s p _ (by omega) (HT.out.below hb3) HL.out).mono ?_); rintro e w4 ⟨rfl, hb4⟩; have hb5 := hb3.trans (hb4.mono hb3.size); have HR4 := Lib.hid (HR3.out.below hb4); have HR5 := Lib.hid (HR2.out.below hb4); clear HR2 HR3 hb4)
        | (go_at_call 20; go_must (refine (count_none s p _ (by omega) (HT.out.below hb5) HL.out).mono ?_); rintro e w6 ⟨rfl, hb6⟩; have hb7 := hb5.trans (hb6.mono hb5.size); have HR6 := Lib.hid (HR4.out.below hb6); have HR7 := Lib.hid (HR5.out.below hb6); clear HR4 HR5 hb6)
        | (go_at_call 21; go_must (refine (same_yes _ _ _ _ _ _ _ _ HR6.out HR7.out (by omega)).mono ?_); rintro e w8 ⟨rfl, hb8⟩; have hb9 := hb7.trans (hb8.mono hb7.size); clear hb8)
        | (go_at_call 13; go_must (refine (awake_any _ (HT.out.below hb9)).mono ?_); rintro e w10 ⟨rfl, hb10⟩))
      go_ret
      exact ⟨rfl, hb9.trans (hb10.mono hb9.size)⟩
  · have hd : decide (20000 < (s.size : Int)) = true := by simp; omega
    clear hT
    go_enter Tryd.func5, Tryd.ntmps5
    go_wp2
    go_ret
    exact ⟨rfl, Below.refl _ _⟩
#print axioms reads_any

/-! ### UtfBack -/
theorem text_yes (a : Option Addr) (n c : Nat) (L : List Int) (t : List UInt8) (w : World) (h : Runs w a n c L) (hn : n ≤ 10000000000) (ht : txtE L = (t, 0)) :
    Calls Tryd.prog 22 #[.slice a n c] w fun e w' => e = .returned (.tuple #[.string (strB t), .int .i64 0]) ∧ Below w.heap.size w w' :=
  (text_any a n c L w h hn).mono fun _ _ h1 => ⟨h1.1.trans (by rw [ht]; rfl), h1.2⟩
theorem text_no (a : Option Addr) (n c : Nat) (L : List Int) (w : World) (h : Runs w a n c L) (hn : n ≤ 10000000000) (ht : txtE L = ([], 5)) :
    Calls Tryd.prog 22 #[.slice a n c] w fun e w' => e = .returned (.tuple #[.string (strB []), .int .i64 5]) ∧ Below w.heap.size w w' :=
  (text_any a n c L w h hn).mono fun _ _ h1 => ⟨h1.1.trans (by rw [ht]; rfl), h1.2⟩

/-- The runes of a text that was made of runes. -/
theorem txtE_back {L : List Int} (h : L.all Lib.validRune = true) : ∃ M e, zs M = L ∧ runesF (txt L) = (some M, e) ∧ txtE L = (txt L, 0) := by
  have hz : zs (L.map Int.toNat) = L := by
    unfold zs
    rw [List.map_map]
    conv => rhs; rw [← List.map_id L]
    refine List.map_congr_left (fun z hz => ?_)
    obtain ⟨n, hn, _⟩ := valid_of z (List.all_eq_true.1 h z hz)
    simp [hn]
  refine ⟨L.map Int.toNat, _, hz, runesF_text (fun n hn => ?_), by unfold txtE; rw [if_pos h]⟩
  obtain ⟨z, hz', rfl⟩ := List.mem_map.1 hn
  obtain ⟨n, hn', hm⟩ := valid_of z (List.all_eq_true.1 h z hz')
  rw [hn', Int.toNat_natCast]; exact hm
theorem txtE_bad {L : List Int} (h : ¬ L.all Lib.validRune = true) : txtE L = ([], 5) := by unfold txtE; rw [if_neg h]
theorem txtE_nil : txtE [] = ([], 0) := rfl


set_option maxRecDepth 100000 in
set_option maxHeartbeats 2000000 in
theorem back_any (s : ByteArray) (a : Option Addr) (n c : Nat) (l : List Int) (w : World) (hr : Runs w a n c l) (hT : Tabs w) :
    Calls Tryd.prog 8 #[.string s, .slice a n c] w fun e w' => e = .returned (.bool true) ∧ Below w.heap.size w w' := by
  by_cases hs : (s.size : Int) ≤ 5000
  · by_cases hn : (n : Int) ≤ 5000
    · have HT := Lib.hid hT
      have HR := Lib.hid hr
      have HLN := Lib.hid hr.1
      -- the first half
      obtain ⟨R, pI, eN, tI, hfst⟩ : ∃ (R : List Int) (P E : Int) (t : List UInt8),
          (∀ W, Tabs W → Calls Tryd.prog 17 #[.string s] W fun e w' => ∃ a n c, e = .returned (.tuple #[.slice a n c, .int .i64 P, .int .i64 E]) ∧ Runs w' a n c R ∧ Below W.heap.size W w') ∧
          (∀ (a : Option Addr) n c W, Runs W a n c R → Calls Tryd.prog 22 #[.slice a n c] W fun e w' => e = .returned (.tuple #[.string (strB t), .int .i64 0]) ∧ Below W.heap.size W w') ∧
          ((E = 0 ∧ strB t = s) ∨ E = 5) := by
        rcases runesF_cases s.data.toList with ⟨L, hL⟩ | ⟨p, hL⟩
        · refine ⟨zs L, 0, 0, textF L, fun W h => runes_some s L _ W (by omega) h hL, fun a n c W h => text_yes a n c (zs L) _ W h ?_ (txtE_zs L (runesF_some hL).1), .inl ⟨rfl, ?_⟩⟩
          · have h1 := h.1
            rw [zs_length] at h1
            have := runesF_len hL
            rw [str_len] at this
            omega
          · rw [← (runesF_some hL).2.1]; exact strB_of s
        · refine ⟨[], p, 5, [], fun W h => runes_none s p W (by omega) h hL, fun a n c W h => text_yes a n c [] _ W h ?_ txtE_nil, .inr rfl⟩
          have h1 := h.1
          simp at h1
          omega
      obtain ⟨hf1, hf2, hf3⟩ := hfst
      have HF1 := fun W h => Lib.hid (hf1 W h)
      have HF2 := fun a n c W h => Lib.hid (hf2 a n c W h)
      -- the second half
      by_cases hall : l.all Lib.validRune = true
      · obtain ⟨M, e2, hz, hM, hx⟩ := txtE_back hall
        have HG1 := fun W h => Lib.hid (text_yes a n c l (txt l) W h (by omega) hx)
        have HG2 := fun W h => Lib.hid (runes_some (strB (txt l)) M e2 W (by rw [strB_size]; have := txt_le l; have := hr.1; omega) h (by rw [strB_list]; exact hM))
        rw [hz] at HG2
        have hi : (0 : Int) ≤ (n : Int) := by omega
        clear hf1 hf2 hall hz hM hx hT hr
        rcases hf3 with ⟨rfl, h3⟩ | rfl
        · have H3 := Lib.hid h3
          clear h3
          go_enter Tryd.func8, Tryd.ntmps8
          go_wp2_with (first
            | ((with_reducible show Calls _ 17 #[.string s] w _); go_must (refine (HF1 _ HT.out).out.mono ?_); rintro e w1 ⟨a1, n1, c1, rfl, hr1, hb1⟩; have HR1 := Lib.hid hr1; clear hr1)
            | ((with_reducible show Calls _ 22 _ w1 _); go_must (refine (HF2 _ _ _ _ HR1.out).out.mono ?_); rintro e w2 ⟨rfl, hb2⟩; rw [H3.out]; have hb3 := hb1.trans (hb2.mono hb1.size); have HR3 := Lib.hid (HR.out.below hb3); clear hb2)
            | ((with_reducible show Calls _ 22 _ w2 _); go_must (refine (HG1 _ HR3.out).out.mono ?_); rintro e w4 ⟨rfl, hb4⟩; have hb5 := hb3.trans (hb4.mono hb3.size); have HR5 := Lib.hid (HR.out.below hb5); clear hb4 HR3)
            | ((with_reducible show Calls _ 17 _ w4 _); go_must (refine (HG2 _ (HT.out.below hb5)).out.mono ?_); rintro e w6 ⟨a6, n6, c6, rfl, hr6, hb6⟩; have HR6 := Lib.hid hr6; have HN6 := Lib.hid hr6.1; have hb7 := hb5.trans (hb6.mono hb5.size); have HR7 := Lib.hid (HR.out.below hb7); clear hr6 hb6 HR5)
            | (go_at_call 21; go_must (refine (same_yes _ _ _ _ _ _ _ _ HR6.out HR7.out (by have := HN6.out; have := HLN.out; omega)).mono ?_); rintro e w8 ⟨rfl, hb8⟩; have hb9 := hb7.trans (hb8.mono hb7.size); clear hb8)
            | (go_at_call 13; go_must (refine (awake_any _ (HT.out.below hb9)).mono ?_); rintro e w10 ⟨rfl, hb10⟩))
          go_ret
          exact ⟨rfl, hb9.trans (hb10.mono hb9.size)⟩
        · go_enter Tryd.func8, Tryd.ntmps8
          go_wp2_with (first
            | ((with_reducible show Calls _ 17 #[.string s] w _); go_must (refine (HF1 _ HT.out).out.mono ?_); rintro e w1 ⟨a1, n1, c1, rfl, hr1, hb1⟩; have HR1 := Lib.hid hr1; clear hr1)
            | ((with_reducible show Calls _ 22 _ w1 _); go_must (refine (HF2 _ _ _ _ HR1.out).out.mono ?_); rintro e w2 ⟨rfl, hb2⟩; have hb3 := hb1.trans (hb2.mono hb1.size); have HR3 := Lib.hid (HR.out.below hb3); clear hb2)
            | ((with_reducible show Calls _ 22 _ w2 _); go_must (refine (HG1 _ HR3.out).out.mono ?_); rintro e w4 ⟨rfl, hb4⟩; have hb5 := hb3.trans (hb4.mono hb3.size); have HR5 := Lib.hid (HR.out.below hb5); clear hb4 HR3)
            | ((with_reducible show Calls _ 17 _ w4 _); go_must (refine (HG2 _ (HT.out.below hb5)).out.mono ?_); rintro e w6 ⟨a6, n6, c6, rfl, hr6, hb6⟩; have HR6 := Lib.hid hr6; have HN6 := Lib.hid hr6.1; have hb7 := hb5.trans (hb6.mono hb5.size); have HR7 := Lib.hid (HR.out.below hb7); clear hr6 hb6 HR5)
            | (go_at_call 21; go_must (refine (same_yes _ _ _ _ _ _ _ _ HR6.out HR7.out (by have := HN6.out; have := HLN.out; omega)).mono ?_); rintro e w8 ⟨rfl, hb8⟩; have hb9 := hb7.trans (hb8.mono hb7.size); clear hb8)
            | (go_at_call 13; go_must (refine (awake_any _ (HT.out.below hb9)).mono ?_); rintro e w10 ⟨rfl, hb10⟩))
          go_ret
          exact ⟨rfl, hb9.trans (hb10.mono hb9.size)⟩
      · have HG1 := fun W h => Lib.hid (text_no a n c l W h (by omega) (txtE_bad hall))
        have HG2 := fun W h => Lib.hid (runes_some (strB []) [] 0 W (by rw [strB_size]; simp) h (by rfl))
        clear hf1 hf2 hall hT hr
        rcases hf3 with ⟨rfl, h3⟩ | rfl
        · have H3 := Lib.hid h3
          clear h3
          go_enter Tryd.func8, Tryd.ntmps8
          go_wp2_with (first
            | ((with_reducible show Calls _ 17 #[.string s] w _); go_must (refine (HF1 _ HT.out).out.mono ?_); rintro e w1 ⟨a1, n1, c1, rfl, hr1, hb1⟩; have HR1 := Lib.hid hr1; clear hr1)
            | ((with_reducible show Calls _ 22 _ w1 _); go_must (refine (HF2 _ _ _ _ HR1.out).out.mono ?_); rintro e w2 ⟨rfl, hb2⟩; rw [H3.out]; have hb3 := hb1.trans (hb2.mono hb1.size); have HR3 := Lib.hid (HR.out.below hb3); clear hb2)
            | ((with_reducible show Calls _ 22 _ w2 _); go_must (refine (HG1 _ HR3.out).out.mono ?_); rintro e w4 ⟨rfl, hb4⟩; have hb5 := hb3.trans (hb4.mono hb3.size); clear hb4 HR3)
            | ((with_reducible show Calls _ 17 _ w4 _); go_must (refine (HG2 _ (HT.out.below hb5)).out.mono ?_); rintro e w6 ⟨a6, n6, c6, rfl, hr6, hb6⟩; have hb7 := hb5.trans (hb6.mono hb5.size); clear hr6 hb6)
            | (go_at_call 13; go_must (refine (awake_any _ (HT.out.below hb7)).mono ?_); rintro e w10 ⟨rfl, hb10⟩))
          go_ret
          exact ⟨rfl, hb7.trans (hb10.mono hb7.size)⟩
        · go_enter Tryd.func8, Tryd.ntmps8
          go_wp2_with (first
            | ((with_reducible show Calls _ 17 #[.string s] w _); go_must (refine (HF1 _ HT.out).out.mono ?_); rintro e w1 ⟨a1, n1, c1, rfl, hr1, hb1⟩; have HR1 := Lib.hid hr1; clear hr1)
            | ((with_reducible show Calls _ 22 _ w1 _); go_must (refine (HF2 _ _ _ _ HR1.out).out.mono ?_); rintro e w2 ⟨rfl, hb2⟩; have hb3 := hb1.trans (hb2.mono hb1.size); have HR3 := Lib.hid (HR.out.below hb3); clear hb2)
            | ((with_reducible show Calls _ 22 _ w2 _); go_must (refine (HG1 _ HR3.out).out.mono ?_); rintro e w4 ⟨rfl, hb4⟩; have hb5 := hb3.trans (hb4.mono hb3.size); clear hb4 HR3)
            | ((with_reducible show Calls _ 17 _ w4 _); go_must (refine (HG2 _ (HT.out.below hb5)).out.mono ?_); rintro e w6 ⟨a6, n6, c6, rfl, hr6, hb6⟩; have hb7 := hb5.trans (hb6.mono hb5.size); clear hr6 hb6)
            | (go_at_call 13; go_must (refine (awake_any _ (HT.out.below hb7)).mono ?_); rintro e w10 ⟨rfl, hb10⟩))
          go_ret
          exact ⟨rfl, hb7.trans (hb10.mono hb7.size)⟩
    · have hd : decide (5000 < (n : Int)) = true := by simp; omega
      have hd2 : decide (5000 < (s.size : Int)) = false := by simp; omega
      clear hT hr
      go_enter Tryd.func8, Tryd.ntmps8
      go_wp2
      go_ret
      exact ⟨rfl, Below.refl _ _⟩
  · have hd : decide (5000 < (s.size : Int)) = true := by simp; omega
    clear hT hr
    go_enter Tryd.func8, Tryd.ntmps8
    go_wp2
    go_ret
    exact ⟨rfl, Below.refl _ _⟩
#print axioms back_any
end Go.Proofs.YtpopjkkihhidjaaDoor
