/-
  The walk of the document's Apply: it answers what the program's does.
-/
import Derived.Test.YtheigemfbcgjcaaDlApply
import Derived.Test.YtheigemfbcgjcaaDlRef1
namespace Go.Proofs.Ytheigemfbcgjcaa
open Go.RowKit

theorem cut_zero (b : List UInt8) (x : Nat) : cutF b x 0 = [] := by unfold cutF; split <;> simp
theorem cut_over {b : List UInt8} {x k : Nat} (h : b.length < x + k) : cutF b x k = [] := by unfold cutF; rw [if_pos h]
theorem cut_fit {b : List UInt8} {x k : Nat} (h : x + k ≤ b.length) : cutF b x k = (b.drop x).take k ∧ ((b.drop x).take k).length = k := by
  unfold cutF
  rw [if_neg (by omega)]
  exact ⟨rfl, by rw [List.length_take, List.length_drop]; omega⟩
theorem cut_bad (b : List UInt8) (x k out size : Nat) (h : k < 1 ∨ size < out + k ∨ b.length < x + k) : cutF b x k = [] ∨ size < out + (cutF b x k).length := by
  by_cases h0 : cutF b x k = []
  · exact .inl h0
  · have := cut_le h0
    exact .inr (by omega)
set_option maxRecDepth 100000 in
set_option maxHeartbeats 8000000 in
theorem refApply_any (a a' : Option Addr) (n c n' c' : Nat) (A D : List UInt8) (w : World) (h : Bytes w a n c A) (h' : Bytes w a' n' c' D) (hD : D.length ≤ 1000000) :
    Calls Try.prog 13 #[.slice a n c, .slice a' n' c'] w (AppIs (applyF A D) w) := by
  rcases hq : lenF D with ⟨b, t, y, er⟩
  have HL := Lib.hid (refSizes_any a' n' c' D w h' b t y er hq)
  have HA := Lib.hid h
  have HD := Lib.hid h'
  have HLA := Lib.hid h.1
  have HLD := Lib.hid h'.1
  rcases len_er hq with rfl | rfl
  · obtain ⟨hy, hbb, htt⟩ := len_le hq
    have hbI : (b : Int) ≤ 9223372036854775807 := by omega
    have htI : (t : Int) ≤ 9223372036854775807 := by omega
    by_cases hs : (262144 : Int) < (t : Int)
    · have e : applyF A D = ([], 2) := by unfold applyF; rw [hq]; simp only [ne_eq, not_true_eq_false, if_false]; rw [if_pos (by omega)]
      rw [e]
      clear h h' hq hD hy hbb htt e
      go_enter Try.func13, Try.ntmps13
      go_wp2_with (go_at_call 15; (with_reducible refine HL.out.mono ?_); rintro e w1 ⟨rfl, rfl⟩)
      go_ret2
      exact app_no 2 _ _ (Below.refl _ _)
    · have d1 : decide ((262144 : Int) < (t : Int)) = false := decide_eq_false hs
      have d1n : decide (262144 < t) = false := decide_eq_false (by omega)
      by_cases hb : b = n
      · have hbn : ((b : Int) != (n : Int)) = false := by simp [hb]
        obtain ⟨Z, hZ⟩ : ∃ Z, runF A D t (D.length + 1) y [] = Z := ⟨_, rfl⟩
        have HE : Hid (applyF A D = endF Z) := Lib.hid (by
          unfold applyF
          rw [hq]
          simp only [ne_eq, not_true_eq_false, if_false]
          rw [if_neg (by omega), if_neg (by rw [h.1]; omega), hZ])
        have HZ := Lib.hid hZ
        have HY := Lib.hid hy
        have HT := Lib.hid (show t ≤ 262144 by omega)
        have HG := Lib.hid (fun (x : Nat) W (hW : Below w.heap.size w W) p y r hq => refGet_any a' n' c' D (x : Nat) W (h'.below hW) p y r hq)
        have hn0 : (0 : Int) ≤ (n' : Int) := by omega
        have HDB := Lib.hid hD
        clear h h' hq hD hy hbb htt hZ hb hs
        go_enter Try.func13, Try.ntmps13
        go_wp2_with (go_at_call 15; (with_reducible refine HL.out.mono ?_); rintro e w1 ⟨rfl, rfl⟩)
        go_loopg [8, 10] (D.length + 1) (fun g v8 v10 W => ∃ (at_ : Nat) (out : List UInt8) (ao : Option Addr) (no co : Nat), v8 = .int .i64 at_ ∧ v10 = .slice ao no co ∧ Hid (runF A D t g at_ out = Z) ∧ Hid (D.length + 1 ≤ g + at_) ∧ Hid (at_ ≤ D.length) ∧ Hid (out.length ≤ t) ∧ Hid (Own W w.heap.size (.slice ao no co) out) ∧ Hid (Below w.heap.size w W))
        case atStart => exact ⟨y, [], none, 0, 0, rfl, rfl, HZ, Lib.hid (by omega), HY, Lib.hid (Nat.zero_le _), Lib.hid (Own.nil _ _), Lib.hid (Below.refl _ _)⟩
        case round =>
          obtain ⟨at_, out, ao, no, co, rfl, rfl, HR, HGK, HAT, HOL, HO, HB⟩ := hrel
          have HNO := Lib.hid HO.out.len
          have hat0 : (0 : Int) ≤ (at_ : Int) := by omega
          by_cases hi : (at_ : Int) < (n' : Int)
          · have HI := Lib.hid (show at_ < D.length by rw [HLD.out]; omega)
            rcases hq1 : getI D (at_ : Int) with ⟨m, x1, e1⟩
            have HG1 := Lib.hid (HG.out at_ wr HB.out m x1 e1 hq1)
            have HQ1 := Lib.hid hq1
            rcases getI_six HAT.out hq1 with rfl | rfl
            · obtain ⟨hl1, hl2, hl3⟩ := getI_le hq1
              have HX1 := Lib.hid (show at_ < x1 ∧ x1 ≤ D.length ∧ m < 9223372036854775808 from ⟨hl1, hl2, hl3⟩)
              obtain ⟨k, hk⟩ : ∃ k, m / 2 = k := ⟨_, rfl⟩
              have hqk : (m : Int) / 2 = (k : Int) := by omega
              have hm0 : (0 : Int) ≤ (m : Int) := by omega
              have hmI : (m : Int) ≤ 9223372036854775807 := by omega
              have hx0 : (0 : Int) ≤ (x1 : Int) := by omega
              have W1 : IntKind.i64.wrap ((t : Int) - (no : Int)) = (t : Int) - (no : Int) := IntWalk.i64_in _ (by have h1 := HNO.out; have h2 := HOL.out; omega)
              have HK := Lib.hid hk
              clear hq1 hk hl1 hl2 hl3
              by_cases hk1 : (k : Int) < 1
              · have HZN := Lib.hid (run_bad HR.out HI.out (by
                  have hk0 : k = 0 := by omega
                  have hk2 : m / 2 = 0 := by rw [HK.out, hk0]
                  by_cases hev : m % 2 = 0
                  · rw [piece_even HQ1.out hev, hk2, cut_zero]; exact .inl rfl
                  · rcases hq2 : getI D (x1 : Int) with ⟨p, x2, e2⟩
                    rcases getI_six HX1.out.2.1 hq2 with rfl | rfl
                    · rw [piece_odd HQ1.out hev hq2, hk2, cut_zero]; exact .inl rfl
                    · rw [piece_not HQ1.out hev hq2 (by decide)]; exact .inl rfl))
                have d2 : decide ((k : Int) < 1) = true := decide_eq_true hk1
                go_wp2_with (go_at_call 26; (with_reducible refine HG1.out.mono ?_); rintro e w2 ⟨rfl, rfl⟩)
                go_ret2
                rw [HE.out, HZN.out]
                exact app_no 6 _ _ HB.out
              · have d2 : decide ((k : Int) < 1) = false := decide_eq_false hk1
                have d2n : decide (k < 1) = false := decide_eq_false (by omega)
                by_cases hfit : (t : Int) - (no : Int) < (k : Int)
                · have HZN := Lib.hid (run_bad HR.out HI.out (by
                    have hf : t < out.length + m / 2 := by have h1 := HNO.out; have h2 := HOL.out; have h3 := HK.out; omega
                    by_cases hev : m % 2 = 0
                    · rw [piece_even HQ1.out hev]; exact cut_bad _ _ _ _ _ (.inr (.inl hf))
                    · rcases hq2 : getI D (x1 : Int) with ⟨p, x2, e2⟩
                      rcases getI_six HX1.out.2.1 hq2 with rfl | rfl
                      · rw [piece_odd HQ1.out hev hq2]; exact cut_bad _ _ _ _ _ (.inr (.inl hf))
                      · rw [piece_not HQ1.out hev hq2 (by decide)]; exact .inl rfl))
                  have d3 : decide ((t : Int) - (no : Int) < (k : Int)) = true := decide_eq_true hfit
                  go_wp2_with (go_at_call 26; (with_reducible refine HG1.out.mono ?_); rintro e w2 ⟨rfl, rfl⟩)
                  go_ret2
                  rw [HE.out, HZN.out]
                  exact app_no 6 _ _ HB.out
                · have d3 : decide ((t : Int) - (no : Int) < (k : Int)) = false := decide_eq_false hfit
                  have HF := Lib.hid (show out.length + k ≤ t ∧ 0 < k by have h1 := HNO.out; have h2 := HOL.out; omega)
                  clear hfit hk1
                  by_cases hev : m % 2 = 0
                  · have hx : ((m : Int) % 2 == 0) = true := by rw [beq_iff_eq]; omega
                    have W2 : IntKind.i64.wrap ((n' : Int) - (x1 : Int)) = (n' : Int) - (x1 : Int) := IntWalk.i64_in _ (by have := HX1.out; have := HLD.out; have := HDB.out; omega)
                    by_cases hc : (n' : Int) - (x1 : Int) < (k : Int)
                    · have HZN := Lib.hid (run_bad HR.out HI.out (by rw [piece_even HQ1.out hev]; exact cut_bad _ _ _ _ _ (.inr (.inr (by have := HLD.out; have := HK.out; omega)))))
                      have d4 : decide ((n' : Int) - (x1 : Int) < (k : Int)) = true := decide_eq_true hc
                      clear hev
                      go_wp2_with (go_at_call 26; (with_reducible refine HG1.out.mono ?_); rintro e w2 ⟨rfl, rfl⟩)
                      go_ret2
                      rw [HE.out, HZN.out]
                      exact app_no 6 _ _ HB.out
                    · have d4 : decide ((n' : Int) - (x1 : Int) < (k : Int)) = false := decide_eq_false hc
                      have hle : x1 + k ≤ n' := by omega
                      have hleI : (x1 : Int) + (k : Int) ≤ (n' : Int) := by omega
                      obtain ⟨xk, hxk⟩ : ∃ q, x1 + k = q := ⟨_, rfl⟩
                      have W3 : IntKind.i64.wrap ((x1 : Int) + (k : Int)) = (xk : Int) := by rw [IntWalk.i64_in _ (by have := HLD.out; have := HDB.out; omega)]; omega
                      obtain ⟨hc1, hc2⟩ := cut_fit (b := D) (x := x1) (k := k) (by rw [HLD.out]; exact hle)
                      have HPR : Hid (pieceF A D at_ = ((D.drop x1).take k, xk)) := Lib.hid (by rw [piece_even HQ1.out hev, HK.out, hc1, hxk])
                      obtain ⟨R, hR⟩ : ∃ R, (D.drop x1).take k = R := ⟨_, rfl⟩
                      rw [hR] at hc2 HPR
                      have HRL := Lib.hid hc2
                      have hR0 : R ≠ [] := fun h2 => by have h1 := HF.out; rw [h2] at hc2; simp at hc2; omega
                      have HST := Lib.hid (run_step HR.out HGK.out HI.out (by rw [HPR.out]; have h1 := HF.out; rintro (h2 | h2); exact hR0 h2; simp only at h2; omega))
                      have HNX := Lib.hid (piece_next HAT.out (by rw [HPR.out]; exact hR0))
                      rw [HPR.out] at HST HNX
                      obtain ⟨bd, od, rfl⟩ := bsome HD.out (by have := HD.out.2.1; have h1 := HF.out; omega)
                      have HCU := Lib.hid (fun W (hW : Below w.heap.size w W) => hR ▸ (HD.out.below hW).cut x1 k hle)
                      have hxc : xk ≤ c' := by have := HD.out.2.1; omega
                      have hxx : x1 ≤ xk := by omega
                      have hcn : ¬ x1 = c' := by have h1 := HF.out; omega
                      have hcn' : ¬ c' = x1 := by have h1 := HF.out; omega
                      have hdk : xk - x1 = k := by omega
                      have hk00 : (0 : Int) ≤ (k : Int) := by omega
                      clear hev hc hc1 hc2 hle hR
                      have HXK := Lib.hid hxk
                      clear hxk hleI
                      go_wp2_with (first
                        | (go_at_call 26; (with_reducible refine HG1.out.mono ?_); rintro e w2 ⟨rfl, rfl⟩)
                        | (at_builtin; go_must (refine app_bytes rfl _ _ rfl w.heap.size _ out rfl HO.out _ k _ R rfl (HCU.out _ HB.out) (by have h1 := HF.out; have h2 := HT.out; omega) HB.out.size ?_); intro v6 w6 ho hg; obtain ⟨a6, n6, c6, rfl, _⟩ := ho.bytes; have HO6 := Lib.hid ho; have HB6 := Lib.hid (HB.out.grown hg HB.out.size (fun k hk => (World.ownsRow.lt HO.out k hk).1)); clear ho hg))
                      go_roundg (gk - 1)
                      case measure => have h1 := HGK.out; have h2 := HI.out; omega
                      case rel => exact ⟨xk, out ++ R, a6, n6, c6, rfl, rfl, HST, Lib.hid (by have h1 := HGK.out; have h2 : at_ < xk := HNX.out.1; have h3 := HI.out; omega), Lib.hid HNX.out.2, Lib.hid (by rw [List.length_append, HRL.out]; exact HF.out.1), HO6, HB6⟩
                  · have hx : ((m : Int) % 2 == 0) = false := by rw [beq_eq_false_iff_ne]; omega
                    rcases hq2 : getI D (x1 : Int) with ⟨p, x2, e2⟩
                    have HG2 := Lib.hid (HG.out x1 wr HB.out p x2 e2 hq2)
                    have HQ2 := Lib.hid hq2
                    rcases getI_six HX1.out.2.1 hq2 with rfl | rfl
                    · obtain ⟨hl4, hl5, hl6⟩ := getI_le hq2
                      have hpI : (p : Int) ≤ 9223372036854775807 := by omega
                      have hp0 : (0 : Int) ≤ (p : Int) := by omega
                      have HP6 := Lib.hid hl6
                      clear hq2 hl4 hl5 hl6
                      by_cases hpn : (n : Int) < (p : Int)
                      · have HZN := Lib.hid (run_bad HR.out HI.out (by rw [piece_odd HQ1.out hev HQ2.out]; exact cut_bad _ _ _ _ _ (.inr (.inr (by have := HLA.out; have := HK.out; omega)))))
                        have d4 : decide ((n : Int) < (p : Int)) = true := decide_eq_true hpn
                        have d4n : decide (n < p) = true := decide_eq_true (by omega)
                        clear hev
                        go_wp2_with (first
                          | (go_at_call 26; (with_reducible refine HG1.out.mono ?_); rintro e w2 ⟨rfl, rfl⟩)
                          | (go_at_call 26; (with_reducible refine HG2.out.mono ?_); rintro e w2 ⟨rfl, rfl⟩))
                        go_ret2
                        rw [HE.out, HZN.out]
                        exact app_no 6 _ _ HB.out
                      · have d4 : decide ((n : Int) < (p : Int)) = false := decide_eq_false hpn
                        have d4n : decide (n < p) = false := decide_eq_false (by omega)
                        have W2 : IntKind.i64.wrap ((n : Int) - (p : Int)) = (n : Int) - (p : Int) := IntWalk.i64_in _ (by have h1 := HA.out.2.1; have h2 := HA.out.2.2.1; omega)
                        by_cases hc : (n : Int) - (p : Int) < (k : Int)
                        · have HZN := Lib.hid (run_bad HR.out HI.out (by rw [piece_odd HQ1.out hev HQ2.out]; exact cut_bad _ _ _ _ _ (.inr (.inr (by have := HLA.out; have := HK.out; omega)))))
                          have d5 : decide ((n : Int) - (p : Int) < (k : Int)) = true := decide_eq_true hc
                          clear hev
                          go_wp2_with (first
                            | (go_at_call 26; (with_reducible refine HG1.out.mono ?_); rintro e w2 ⟨rfl, rfl⟩)
                            | (go_at_call 26; (with_reducible refine HG2.out.mono ?_); rintro e w2 ⟨rfl, rfl⟩))
                          go_ret2
                          rw [HE.out, HZN.out]
                          exact app_no 6 _ _ HB.out
                        · have d5 : decide ((n : Int) - (p : Int) < (k : Int)) = false := decide_eq_false hc
                          have hle : p + k ≤ n := by omega
                          have hleI : (p : Int) + (k : Int) ≤ (n : Int) := by omega
                          obtain ⟨pk, hpk⟩ : ∃ q, p + k = q := ⟨_, rfl⟩
                          have W3 : IntKind.i64.wrap ((p : Int) + (k : Int)) = (pk : Int) := by rw [IntWalk.i64_in _ (by have h1 := HA.out.2.1; have h2 := HA.out.2.2.1; omega)]; omega
                          obtain ⟨hc1, hc2⟩ := cut_fit (b := A) (x := p) (k := k) (by rw [HLA.out]; exact hle)
                          have HPR : Hid (pieceF A D at_ = ((A.drop p).take k, x2)) := Lib.hid (by rw [piece_odd HQ1.out hev HQ2.out, HK.out, hc1])
                          obtain ⟨R, hR⟩ : ∃ R, (A.drop p).take k = R := ⟨_, rfl⟩
                          rw [hR] at hc2 HPR
                          have HRL := Lib.hid hc2
                          have hR0 : R ≠ [] := fun h2 => by have h1 := HF.out; rw [h2] at hc2; simp at hc2; omega
                          have HST := Lib.hid (run_step HR.out HGK.out HI.out (by rw [HPR.out]; have h1 := HF.out; rintro (h2 | h2); exact hR0 h2; simp only at h2; omega))
                          have HNX := Lib.hid (piece_next HAT.out (by rw [HPR.out]; exact hR0))
                          rw [HPR.out] at HST HNX
                          obtain ⟨bd, od, rfl⟩ := bsome HA.out (by have := HA.out.2.1; have h1 := HF.out; omega)
                          have HCU := Lib.hid (fun W (hW : Below w.heap.size w W) => hR ▸ (HA.out.below hW).cut p k hle)
                          have hxc : pk ≤ c := by have := HA.out.2.1; omega
                          have hxx : p ≤ pk := by omega
                          have hcn : ¬ p = c := by have h1 := HF.out; omega
                          have hcn' : ¬ c = p := by have h1 := HF.out; omega
                          have hdk : pk - p = k := by omega
                          have hk00 : (0 : Int) ≤ (k : Int) := by omega
                          clear hev hc hc1 hc2 hle hR hpk hleI
                          go_wp2_with (first
                            | (go_at_call 26; (with_reducible refine HG1.out.mono ?_); rintro e w2 ⟨rfl, rfl⟩)
                            | (go_at_call 26; (with_reducible refine HG2.out.mono ?_); rintro e w2 ⟨rfl, rfl⟩)
                            | (at_builtin; go_must (refine app_bytes rfl _ _ rfl w.heap.size _ out rfl HO.out _ k _ R rfl (HCU.out _ HB.out) (by have h1 := HF.out; have h2 := HT.out; omega) HB.out.size ?_); intro v6 w6 ho hg; obtain ⟨a6, n6, c6, rfl, _⟩ := ho.bytes; have HO6 := Lib.hid ho; have HB6 := Lib.hid (HB.out.grown hg HB.out.size (fun k hk => (World.ownsRow.lt HO.out k hk).1)); clear ho hg))
                          go_roundg (gk - 1)
                          case measure => have h1 := HGK.out; have h2 := HI.out; omega
                          case rel => exact ⟨x2, out ++ R, a6, n6, c6, rfl, rfl, HST, Lib.hid (by have h1 := HGK.out; have h2 : at_ < x2 := HNX.out.1; have h3 := HI.out; omega), Lib.hid HNX.out.2, Lib.hid (by rw [List.length_append, HRL.out]; exact HF.out.1), HO6, HB6⟩
                    · have HZN := Lib.hid (run_bad HR.out HI.out (by rw [piece_not HQ1.out hev HQ2.out (by decide)]; exact .inl rfl))
                      clear hq2 hev
                      go_wp2_with (first
                        | (go_at_call 26; (with_reducible refine HG1.out.mono ?_); rintro e w2 ⟨rfl, rfl⟩)
                        | (go_at_call 26; (with_reducible refine HG2.out.mono ?_); rintro e w2 ⟨rfl, rfl⟩))
                      go_ret2
                      rw [HE.out, HZN.out]
                      exact app_no 6 _ _ HB.out
            · have HZN := Lib.hid (run_bad HR.out HI.out (by rw [piece_none HQ1.out (by decide)]; exact .inl rfl))
              clear hq1
              go_wp2_with (go_at_call 26; (with_reducible refine HG1.out.mono ?_); rintro e w2 ⟨rfl, rfl⟩)
              go_ret2
              rw [HE.out, HZN.out]
              exact app_no 6 _ _ HB.out
          · have HEN := Lib.hid (run_end HR.out HGK.out (by have h1 := HAT.out; have h2 := HLD.out; omega))
            have d0 : decide ((at_ : Int) < (n' : Int)) = false := decide_eq_false hi
            have d0n : decide (at_ < n') = false := decide_eq_false (by omega)
            by_cases hsh : (no : Int) = (t : Int)
            · have d3 : ((no : Int) != (t : Int)) = false := by simp [hsh]
              have HZN : Hid (Z = some out) := Lib.hid (by have h1 := HEN.out; rw [if_neg (by have h2 := HNO.out; omega)] at h1; exact h1.symm)
              clear hi hsh
              go_wp2
              go_ret2
              rw [HE.out, HZN.out]
              exact ⟨ao, no, co, rfl, HO.out, HB.out⟩
            · have d3 : ((no : Int) != (t : Int)) = true := by simp only [bne_iff_ne, ne_eq]; exact hsh
              have HZN : Hid (Z = none) := Lib.hid (by have h1 := HEN.out; rw [if_pos (by have h2 := HNO.out; have h3 := HOL.out; omega)] at h1; exact h1.symm)
              clear hi hsh
              go_wp2
              go_ret2
              rw [HE.out, HZN.out]
              exact app_no 6 _ _ HB.out
      · have hbn : ((b : Int) != (n : Int)) = true := by simp only [bne_iff_ne, ne_eq]; omega
        have e : applyF A D = ([], 6) := by unfold applyF; rw [hq]; simp only [ne_eq, not_true_eq_false, if_false]; rw [if_neg (by omega), if_pos (by rw [h.1]; omega)]
        rw [e]
        clear h h' hq hD hy hbb htt e hb hs
        go_enter Try.func13, Try.ntmps13
        go_wp2_with (go_at_call 15; (with_reducible refine HL.out.mono ?_); rintro e w1 ⟨rfl, rfl⟩)
        go_ret2
        exact app_no 6 _ _ (Below.refl _ _)
  · have e : applyF A D = ([], 6) := by unfold applyF; rw [hq]; rfl
    rw [e]
    clear h h' hq hD e
    go_enter Try.func13, Try.ntmps13
    go_wp2_with (go_at_call 15; (with_reducible refine HL.out.mono ?_); rintro e w1 ⟨rfl, rfl⟩)
    go_ret2
    exact app_no 6 _ _ (Below.refl _ _)
#print axioms refApply_any
end Go.Proofs.Ytheigemfbcgjcaa
