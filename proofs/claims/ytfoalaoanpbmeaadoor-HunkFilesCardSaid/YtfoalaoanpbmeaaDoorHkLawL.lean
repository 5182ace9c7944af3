/-
  The law HunkLines, walked.
-/
import Derived.Test.YtfoalaoanpbmeaaDoorGrp15
namespace Go.Proofs.YtfoalaoanpbmeaaDoor
open Go.RowKit Go.Lib

theorem byte_at {x : Ln} {k : Nat} (h : k < (strB x).size) : (strB x)[k]'h = x.getD k 0 := by
  have h2 : k < x.length := by rw [strB_size] at h; exact h
  rw [List.getD_eq_getElem?_getD, List.getElem?_eq_getElem h2]; rfl
theorem ne_ten {b : UInt8} (h : ¬ b = 10) : ((b.toNat : Int) == 10) = false := by
  rw [beq_eq_false_iff_ne]
  intro e
  exact h (UInt8.toNat_inj.1 (by have : b.toNat = 10 := by omega
                                 rw [this]; rfl))
theorem flat_take (A : List Ln) (i : Nat) : ((A.take i).flatten).length ≤ A.flatten.length := by
  have h : A.flatten = (A.take i).flatten ++ (A.drop i).flatten := by rw [← List.flatten_append, List.take_append_drop]
  rw [h, List.length_append]; omega
set_option maxRecDepth 100000 in
set_option maxHeartbeats 4000000 in
theorem hunkLines_any (s : ByteArray) (w : World) (hT : HTabs w) :
    Calls Tryd.prog 6 #[.string s] w fun e w' => e = .returned (.bool true) ∧ Below w.heap.size w w' := by
  have HT := Lib.hid hT
  clear hT
  by_cases hbig : (3000 : Int) < (s.size : Int)
  · have d1 : decide ((3000 : Int) < (s.size : Int)) = true := decide_eq_true hbig
    have d1n : decide (3000 < s.size) = true := decide_eq_true (by omega)
    clear hbig
    go_enter Tryd.func6, Tryd.ntmps6
    go_wp2
    go_ret
    exact ⟨rfl, Below.refl _ _⟩
  · have d1 : decide ((3000 : Int) < (s.size : Int)) = false := decide_eq_false hbig
    have d1n : decide (3000 < s.size) = false := decide_eq_false (by omega)
    obtain ⟨A, hA⟩ : ∃ A, linesF s.data.toList = A := ⟨_, rfl⟩
    have HF : Hid (strB A.flatten = s) := Lib.hid (by rw [← hA, lines_flat]; exact strB_of s)
    have HOK : Hid (∀ x ∈ A, LineOk x) := Lib.hid (hA ▸ (lines_ok _).1)
    have HEN : Hid (∀ i, i + 1 < A.length → (A.getD i []).getD ((A.getD i []).length - 1) 0 = 10) := Lib.hid (hA ▸ (lines_ok _).2)
    have HSM : Hid (∀ x ∈ A, x.length ≤ 3000) := Lib.hid (fun x hx => by have h1 := lines_small s.data.toList x (hA ▸ hx); rw [← Lib.size_eq] at h1; omega)
    have HSP := Lib.hid (split_any s w (by omega))
    rw [hA] at HSP
    have HAN : Hid (A.length ≤ 3000) := Lib.hid (by have h1 := lines_len s.data.toList; rw [hA, ← Lib.size_eq] at h1; omega)
    have HFS : Hid (A.flatten.length ≤ 3000) := Lib.hid (by rw [← hA, lines_flat, ← Lib.size_eq]; omega)
    clear hbig hA
    go_enter Tryd.func6, Tryd.ntmps6
    go_wp2_with (go_at_call 13; (with_reducible refine HSP.out.mono ?_); rintro e w1 ⟨a, n, c, rfl, ho, hb⟩; have HL := Lib.hid ho; have HB := Lib.hid hb; clear ho hb)
    have HN : Hid (A.length = n) := Lib.hid HL.out.1
    clear d1 d1n
    go_loopg [4, 5] n (fun gk v4 v5 W => ∃ (i : Nat) (T : Ln), v5 = .int .i64 (i : Nat) ∧ v4 = .string (strB T) ∧ Hid (T = (A.take i).flatten) ∧ Hid (gk + i = n) ∧ Hid (Below w1.heap.size w1 W))
    case atStart => exact ⟨0, [], rfl, rfl, Lib.hid rfl, Lib.hid rfl, Lib.hid (Below.refl _ _)⟩
    case round =>
      obtain ⟨i, T, rfl, rfl, HTE, HI, HBW⟩ := hrel
      by_cases hi : (i : Int) < (n : Int)
      · obtain ⟨b, off, rfl⟩ := HL.out.some_ (by omega)
        obtain ⟨x, hx⟩ : ∃ x, A.getD i [] = x := ⟨_, rfl⟩
        have hcell : wr.cell? ⟨b, off + i, none⟩ = some (.string (strB x)) := by
          have h1 := ln_cell (HL.out.below HBW.out) i (by omega)
          rw [hx] at h1
          exact h1
        have HC : Hid (∀ W, Below w1.heap.size w1 W → W.cell? ⟨b, off + i, none⟩ = some (.string (strB x))) := Lib.hid (fun W hW => by
          have h1 := ln_cell (HL.out.below hW) i (by omega)
          rw [hx] at h1
          exact h1)
        have hin : i < A.length := by have := HN.out; omega
        have hxm : x ∈ A := by rw [← hx]; exact getD_mem hin
        have HXS : Hid (x.length ≤ 3000) := Lib.hid (HSM.out x hxm)
        obtain ⟨m, hm⟩ : ∃ m, x.length = m := ⟨_, rfl⟩
        have HM := Lib.hid hm
        have HNT : Hid (T ++ x = (A.take (i + 1)).flatten) := Lib.hid (by rw [take_snoc A i [] hin, hx, List.flatten_append, HTE.out]; simp)
        have hlen : T.length + x.length ≤ 3000 := by
          have h1 : (T ++ x).length ≤ A.flatten.length := by rw [HNT.out]; exact flat_take A (i + 1)
          rw [List.length_append] at h1
          have := HFS.out; omega
        have hcat := run_catL T x (by omega)
        have hsz : (strB x).size = m := by rw [strB_size, hm]
        have HXO : Hid (LineOk x) := Lib.hid (HOK.out x hxm)
        have HXE : Hid (i + 1 < n → x.getD (m - 1) 0 = 10) := Lib.hid (fun h => by have h1 := HEN.out i (by have := HN.out; omega); rw [hx, hm] at h1; exact h1)
        have HIN : Hid (i < n) := Lib.hid (by omega)
        have hi0 : (0 : Int) ≤ (i : Int) := by omega
        have W1 : IntKind.i64.wrap ((i : Int) + 1) = (i : Int) + 1 := IntWalk.i64_in _ (by have := HN.out; have := HAN.out; omega)
        obtain ⟨M, hMM⟩ : ∃ M, M + 1 = m := ⟨m - 1, by have h1 := List.length_pos_iff.2 HXO.out.1; omega⟩
        have HMM := Lib.hid hMM
        have W3 : IntKind.i64.wrap ((m : Int) - 1) = (M : Int) := by rw [IntWalk.i64_in _ (by have := HXS.out; have := HM.out; omega)]; omega
        obtain ⟨N1, hN1⟩ : ∃ N1, N1 + 1 = n := ⟨n - 1, by omega⟩
        have HN1 := Lib.hid hN1
        have W4 : IntKind.i64.wrap ((n : Int) - 1) = (N1 : Int) := by rw [IntWalk.i64_in _ (by have := HN.out; have := HAN.out; omega)]; omega
        clear hx hin hxm hm hlen hMM hN1
        go_wp2
        go_loopg [6] m (fun gk v6 W => ∃ k : Nat, v6 = .int .i64 (k : Nat) ∧ Hid (gk + k = m) ∧ Hid (Below w1.heap.size w1 W))
        case atStart => exact ⟨0, rfl, Lib.hid rfl, HBW⟩
        case round =>
          clear hcell
          obtain ⟨k, rfl, HK, HBK⟩ := hrel
          have hcell : wr.cell? ⟨b, off + i, none⟩ = some (.string (strB x)) := HC.out wr HBK.out
          have hk0 : (0 : Int) ≤ (k : Int) := by omega
          have W2 : IntKind.i64.wrap ((k : Int) + 1) = (k : Int) + 1 := IntWalk.i64_in _ (by have := HK.out; have := HXS.out; have := HM.out; omega)
          by_cases hk : (k : Int) < (m : Int)
          · have hks : k < (strB x).size := by rw [hsz]; omega
            have hby := byte_at hks
            have HKM : Hid (k < m) := Lib.hid (by omega)
            by_cases hq10 : x.getD k 0 = 10
            · have hkM : k = M := by
                have h1 := HMM.out
                rcases Nat.lt_or_ge (k + 1) x.length with h2 | h2
                · exact absurd hq10 (HXO.out.2 k h2)
                · have h3 := HM.out; have h4 := HKM.out; omega
              have hq : ((((strB x)[k]'hks).toNat : Int) == 10) = true := by rw [hby, hq10]; rfl
              have dn : decide ((k : Int) < (M : Int)) = false := decide_eq_false (by omega)
              have dn2 : decide (k < M) = false := decide_eq_false (by omega)
              clear hkM hby hq10
              go_wp2
              go_roundg (gk - 1)
              case measure => have h1 := HK.out; have h2 := HKM.out; omega
              case rel => exact ⟨k + 1, by go_num, Lib.hid (by have h1 := HK.out; have h2 := HKM.out; omega), HBK⟩
            · have hq : ((((strB x)[k]'hks).toNat : Int) == 10) = false := by rw [hby]; exact ne_ten hq10
              clear hby hq10
              go_wp2
              go_roundg (gk - 1)
              case measure => have h1 := HK.out; have h2 := HKM.out; omega
              case rel => exact ⟨k + 1, by go_num, Lib.hid (by have h1 := HK.out; have h2 := HKM.out; omega), HBK⟩
          · have hMs : M < (strB x).size := by rw [hsz]; have := HMM.out; omega
            have hby := byte_at hMs
            have hM0 : (0 : Int) ≤ (M : Int) := by omega
            have hMm : (M : Int) < (m : Int) := by have := HMM.out; omega
            have hm0 : ((m : Int) == 0) = false := by rw [beq_eq_false_iff_ne]; have := HMM.out; omega
            by_cases hq10 : x.getD M 0 = 10
            · have hq : ((((strB x)[M]'hMs).toNat : Int) == 10) = true := by rw [hby, hq10]; rfl
              have hq' : ((((strB x)[M]'hMs).toNat : Int) != 10) = false := by simp [bne, hq]
              clear hby hq10
              go_wp2
              go_quiet (fail)
              have HBq := Lib.hid (below_drewH HBK.out nq)
              generalize wr.drewN nq = wq at HBq ⊢
              clear hcell
              go_wp2
              go_roundg (n - (i + 1))
              case measure => have h1 := HI.out; have h2 := HIN.out; omega
              case rel => exact ⟨i + 1, T ++ x, by go_num, rfl, HNT, Lib.hid (by have h1 := HI.out; have h2 := HIN.out; omega), HBq⟩
            · have hq : ((((strB x)[M]'hMs).toNat : Int) == 10) = false := by rw [hby]; exact ne_ten hq10
              have hq' : ((((strB x)[M]'hMs).toNat : Int) != 10) = true := by simp [bne, hq]
              have hiN : i = N1 := by have h1 := HXE.out; have h2 := HMM.out; have h3 := HN1.out; rcases Nat.lt_or_ge (i + 1) n with h4 | h4; exact absurd (by have h5 := h1 h4; rw [← h2, Nat.add_sub_cancel] at h5; exact h5) hq10; omega
              have dn : decide ((i : Int) < (N1 : Int)) = false := decide_eq_false (by omega)
              have dn2 : decide (i < N1) = false := decide_eq_false (by omega)
              clear hby hq10 hiN
              go_wp2
              go_quiet (fail)
              have HBq := Lib.hid (below_drewH HBK.out nq)
              generalize wr.drewN nq = wq at HBq ⊢
              clear hcell
              go_wp2
              go_roundg (n - (i + 1))
              case measure => have h1 := HI.out; have h2 := HIN.out; omega
              case rel => exact ⟨i + 1, T ++ x, by go_num, rfl, HNT, Lib.hid (by have h1 := HI.out; have h2 := HIN.out; omega), HBq⟩
      · have hin : i = n := by have := HI.out; omega
        have hTs : strB T = s := by rw [HTE.out, List.take_of_length_le (by rw [HN.out, hin]; exact Nat.le_refl _)]; exact HF.out
        have hq : ((strB T).toList == s.toList) = true := by rw [hTs]; exact beq_self_eq_true _
        clear hin hTs
        go_wp2_with (go_at_call 15; (with_reducible refine (awake_any wr (HT.out.below (HB.out.trans (HBW.out.mono HB.out.size)))).mono ?_); rintro e w5 ⟨rfl, hb⟩; have HB5 := Lib.hid ((HB.out.trans (HBW.out.mono HB.out.size)).trans (hb.mono (HB.out.trans (HBW.out.mono HB.out.size)).size)); clear hb)
        go_ret
        exact ⟨rfl, HB5.out⟩
#print axioms hunkLines_any
end Go.Proofs.YtfoalaoanpbmeaaDoor
