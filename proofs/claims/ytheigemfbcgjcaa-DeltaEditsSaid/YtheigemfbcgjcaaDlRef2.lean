/-
  The walk of the document's Longest: place by place, byte by byte.
-/
import Derived.Test.YtheigemfbcgjcaaDlMakeM
namespace Go.Proofs.Ytheigemfbcgjcaa
open Go.RowKit Go.Lib

theorem best_up {b w : List UInt8} {k p l n : Nat} (e : bestF b w k = (p, l)) (hn : lcpF (b.drop k) w = n) : (l < n → bestF b w (k + 1) = (k, n)) ∧ (¬ l < n → bestF b w (k + 1) = (p, l)) := by
  constructor
  · intro h
    show (if (bestF b w k).2 < lcpF (b.drop k) w then _ else _) = _
    rw [e, hn, if_pos h]
  · intro h
    show (if (bestF b w k).2 < lcpF (b.drop k) w then _ else _) = _
    rw [e, hn, if_neg h]
set_option maxRecDepth 100000 in
set_option maxHeartbeats 8000000 in
theorem refLongest_any (a a' : Option Addr) (n c n' c' at_ : Nat) (A C : List UInt8) (w : World) (h : Bytes w a n c A) (h' : Bytes w a' n' c' C) (hat : at_ ≤ n') (hn : n ≤ 1000000) (hn' : n' ≤ 1000000) :
    Calls Try.prog 22 #[.slice a n c, .slice a' n' c', .int .i64 (at_ : Nat)] w fun e w' => e = .returned (.tuple #[.int .i64 ((bestF A (C.drop at_) n).1 : Nat), .int .i64 ((bestF A (C.drop at_) n).2 : Nat)]) ∧ Below w.heap.size w w' := by
  have HA := Lib.hid h
  have HC := Lib.hid h'
  have HL : Hid (A.length = n ∧ C.length = n' ∧ n ≤ c ∧ n' ≤ c' ∧ n ≤ 1000000 ∧ n' ≤ 1000000 ∧ at_ ≤ n') := Lib.hid ⟨h.1, h'.1, h.2.1, h'.2.1, hn, hn', hat⟩
  obtain ⟨X, hX⟩ : ∃ X, C.drop at_ = X := ⟨_, rfl⟩
  have HX := Lib.hid hX
  have hXl : X.length = n' - at_ := by rw [← hX, List.length_drop, h'.1]
  obtain ⟨nx, hnx⟩ : ∃ q, at_ + q = n' := ⟨n' - at_, by omega⟩
  have HXL : Hid (X.length = nx ∧ at_ + nx = n') := Lib.hid ⟨by omega, hnx⟩
  have Wx : IntKind.i64.wrap ((n' : Int) - (at_ : Int)) = (nx : Int) := by rw [IntWalk.i64_in _ (by omega)]; omega
  rw [hX]
  clear h h' hat hn hn' hX hXl hnx
  go_enter Try.func22, Try.ntmps22
  go_wp2
  go_loopg [8, 9, 10] n (fun g v8 v9 v10 W => ∃ (p x l : Nat), v10 = .int .i64 (p : Nat) ∧ v8 = .int .i64 (x : Nat) ∧ v9 = .int .i64 (l : Nat) ∧ Hid (g + p = n) ∧ Hid (bestF A X p = (x, l)) ∧ Hid (Below w.heap.size w W))
  case atStart => exact ⟨0, 0, 0, rfl, rfl, rfl, Lib.hid rfl, Lib.hid rfl, Lib.hid (Below.refl _ _)⟩
  case round =>
    obtain ⟨p, x, l, rfl, rfl, rfl, HG, HBE, HBW⟩ := hrel
    by_cases hp : (p : Int) < (n : Int)
    · have hl := HL.out
      have HP := Lib.hid (show p < n by omega)
      obtain ⟨np, hnp⟩ : ∃ q, p + q = n := ⟨n - p, by omega⟩
      have HNP := Lib.hid hnp
      have W1 : IntKind.i64.wrap ((n : Int) - (p : Int)) = (np : Int) := by rw [IntWalk.i64_in _ (by omega)]; omega
      have W5 : IntKind.i64.wrap ((p : Int) + 1) = (p : Int) + 1 := IntWalk.i64_in _ (by omega)
      clear hl hnp
      go_wp2
      go_loopg [11] np (fun g v11 W => ∃ k : Nat, v11 = .int .i64 (k : Nat) ∧ Hid (g + k = np ∧ k ≤ nx) ∧ Hid (Below w.heap.size w W) ∧ Hid ((A.drop p).take k = X.take k))
      case atStart => exact ⟨0, rfl, Lib.hid ⟨rfl, Nat.zero_le _⟩, HBW, Lib.hid rfl⟩
      case round =>
        obtain ⟨k, rfl, HK, HB2, HT⟩ := hrel
        have HDL : Hid ((A.drop p).length = np) := Lib.hid (by rw [List.length_drop, HL.out.1]; have := HNP.out; omega)
        have hk0 : (0 : Int) ≤ (k : Int) := by omega
        by_cases h1 : (k : Int) < (np : Int)
        · by_cases h2 : (k : Int) < (nx : Int)
          · have hl := HL.out
            have hxl := HXL.out
            have hnp := HNP.out
            obtain ⟨b, off, rfl⟩ := bsome HA.out (by omega)
            obtain ⟨b', off', rfl⟩ := bsome HC.out (by omega)
            obtain ⟨i1, hi1⟩ : ∃ q, p + k = q := ⟨_, rfl⟩
            obtain ⟨i2, hi2⟩ : ∃ q, at_ + k = q := ⟨_, rfl⟩
            obtain ⟨u, hu⟩ : ∃ u, u = A.getD i1 0 := ⟨_, rfl⟩
            obtain ⟨v, hv⟩ : ∃ v, v = C.getD i2 0 := ⟨_, rfl⟩
            have hc1 : wr.cell? ⟨b, off + i1, none⟩ = some (.int .u8 (u.toNat : Int)) := by rw [hu]; exact bcell (HA.out.below HB2.out) i1 (by omega)
            have hc2 : wr.cell? ⟨b', off' + i2, none⟩ = some (.int .u8 (v.toNat : Int)) := by rw [hv]; exact bcell (HC.out.below HB2.out) i2 (by omega)
            have HU : Hid (u = (A.drop p).getD k 0 ∧ v = X.getD k 0) := Lib.hid ⟨by rw [hu, List.getD_eq_getElem?_getD, List.getD_eq_getElem?_getD, List.getElem?_drop, hi1], by rw [hv, ← HX.out, List.getD_eq_getElem?_getD, List.getD_eq_getElem?_getD, List.getElem?_drop, hi2]⟩
            have W2 : IntKind.i64.wrap ((p : Int) + (k : Int)) = (i1 : Int) := by rw [IntWalk.i64_in _ (by omega)]; omega
            have W3 : IntKind.i64.wrap ((at_ : Int) + (k : Int)) = (i2 : Int) := by rw [IntWalk.i64_in _ (by omega)]; omega
            have W4 : IntKind.i64.wrap ((k : Int) + 1) = (k : Int) + 1 := IntWalk.i64_in _ (by omega)
            have j1 : (0 : Int) ≤ (i1 : Int) := by omega
            have j2 : (i1 : Int) < (n : Int) := by omega
            have j3 : (0 : Int) ≤ (i2 : Int) := by omega
            have j4 : (i2 : Int) < (n' : Int) := by omega
            have HKI : Hid (k < np ∧ k < nx) := Lib.hid ⟨by omega, by omega⟩
            clear hl hxl hnp hi1 hi2 hu hv
            by_cases he : u = v
            · subst he
              have hqe : ((u.toNat : Int) == (u.toNat : Int)) = true := by simp
              have HN2 := Lib.hid (lcp_step HT.out (by rw [HDL.out]; exact HKI.out.1) (by rw [HXL.out.1]; exact HKI.out.2) (HU.out.1.symm.trans HU.out.2))
              go_wp2
              go_quiet (fail)
              have HBD := Lib.hid (below_dn HB2.out nq)
              go_wp2
              go_roundg (gk - 1)
              case measure => have h3 := HK.out; have h4 := HKI.out; omega
              case rel => exact ⟨k + 1, by go_num, Lib.hid (by have h3 := HK.out; have h4 := HKI.out; omega), HBD, HN2⟩
            · have hqe : ((u.toNat : Int) == (v.toNat : Int)) = false := by rw [beq_eq_false_iff_ne]; intro h; exact he (UInt8.toNat_inj.1 (by omega))
              have HN := Lib.hid (lcp_end HT.out (by rw [HDL.out]; have := HKI.out; omega) (by rw [HXL.out.1]; have := HKI.out; omega) (fun h => he (by rw [HU.out.1, HU.out.2]; exact h.2.2)))
              have HUP := Lib.hid (best_up HBE.out HN.out)
              by_cases hlt : (l : Int) < (k : Int)
              · go_wp2
                go_quiet (fail)
                have HBD := Lib.hid (below_dn HB2.out nq)
                have hu0 : l < k := by omega
                have HU2 := Lib.hid (HUP.out.1 hu0)
                clear hu0
                go_wp2
                go_roundg (n - (p + 1))
                case measure => have h3 := HG.out; have h4 := HP.out; omega
                case rel => exact ⟨p + 1, p, k, by go_num, rfl, rfl, Lib.hid (by have h3 := HG.out; have h4 := HP.out; omega), HU2, HBD⟩
              · go_wp2
                go_quiet (fail)
                have HBD := Lib.hid (below_dn HB2.out nq)
                have hu0 : ¬ l < k := by omega
                have HU2 := Lib.hid (HUP.out.2 hu0)
                clear hu0
                go_wp2
                go_roundg (n - (p + 1))
                case measure => have h3 := HG.out; have h4 := HP.out; omega
                case rel => exact ⟨p + 1, x, l, by go_num, rfl, rfl, Lib.hid (by have h3 := HG.out; have h4 := HP.out; omega), HU2, HBD⟩
          · have HN := Lib.hid (lcp_end HT.out (by rw [HDL.out]; have := HK.out; omega) (by rw [HXL.out.1]; exact HK.out.2) (fun h => by have h3 := h.2.1; rw [HXL.out.1] at h3; omega))
            have d1 : decide ((k : Int) < (nx : Int)) = false := decide_eq_false h2
            have d0 : decide (k < nx) = false := decide_eq_false (by omega)
            have HUP := Lib.hid (best_up HBE.out HN.out)
            by_cases hlt : (l : Int) < (k : Int)
            · go_wp2
              go_quiet (fail)
              have HBD := Lib.hid (below_dn HB2.out nq)
              have hu0 : l < k := by omega
              have HU2 := Lib.hid (HUP.out.1 hu0)
              clear hu0
              go_wp2
              go_roundg (n - (p + 1))
              case measure => have h3 := HG.out; have h4 := HP.out; omega
              case rel => exact ⟨p + 1, p, k, by go_num, rfl, rfl, Lib.hid (by have h3 := HG.out; have h4 := HP.out; omega), HU2, HBD⟩
            · go_wp2
              go_quiet (fail)
              have HBD := Lib.hid (below_dn HB2.out nq)
              have hu0 : ¬ l < k := by omega
              have HU2 := Lib.hid (HUP.out.2 hu0)
              clear hu0
              go_wp2
              go_roundg (n - (p + 1))
              case measure => have h3 := HG.out; have h4 := HP.out; omega
              case rel => exact ⟨p + 1, x, l, by go_num, rfl, rfl, Lib.hid (by have h3 := HG.out; have h4 := HP.out; omega), HU2, HBD⟩
        · have HN := Lib.hid (lcp_end HT.out (by rw [HDL.out]; have := HK.out; omega) (by rw [HXL.out.1]; exact HK.out.2) (fun h => by have h3 := h.1; rw [HDL.out] at h3; omega))
          have d1 : decide ((k : Int) < (np : Int)) = false := decide_eq_false h1
          have d0 : decide (k < np) = false := decide_eq_false (by omega)
          have HUP := Lib.hid (best_up HBE.out HN.out)
          by_cases hlt : (l : Int) < (k : Int)
          · go_wp2
            go_quiet (fail)
            have HBD := Lib.hid (below_dn HB2.out nq)
            have hu0 : l < k := by omega
            have HU2 := Lib.hid (HUP.out.1 hu0)
            clear hu0
            go_wp2
            go_roundg (n - (p + 1))
            case measure => have h3 := HG.out; have h4 := HP.out; omega
            case rel => exact ⟨p + 1, p, k, by go_num, rfl, rfl, Lib.hid (by have h3 := HG.out; have h4 := HP.out; omega), HU2, HBD⟩
          · go_wp2
            go_quiet (fail)
            have HBD := Lib.hid (below_dn HB2.out nq)
            have hu0 : ¬ l < k := by omega
            have HU2 := Lib.hid (HUP.out.2 hu0)
            clear hu0
            go_wp2
            go_roundg (n - (p + 1))
            case measure => have h3 := HG.out; have h4 := HP.out; omega
            case rel => exact ⟨p + 1, x, l, by go_num, rfl, rfl, Lib.hid (by have h3 := HG.out; have h4 := HP.out; omega), HU2, HBD⟩
    · have hpn : p = n := by have := HG.out; omega
      subst hpn
      go_wp2
      go_ret2
      rw [HBE.out]
      exact ⟨rfl, HBW.out⟩
end Go.Proofs.Ytheigemfbcgjcaa
