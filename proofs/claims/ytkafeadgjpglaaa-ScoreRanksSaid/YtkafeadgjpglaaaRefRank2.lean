/-
  The walk of the document's Rank.
-/
import Derived.Test.YtkafeadgjpglaaaRefRank
namespace Go.Proofs.Ytkafeadgjpglaaa
open Go.RowKit

theorem place_of {L S : List Nat} (h64 : W64 L) (hS : Ranked L S) {i : Nat} (hi : i < L.length) : cntF L L.length i < S.length ∧ S.getD (cntF L L.length i) 0 = i := by
  have hm : i ∈ S := hS.1.mem_iff.2 (List.mem_range.2 hi)
  obtain ⟨p, hp, he⟩ := List.mem_iff_getElem.1 hm
  have e : S.getD p 0 = i := by simp [hp, he]
  have h1 := cnt_at h64 hS hp
  rw [e] at h1
  rw [h1]
  exact ⟨hp, e⟩
theorem laid_next {L S R : List Nat} (h64 : W64 L) (hS : Ranked L S) (hR : R.length = L.length) {i : Nat} (hi : i < L.length) (h : ∀ p, p < L.length → S.getD p 0 < i → R.getD p 0 = S.getD p 0) :
    ∀ p, p < L.length → S.getD p 0 < i + 1 → (R.set (cntF L L.length i) i).getD p 0 = S.getD p 0 := by
  intro p hp hlt
  obtain ⟨h1, h2⟩ := place_of h64 hS hi
  have hl : S.length = L.length := hS.length
  by_cases hpc : p = cntF L L.length i
  · rw [hpc, h2]
    simp only [List.getD_eq_getElem?_getD]
    rw [List.getElem?_set_self (by omega)]
    rfl
  · have hne : S.getD p 0 ≠ i := fun he => hpc (by
      have := cnt_at h64 hS (p := p) (by omega)
      rw [he] at this
      exact this.symm)
    have e : (R.set (cntF L L.length i) i).getD p 0 = R.getD p 0 := by
      simp only [List.getD_eq_getElem?_getD]
      rw [List.getElem?_set_ne (by omega)]
    rw [e]
    exact h p hp (by omega)
theorem laid_all {L S R : List Nat} (hS : Ranked L S) (hR : R.length = L.length) (h : ∀ p, p < L.length → S.getD p 0 < L.length → R.getD p 0 = S.getD p 0) : R = S := by
  have hl : S.length = L.length := hS.length
  apply List.ext_getElem
  · omega
  · intro p h1 h2
    have h3 : S.getD p 0 < L.length := by
      simp only [List.getD_eq_getElem?_getD, List.getElem?_eq_getElem h2, Option.getD_some]
      exact hS.lt (List.getElem_mem h2)
    have := h p (by omega) h3
    simpa [h1, h2] using this
theorem at_rowN {w : World} {base g n c j : Nat} {Q : List Nat} (h : Own1 N 3 w base (.slice (some ⟨g, 0, none⟩) n c) Q) (hj : j < n) : (∃ y : Nat, w.cell? ⟨g, j, none⟩ = some (.int .i64 (y : Int))) ∧ w.frozen? ⟨g, j, none⟩ = false := by
  refine ⟨⟨Q.getD j 0, ?_⟩, ?_⟩
  · have := h.at1.cell j hj
    rwa [Nat.zero_add] at this
  · obtain ⟨_, hgr, _, _, _, hfr⟩ := h.row (by omega)
    simp only [Option.some.injEq, Addr.mk.injEq, and_true] at hgr
    rw [hgr]; exact hfr j

set_option maxRecDepth 100000 in
set_option maxHeartbeats 2000000 in
theorem refRank_any (a : Option Addr) (n c : Nat) (L : List Nat) (w : World) (hL : At1 F w a n c L) (h64 : W64 L) (hn : n ≤ 1000000000) : Calls Try.prog 26 #[.slice a n c] w (Ints1 n (rankS L) w) := by
  have HL := Lib.hid hL
  have H64 := Lib.hid h64
  have HN := Lib.hid hn
  have HLN := Lib.hid hL.1
  have hnI : (n : Int) ≤ 1000000000 := by omega
  have hn0 : (0 : Int) ≤ (n : Int) := by omega
  obtain ⟨S, hS⟩ : ∃ S, S = rankS L := ⟨_, rfl⟩
  have HS := Lib.hid (show Ranked L S by rw [hS]; exact rankS_ranked h64)
  rw [← hS]
  clear hL h64 hn hS
  go_enter Try.func26, Try.ntmps26
  go_wp2_with (at_make; go_must (refine make1 N Try.underlying33 infoN rfl rfl _ _ rfl n rfl rfl HN.out (by decide) ?_); intro w2 hz hgz)
  have HZ := Lib.hid hz
  have HB2 := Lib.hid ((Below.refl w.heap.size w).grown hgz (Nat.le_refl _) (fun k hk => by cases hk))
  clear hz hgz
  go_loopg [4] n (fun g v4 W => ∃ (i : Nat) (R : List Nat), v4 = .int .i64 i ∧ g + i = n ∧ Below w.heap.size w W ∧ Hid (Own1 N 3 W w.heap.size (.slice (some ⟨w.heap.size, 0, none⟩) n n) R) ∧ Hid (∀ p, p < L.length → S.getD p 0 < i → R.getD p 0 = S.getD p 0))
  case atStart => exact ⟨0, _, rfl, rfl, HB2.out, HZ, Lib.hid (fun p hp h => by omega)⟩
  case round =>
    clear HZ HB2
    obtain ⟨i, R, rfl, hg, hbw, HO, HQ⟩ := hrel
    obtain ⟨wo, rfl⟩ : ∃ wo : World, wo = wr := ⟨_, rfl⟩
    have HG := Lib.hid hg
    have hi0 : (0 : Int) ≤ (i : Int) := by omega
    have hiI : (i : Int) ≤ (n : Int) := by omega
    have HBW := Lib.hid hbw
    by_cases hi : (i : Int) < (n : Int)
    · have HI := Lib.hid (show i < n by omega)
      have HPL := Lib.hid (place_of H64.out HS.out (i := i) (by rw [HLN.out]; exact HI.out))
      clear hg hbw
      go_wp2
      go_loopg [5, 6] n (fun g v5 v6 W => ∃ (m q : Nat), v5 = .int .i64 q ∧ v6 = .int .i64 m ∧ g + m = n ∧ Below wo.heap.size wo W ∧ Hid (q = cntF L m i))
      case atStart => exact ⟨0, 0, rfl, rfl, rfl, Below.refl _ _, Lib.hid rfl⟩
      case round =>
        obtain ⟨m, q, rfl, rfl, hg, hbw, HC⟩ := hrel
        have HG2 := Lib.hid hg
        have hm0 : (0 : Int) ≤ (m : Int) := by omega
        have hmI : (m : Int) ≤ (n : Int) := by omega
        have HBI := Lib.hid hbw
        by_cases hm : (m : Int) < (n : Int)
        · have HM := Lib.hid (show m < n by omega)
          have hqm : q ≤ m := by rw [HC.out]; unfold cntF; exact Nat.le_trans List.countP_le_length (by simp)
          have hq1 : (q : Int) ≤ 1000000000 := by omega
          have HA := fun W => Lib.hid (fun hW : Below wo.heap.size wo W => ahead_any a n c L m i W (HL.out.below (Below.trans HBW.out (hW.mono HBW.out.size))) H64.out HN.out HM.out HI.out)
          obtain ⟨r, hr⟩ : ∃ r, r = decide (rankF L m i < 0) := ⟨_, rfl⟩
          have HRE := Lib.hid hr
          simp only [← hr] at HA
          clear hg hbw hqm hr
          rcases r with _ | _
          · have HCN := Lib.hid (show q = cntF L (m + 1) i by rw [cntF_next, if_neg (of_decide_eq_false HRE.out.symm), HC.out, Nat.add_zero])
            go_wp2_with (go_at_call 66; (with_reducible refine ((HA _).out HBI.out).mono ?_); rintro e w4 ⟨rfl, hb4⟩; have HB4 := Lib.hid (Below.step HBI.out hb4); clear hb4)
            go_roundg (n - (m + 1))
            case measure => have := HG2.out; have := HM.out; omega
            case rel => exact ⟨m + 1, q, rfl, by go_num, by have := HM.out; omega, HB4.out, HCN⟩
          · have HCN := Lib.hid (show q + 1 = cntF L (m + 1) i by rw [cntF_next, if_pos (of_decide_eq_true HRE.out.symm), HC.out])
            go_wp2_with (go_at_call 66; (with_reducible refine ((HA _).out HBI.out).mono ?_); rintro e w4 ⟨rfl, hb4⟩; have HB4 := Lib.hid (Below.step HBI.out hb4); clear hb4)
            go_roundg (n - (m + 1))
            case measure => have := HG2.out; have := HM.out; omega
            case rel => exact ⟨m + 1, q + 1, by go_num, by go_num, by have := HM.out; omega, HB4.out, HCN⟩
        · have hmn : m = n := by omega
          have hqe : q = cntF L L.length i := by rw [HC.out, hmn, HLN.out]
          have hqn : q < n := by rw [hqe]; have := HPL.out.1; rw [HS.out.length] at this; rw [HLN.out] at this ⊢; exact this
          have hq0 : (0 : Int) ≤ (q : Int) := by omega
          have hqI : (q : Int) < (n : Int) := by omega
          obtain ⟨⟨y, hcy⟩, hfz⟩ := at_rowN (HO.out.below hbw) hqn
          have HQE := Lib.hid hqe
          clear hg hqe hbw hmn
          go_wp2
          have HO2 := Lib.hid ((HO.out.below HBI.out).store HO.out.len q i)
          have HBN := Lib.hid (show Below w.heap.size w (wr.setCell ⟨w.heap.size, q, none⟩ (.int .i64 (i : Int))) from (Below.trans HBW.out (HBI.out.mono HBW.out.size)).setCell (Nat.le_refl _) _)
          have HQ2 := Lib.hid (laid_next H64.out HS.out (by rw [HLN.out]; exact HO.out.len) (i := i) (by rw [HLN.out]; exact HI.out) HQ.out)
          rw [← HQE.out] at HQ2
          go_roundg (n - (i + 1))
          case measure => have := HG.out; have := HI.out; omega
          case rel => exact ⟨i + 1, R.set q i, by go_num, by have := HI.out; omega, HBN.out, HO2, HQ2⟩
    · have hjn : i = n := by omega
      subst hjn
      have HE := Lib.hid (show R = S from laid_all HS.out (by rw [HLN.out]; exact HO.out.len) (by rw [HLN.out] at HQ ⊢; exact HQ.out))
      clear hg
      go_wp2
      go_ret
      rw [← HE.out]
      exact ⟨_, _, rfl, HO.out.at1, hbw, fun b off h => by cases h; exact Nat.le_refl _⟩
end Go.Proofs.Ytkafeadgjpglaaa
