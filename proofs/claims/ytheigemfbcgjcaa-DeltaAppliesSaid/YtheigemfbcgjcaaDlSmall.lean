/-
  The walks of common, cut, lengths, Sizes, piece.
-/
import Derived.Test.YtheigemfbcgjcaaDlSort
import Derived.Test.YtheigemfbcgjcaaGet
import Derived.Deep.CutRange
import Derived.BigQuiet
namespace Go.Proofs.Ytheigemfbcgjcaa
open Go.RowKit

theorem results_four {fn : Func} {t u v x : Tmp} (h : fn.results = #[.tmp t, .tmp u, .tmp v, .tmp x]) (tmps : Array Value) (P : Program) (w : World) :
    (results fn tmps).run P w = .ok (.tuple #[tmps.getD t undef, tmps.getD u undef, tmps.getD v undef, tmps.getD x undef]) w := by
  simp [results, h]
theorem bcell {w : World} {b off n c : Nat} {l : List UInt8} (h : Bytes w (some ⟨b, off, none⟩) n c l) (j : Nat) (hj : j < n) : w.cell? ⟨b, off + j, none⟩ = some (.int .u8 ((l.getD j 0).toNat : Int)) := by
  rcases h.2.2.2 with h4 | ⟨b', off', ha, hc⟩
  · omega
  · simp only [Option.some.injEq, Addr.mk.injEq, and_true] at ha
    obtain ⟨rfl, rfl⟩ := ha
    exact hc j hj
theorem bsome {w : World} {a : Option Addr} {n c : Nat} {l : List UInt8} (h : Bytes w a n c l) (hn : 0 < c) : ∃ b off, a = some ⟨b, off, none⟩ := by
  rcases h.2.2.2 with h4 | ⟨b', off', ha, _⟩
  · omega
  · exact ⟨b', off', ha⟩
theorem below_dn {base : Nat} {w w' : World} (h : Below base w w') (n : Nat) : Below base w (w'.drewN n) := ⟨h.os, h.tape, h.output, h.size, h.block⟩
set_option maxRecDepth 100000 in
set_option maxHeartbeats 2000000 in
theorem common_any (a a' : Option Addr) (n c n' c' : Nat) (A C : List UInt8) (w : World) (h : Bytes w a n c A) (h' : Bytes w a' n' c' C) :
    Calls Try.prog 34 #[.slice a n c, .slice a' n' c'] w fun e w' => e = .returned (.int .i64 (lcpF A C : Nat)) ∧ Below w.heap.size w w' := by
  have HA := Lib.hid h
  have HC := Lib.hid h'
  have HLA := Lib.hid h.1
  have HLC := Lib.hid h'.1
  have hnI : (n : Int) ≤ 9223372036854775807 := by have := h.2.1; have := h.2.2.1; omega
  have hn0 : (0 : Int) ≤ (n : Int) := by omega
  have hm0 : (0 : Int) ≤ (n' : Int) := by omega
  have HNA := Lib.hid (show n ≤ c from h.2.1)
  have HNC := Lib.hid (show n' ≤ c' from h'.2.1)
  clear h h'
  go_enter Try.func34, Try.ntmps34
  go_wp2
  go_loopg [5] n (fun g v5 W => ∃ k : Nat, v5 = .int .i64 k ∧ g + k = n ∧ k ≤ n' ∧ Below w.heap.size w W ∧ Hid (A.take k = C.take k))
  case atStart => exact ⟨0, rfl, rfl, Nat.zero_le _, Below.refl _ _, Lib.hid rfl⟩
  case round =>
    obtain ⟨k, rfl, hg, hk, hbw, HT⟩ := hrel
    have HG := Lib.hid hg
    have HK := Lib.hid hk
    have hk0 : (0 : Int) ≤ (k : Int) := by omega
    have HB := Lib.hid hbw
    by_cases h1 : (k : Int) < (n : Int)
    · by_cases h2 : (k : Int) < (n' : Int)
      · obtain ⟨b, off, rfl⟩ := bsome HA.out (by have := HNA.out; omega)
        obtain ⟨b', off', rfl⟩ := bsome HC.out (by have := HNC.out; omega)
        obtain ⟨x, hx⟩ : ∃ x, x = A.getD k 0 := ⟨_, rfl⟩
        obtain ⟨y, hy⟩ : ∃ y, y = C.getD k 0 := ⟨_, rfl⟩
        have hc1 : wr.cell? ⟨b, off + k, none⟩ = some (.int .u8 (x.toNat : Int)) := by rw [hx]; exact bcell (HA.out.below hbw) k (by omega)
        have hc2 : wr.cell? ⟨b', off' + k, none⟩ = some (.int .u8 (y.toNat : Int)) := by rw [hy]; exact bcell (HC.out.below hbw) k (by omega)
        have HX := Lib.hid hx
        have HY := Lib.hid hy
        have HI := Lib.hid (show k < n ∧ k < n' by omega)
        by_cases he : x = y
        · subst he
          have hqe : ((x.toNat : Int) == (x.toNat : Int)) = true := by simp
          have HN := Lib.hid (lcp_step HT.out (by rw [HLA.out]; omega) (by rw [HLC.out]; omega) (HX.out.symm.trans HY.out))
          have hw1 : IntKind.i64.wrap ((k : Int) + 1) = (k : Int) + 1 := IntWalk.i64_in _ (by omega)
          clear hg hk hx hy
          go_wp2
          go_quiet (fail)
          have hbd := below_dn hbw nq
          go_wp2
          go_roundg (gk - 1)
          case measure => have := HG.out; have := HI.out; omega
          case rel => exact ⟨k + 1, by go_num, by have := HG.out; have := HI.out; omega, by have := HI.out; omega, hbd, HN⟩
        · have hqe : ((x.toNat : Int) == (y.toNat : Int)) = false := by rw [beq_eq_false_iff_ne]; intro h; exact he (UInt8.toNat_inj.1 (by omega))
          have HN := Lib.hid (lcp_end HT.out (by rw [HLA.out]; omega) (by rw [HLC.out]; omega) (fun h => he (by rw [HX.out, HY.out]; exact h.2.2)))
          clear hg hk hx hy
          go_wp2
          go_quiet (fail)
          have hbd := below_dn hbw nq
          go_wp2
          go_ret
          exact ⟨by rw [HN.out]; rfl, hbd⟩
      · have HN := Lib.hid (lcp_end HT.out (by rw [HLA.out]; omega) (by rw [HLC.out]; omega) (fun h => by rw [HLC.out] at h; omega))
        have d1 : decide ((k : Int) < (n' : Int)) = false := decide_eq_false h2
        have d0 : decide (k < n') = false := decide_eq_false (by omega)
        clear hg hk
        go_wp2
        go_quiet (fail)
        have hbd := below_dn hbw nq
        go_wp2
        go_ret
        exact ⟨by rw [HN.out]; rfl, hbd⟩
    · have HN := Lib.hid (lcp_end HT.out (by rw [HLA.out]; omega) (by rw [HLC.out]; omega) (fun h => by rw [HLA.out] at h; omega))
      have d1 : decide ((k : Int) < (n : Int)) = false := decide_eq_false h1
      have d0 : decide (k < n) = false := decide_eq_false (by omega)
      clear hg hk
      go_wp2
      go_quiet (fail)
      have hbd := below_dn hbw nq
      go_wp2
      go_ret
      exact ⟨by rw [HN.out]; rfl, hbd⟩
#print axioms common_any

/-- So many bytes from a place on, or none. -/
def cutF (b : List UInt8) (at_ k : Nat) : List UInt8 := if b.length < at_ + k then [] else (b.drop at_).take k
set_option maxRecDepth 100000 in
set_option maxHeartbeats 2000000 in
theorem cut_any (a : Option Addr) (n c at_ k : Nat) (A : List UInt8) (w : World) (h : Bytes w a n c A) (h1 : at_ < 9223372036854775808) (h2 : k < 9223372036854775808) :
    Calls Try.prog 40 #[.slice a n c, .int .i64 at_, .int .i64 k] w fun e w' => ∃ a' n' c', e = .returned (.slice a' n' c') ∧ Bytes w a' n' c' (cutF A at_ k) ∧ w = w' := by
  have HA := Lib.hid h
  have hnI : (n : Int) ≤ 9223372036854775807 := by have := h.2.1; have := h.2.2.1; omega
  have hcI : (c : Int) ≤ 9223372036854775807 := by have := h.2.2.1; omega
  have hnc : (n : Int) ≤ (c : Int) := by have := h.2.1; omega
  have hn0 : (0 : Int) ≤ (n : Int) := by omega
  have ha0 : (0 : Int) ≤ (at_ : Int) := by omega
  have hk0 : (0 : Int) ≤ (k : Int) := by omega
  have W1 : IntKind.i64.wrap ((n : Int) - (at_ : Int)) = (n : Int) - (at_ : Int) := IntWalk.i64_in _ (by omega)
  by_cases hc : (n : Int) - (at_ : Int) < (k : Int)
  · have HE : Hid (cutF A at_ k = []) := Lib.hid (by unfold cutF; rw [if_pos (by rw [h.1]; omega)])
    have d1 : decide ((n : Int) - (at_ : Int) < (k : Int)) = true := decide_eq_true hc
    clear h h1 h2
    go_enter Try.func40, Try.ntmps40
    go_wp2
    go_ret
    exact ⟨none, 0, 0, rfl, by rw [HE.out]; exact Bytes.nil _, rfl⟩
  · have d1 : decide ((n : Int) - (at_ : Int) < (k : Int)) = false := decide_eq_false hc
    have hle : at_ + k ≤ n := by omega
    have hleI : (at_ : Int) + (k : Int) ≤ (n : Int) := by omega
    have W2 : IntKind.i64.wrap ((at_ : Int) + (k : Int)) = (at_ : Int) + (k : Int) := IntWalk.i64_in _ (by omega)
    have HE : Hid (cutF A at_ k = (A.drop at_).take k) := Lib.hid (by unfold cutF; rw [if_neg (by rw [h.1]; omega)])
    have HLE := Lib.hid hle
    by_cases hcap : c = at_
    · have hk : k = 0 := by have := h.2.1; omega
      subst hcap
      subst hk
      have HN : Hid (cutF A c 0 = []) := Lib.hid (by rw [HE.out]; simp)
      clear h h1 h2
      go_enter Try.func40, Try.ntmps40
      go_wp2
      go_ret
      refine ⟨_, _, _, rfl, ?_, rfl⟩
      rw [HN.out]
      exact ⟨rfl, Nat.le_refl _, by omega, .inl ⟨rfl, rfl⟩⟩
    · obtain ⟨b, off, rfl⟩ := bsome h (by omega)
      have hcn : ¬ at_ = c := fun e => hcap e.symm
      have hcl : at_ + k ≤ c := by have := h.2.1; omega
      have HN := Lib.hid (h.cut at_ k hle)
      clear h h1 h2
      go_enter Try.func40, Try.ntmps40
      go_wp2
      go_ret
      refine ⟨_, _, _, rfl, ?_, rfl⟩
      rw [HE.out]
      exact HN.out
#print axioms cut_any

/-! ### What a delta tells -/
theorem getI_six {l : List UInt8} {at_ n u e : Nat} (hl : at_ ≤ l.length) (h : getI l (at_ : Int) = (n, u, e)) : e = 0 ∨ e = 6 := by
  unfold getI at h
  rw [if_neg (by omega)] at h
  unfold getR at h
  split at h
  · simp only [Prod.mk.injEq] at h; exact .inr h.2.2.symm
  · simp only [Prod.mk.injEq] at h; exact .inl h.2.2.symm
/-- Both lengths, where the pieces begin, an error's number. -/
def lenF (d : List UInt8) : Nat × Nat × Nat × Nat :=
  if (getI d 0).2.2 = 0 then
    if (getI d ((getI d 0).2.1 : Nat)).2.2 = 0 then ((getI d 0).1, (getI d ((getI d 0).2.1 : Nat)).1, (getI d ((getI d 0).2.1 : Nat)).2.1, 0) else (0, 0, 0, 6)
  else (0, 0, 0, 6)
/-- A piece's bytes, and where it ends. -/
def pieceF (base d : List UInt8) (at_ : Nat) : List UInt8 × Nat :=
  if (getI d (at_ : Nat)).2.2 = 0 then
    if (getI d (at_ : Nat)).1 % 2 = 0 then (cutF d (getI d (at_ : Nat)).2.1 ((getI d (at_ : Nat)).1 / 2), (getI d (at_ : Nat)).2.1 + (getI d (at_ : Nat)).1 / 2)
    else if (getI d ((getI d (at_ : Nat)).2.1 : Nat)).2.2 = 0 then (cutF base (getI d ((getI d (at_ : Nat)).2.1 : Nat)).1 ((getI d (at_ : Nat)).1 / 2), (getI d ((getI d (at_ : Nat)).2.1 : Nat)).2.1)
    else ([], 0)
  else ([], 0)
theorem getI_le {l : List UInt8} {at_ n u : Nat} (h : getI l (at_ : Int) = (n, u, 0)) : at_ < u ∧ u ≤ l.length ∧ n < 9223372036854775808 := by
  obtain ⟨_, h2, h3, h4, _⟩ := getI_ok h
  exact ⟨by omega, h3, by omega⟩
set_option maxRecDepth 100000 in
set_option maxHeartbeats 2000000 in
theorem lengths_any (a : Option Addr) (n c : Nat) (D : List UInt8) (w : World) (h : Bytes w a n c D) (b t y er : Nat) (hZ : lenF D = (b, t, y, er)) :
    Calls Try.prog 24 #[.slice a n c] w fun e w' => e = .returned (.tuple #[.int .i64 b, .int .i64 t, .int .i64 y, .int .i64 er]) ∧ w = w' := by
  rcases hq1 : getI D 0 with ⟨b1, x1, e1⟩
  have HG1 := Lib.hid (get_any a n c D 0 w h b1 x1 e1 hq1)
  rcases getI_six (at_ := 0) (Nat.zero_le _) hq1 with rfl | rfl
  · rcases hq2 : getI D (x1 : Int) with ⟨b2, x2, e2⟩
    have HG2 := Lib.hid (get_any a n c D x1 w h b2 x2 e2 hq2)
    have hx1 := (getI_le (at_ := 0) hq1).2.1
    rcases getI_six hx1 hq2 with rfl | rfl
    · have e : lenF D = (b1, b2, x2, 0) := by unfold lenF; rw [hq1]; simp only [if_true]; rw [hq2]; simp only [if_true]
      rw [e] at hZ
      obtain ⟨rfl, rfl, rfl, rfl⟩ : b1 = b ∧ b2 = t ∧ x2 = y ∧ 0 = er := by simpa using hZ
      clear hZ e hq1 hq2 h hx1
      go_enter Try.func24, Try.ntmps24
      go_wp2_with (first
        | (go_at_call 39; (with_reducible refine HG1.out.mono ?_); rintro e w1 ⟨rfl, rfl⟩)
        | (go_at_call 39; (with_reducible refine HG2.out.mono ?_); rintro e w1 ⟨rfl, rfl⟩))
      refine bodyPost_ret (results_four rfl _ _ _) rfl ?_
      exact ⟨rfl, rfl⟩
    · have e : lenF D = (0, 0, 0, 6) := by unfold lenF; rw [hq1]; simp only [if_true]; rw [hq2]; rfl
      rw [e] at hZ
      obtain ⟨rfl, rfl, rfl, rfl⟩ : 0 = b ∧ 0 = t ∧ 0 = y ∧ 6 = er := by simpa using hZ
      clear hZ e hq1 hq2 h hx1
      go_enter Try.func24, Try.ntmps24
      go_wp2_with (first
        | (go_at_call 39; (with_reducible refine HG1.out.mono ?_); rintro e w1 ⟨rfl, rfl⟩)
        | (go_at_call 39; (with_reducible refine HG2.out.mono ?_); rintro e w1 ⟨rfl, rfl⟩))
      refine bodyPost_ret (results_four rfl _ _ _) rfl ?_
      exact ⟨rfl, rfl⟩
  · have e : lenF D = (0, 0, 0, 6) := by unfold lenF; rw [hq1]; rfl
    rw [e] at hZ
    obtain ⟨rfl, rfl, rfl, rfl⟩ : 0 = b ∧ 0 = t ∧ 0 = y ∧ 6 = er := by simpa using hZ
    clear hZ e hq1 h
    go_enter Try.func24, Try.ntmps24
    go_wp2_with (go_at_call 39; (with_reducible refine HG1.out.mono ?_); rintro e w1 ⟨rfl, rfl⟩)
    refine bodyPost_ret (results_four rfl _ _ _) rfl ?_
    exact ⟨rfl, rfl⟩
#print axioms lengths_any
set_option maxRecDepth 100000 in
theorem sizes_any (a : Option Addr) (n c : Nat) (D : List UInt8) (w : World) (h : Bytes w a n c D) (b t y er : Nat) (hZ : lenF D = (b, t, y, er)) :
    Calls Try.prog 14 #[.slice a n c] w fun e w' => e = .returned (.tuple #[.int .i64 b, .int .i64 t, .int .i64 er]) ∧ w = w' := by
  have HL := Lib.hid (lengths_any a n c D w h b t y er hZ)
  clear h hZ
  go_enter Try.func14, Try.ntmps14
  go_wp2_with (go_at_call 24; (with_reducible refine HL.out.mono ?_); rintro e w1 ⟨rfl, rfl⟩)
  go_ret3
  exact ⟨rfl, rfl⟩
end Go.Proofs.Ytheigemfbcgjcaa
