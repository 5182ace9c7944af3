/-
  Near walked.
-/
import Derived.Test.YtbfaaphijgmabaaDoorMyAround
import Derived.StillTailTactics
namespace Go.Proofs.YtbfaaphijgmabaaDoor
open Go.RowKit My

theorem lstC_one (low : Int) (a : Option Addr) (n c : Nat) : ∀ v ∈ lstC low a n c, v.oneCell' = true := fun v hv => by
  simp only [List.mem_cons, List.not_mem_nil, or_false] at hv
  rcases hv with rfl | rfl <;> rfl
/-- A list handed back. -/
def LstIs (w : World) (low : Int) (l : List Int) (e : Ending) (w' : World) : Prop := ∃ a n c, e = .returned (.agg #[.int .i64 low, .slice a n c]) ∧ Lst w' a n c l ∧ Below w.heap.size w w'
theorem near_small {l : List Int} (h : ∀ i, -1 ≤ l.getD i 0 ∧ l.getD i 0 ≤ 8192) (low cc : Int) : ∀ i, -1 ≤ (nearL low l cc).getD i 0 ∧ (nearL low l cc).getD i 0 ≤ 8192 := by
  intro i
  by_cases hi : i < (nearL low l cc).length
  · have hi2 := hi
    unfold nearL at hi ⊢
    rw [List.length_take, List.length_drop] at hi
    simp only [List.getD_eq_getElem?_getD]
    rw [List.getElem?_take_of_lt (by omega), List.getElem?_drop]
    have := h ((nearA low cc).toNat + i)
    rwa [List.getD_eq_getElem?_getD] at this
  · rw [List.getD_eq_getElem?_getD, List.getElem?_eq_none (by omega)]
    exact ⟨by decide, by decide⟩
theorem Lst.near {w : World} {b off n c : Nat} {l : List Int} (h : Lst w (some ⟨b, off, none⟩) n c l) (low cc : Int) (A Z : Nat) (hA : nearA low cc = (A : Int)) (hZ : nearZ low l cc = (Z : Int)) (hr : A + Z + 1 ≤ n) (k : Nat) (hk : k = n - Z - A) (c' : Nat) (hc : k ≤ c') (hc2 : c' ≤ c) :
    Lst w (some ⟨b, off + A, none⟩) k c' (nearL low l cc) := by
  obtain ⟨h1, h2, h3, h4⟩ := h.runs
  have hlen : (nearL low l cc).length = k := by unfold nearL; rw [List.length_take, List.length_drop, hA, hZ, h1]; simp; omega
  refine ⟨fun b' off' e => ?_, ⟨hlen, hc, by omega, .inr ⟨b, off + A, rfl, fun j hj => ?_⟩⟩, near_small h.small low cc, by have := h.few; omega⟩
  · simp only [Option.some.injEq, Addr.mk.injEq, and_true] at e
    obtain ⟨rfl, _⟩ := e
    exact h.typed _ _ rfl
  rcases h4 with ⟨h4, _⟩ | ⟨b', off', ha, h4⟩
  · omega
  · simp only [Option.some.injEq, Addr.mk.injEq, and_true] at ha
    obtain ⟨rfl, rfl⟩ := ha
    have := h4 (A + j) (by omega)
    rw [← Nat.add_assoc] at this
    rw [this]
    have e : (nearL low l cc).getD j 0 = l.getD (A + j) 0 := by
      unfold nearL
      simp only [List.getD_eq_getElem?_getD]
      rw [List.getElem?_take_of_lt (by rw [hA, hZ, h1]; simp; omega), List.getElem?_drop, hA]; rfl
    rw [e]
set_option maxRecDepth 100000 in
set_option maxHeartbeats 2000000 in
theorem near_any (low cc : Int) (a : Option Addr) (n c : Nat) (l : List Int) (w : World) (h : Lst w a n c l) (hlo : -8192 ≤ low) (hhi : low ≤ 8192) (hc0 : -8192 ≤ cc) (hc1 : cc ≤ 8192) (hA0 : 0 ≤ nearA low cc) (hZ0 : 0 ≤ nearZ low l cc) (hr : nearA low cc + nearZ low l cc + 1 ≤ l.length) :
    Calls Tryd.prog 47 #[.agg #[.int .i64 low, .slice a n c], .int .i64 cc, .int .i64 64] w (LstIs w (low + 2 * nearA low cc) (nearL low l cc)) := by
  obtain ⟨A, hA⟩ : ∃ A : Nat, nearA low cc = A := ⟨(nearA low cc).toNat, by omega⟩
  obtain ⟨Z, hZ⟩ : ∃ Z : Nat, nearZ low l cc = Z := ⟨(nearZ low l cc).toNat, by omega⟩
  have hlen := h.runs.1
  have hfew := h.few
  obtain ⟨b, off, rfl⟩ : ∃ b off, a = some ⟨b, off, none⟩ := by
    rcases h.runs.2.2.2 with ⟨h0, _⟩ | ⟨b, off, ha, _⟩
    · omega
    · exact ⟨b, off, ha⟩
  have hnc := h.runs.2.1
  have hcc := h.runs.2.2.1
  have HL := Lib.hid h
  have HA := Lib.hid hA
  have HZ := Lib.hid hZ
  have HR := Lib.hid (show A + Z + 1 ≤ n by omega)
  have HH := Lib.hid (fun W => high_any low (some ⟨b, off, none⟩) n c W (by omega) hlo hhi)
  have EA := Lib.hid (show (if 0 < cc - 64 - low + 1 then cc - 64 - low + 1 else 0) / 2 = (A : Int) by rw [← hA]; unfold nearA; split <;> omega)
  have EZ := Lib.hid (show (if 0 < low + 2 * (n : Int) - 2 - cc - 64 + 1 then low + 2 * (n : Int) - 2 - cc - 64 + 1 else 0) / 2 = (Z : Int) by rw [← hZ]; unfold nearZ; rw [hlen]; split <;> omega)
  obtain ⟨ma, hma⟩ : ∃ m, (if 0 < cc - 64 - low + 1 then cc - 64 - low + 1 else 0) = m := ⟨_, rfl⟩
  obtain ⟨mz, hmz⟩ : ∃ m, (if 0 < low + 2 * (n : Int) - 2 - cc - 64 + 1 then low + 2 * (n : Int) - 2 - cc - 64 + 1 else 0) = m := ⟨_, rfl⟩
  rw [hma] at EA
  rw [hmz] at EZ
  have HMA := Lib.hid hma.symm
  have HMZ := Lib.hid hmz.symm
  have bma : 0 ≤ ma ∧ ma ≤ 40000 := by rw [← hma]; split <;> omega
  have bmz : 0 ≤ mz ∧ mz ≤ 40000 := by rw [← hmz]; split <;> omega
  obtain ⟨bma0, bma1⟩ := bma
  obtain ⟨bmz0, bmz1⟩ := bmz
  have hnI : (n : Int) ≤ 8193 := by omega
  have hcA : ¬ c = A := by omega
  have hcA' : ¬ A = c := by omega
  have hAn : (A : Int) ≤ 8192 := by omega
  have hZn : (Z : Int) ≤ 8192 := by omega
  have W1 := Lib.hid (IntWalk.i64_in (2 * (A : Int)) (by omega))
  have W2 := Lib.hid (IntWalk.i64_in (low + 2 * (A : Int)) (by omega))
  have HS := Lib.hid (show (n : Int) - Z = ((n - Z : Nat) : Int) by omega)
  obtain ⟨E1, hE1⟩ : ∃ E1, n - Z = E1 := ⟨_, rfl⟩
  rw [hE1] at HS
  have W3 := Lib.hid (IntWalk.i64_in ((E1 : Nat) : Int) (by omega))
  have hE2 : E1 ≤ c := by omega
  have hE3 : A ≤ E1 := by omega
  have HE := Lib.hid hE1
  clear h hA0 hZ0 hr hA hZ hma hmz hnc hcc hlen hfew hE1
  go_enter Tryd.func47, Tryd.ntmps47
  go_wp2_with (first
    | (refine box_row rfl 77 (.tmp 0) (lstC low (some ⟨b, off, none⟩) n c) rfl rfl ?_; intro w1 hr1 hb1 hs1; have HB1 := Lib.hid hb1; have R1 := Lib.hid hr1; have c0 := R1.out.cell 0 rfl; have c1 := R1.out.cell 1 rfl; clear hr1 hb1 hs1)
    | (refine alloc_row rfl 77 (lstC 0 none 0 0) rfl (by intro w; kernel_rfl) ?_; intro w2 hr2 hb2 hs2; have HB2 := Lib.hid (HB1.out.trans (hb2.mono HB1.out.size)); have R2 := Lib.hid (R1.out.below hb2); have Q2 := Lib.hid hr2; clear c0 c1; have c0 := R2.out.cell 0 rfl; have c1 := R2.out.cell 1 rfl; clear hr2 hb2)
    | ((with_reducible show wpList _ _ _ (⟨some 16, _, _, _, _, _⟩ :: _) _ _); refine wl_maxI rfl _ _ _ rfl 0 (cc - 64 - low + 1) ma rfl rfl HMA.out ?_; have y1 := EA.out)
    | (go_at_call 51; (with_reducible refine (HH.out _).mono ?_); rintro e w3 ⟨rfl, hb2⟩; clear y1)
    | ((with_reducible show wpList _ _ _ (⟨some 25, _, _, _, _, _⟩ :: _) _ _); refine wl_maxI rfl _ _ _ rfl 0 (low + 2 * (n : Int) - 2 - cc - 64 + 1) mz rfl rfl HMZ.out ?_; have y2 := EZ.out))
  have hb3 := hb2
  have HB3 := Lib.hid (HB2.out.trans (hb3.mono HB2.out.size))
  have R3 := Lib.hid (R2.out.below hb3)
  have Q3 := Lib.hid (Q2.out.below hb3)
  have d0 := R3.out.cell 0 rfl
  have d1 := R3.out.cell 1 rfl
  clear c0 c1 hb2 hb3
  have x1 := W1.out
  have x2 := W2.out
  have x3 := W3.out
  have x4 := HS.out
  rw [EA.out]
  go_still_tail 15, (by kernel_rfl)
  change wpList _ _ _ _ _ w3.drew
  go_wp2_with (refine store_row rfl 77 _ _ rfl w1.heap.size _ (lstC 0 none 0 0) (lstC (low + 2 * (A : Int)) (some ⟨b, off + A, none⟩) (E1 - A) (c - A)) rfl rfl Q3.out rfl infoL (lstC_one _ _ _ _) ?_; intro w4 hr4 hg4 _)
  have HB4 := Lib.hid (HB3.out.drew.grown hg4 HB3.out.size (fun k hk => by cases hk; exact HB1.out.size))
  exact bodyPost_ret (results_row rfl _ _ w1.heap.size _ _ _ rfl hr4 Tryd.underlying77 rfl infoL) rfl ⟨_, _, _, by rw [HA.out], (HL.out.below HB4.out).near low cc A Z HA.out HZ.out HR.out _ (by have := HE.out; have := HR.out; omega) _ (by have := HE.out; omega) (by omega), HB4.out⟩
#print axioms near_any
end Go.Proofs.YtbfaaphijgmabaaDoor
