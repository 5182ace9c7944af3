/-
  Merged: MyNearW, MyTry.
-/
import Derived.Test.YtfoalaoanpbmeaaDoorGrp4
import Derived.StillTailTactics
import Derived.Deep.LoopGhost
namespace Go.Proofs.YtfoalaoanpbmeaaDoor
open Go.RowKit My

theorem lstC_one (low : Int) (a : Option Addr) (n c : Nat) : ∀ v ∈ lstC low a n c, v.oneCell' = true := fun v hv => by
  simp only [List.mem_cons, List.not_mem_nil, or_false] at hv
  rcases hv with rfl | rfl <;> rfl
/-- A list handed back. -/
def LstIs (w : World) (low : Int) (l : List Int) (e : Ending) (w' : World) : Prop := ∃ a n c, e = .returned (.agg #[.int .i64 low, .slice a n c]) ∧ Lst w' a n c l ∧ Below w.heap.size w w'
theorem near_small {l : List Int} (h : ∀ i, -1 ≤ l.getD i 0 ∧ l.getD i 0 ≤ 8192) (low cc : Int) : ∀ i, -1 ≤ (nearL low l cc).getD i 0 ∧ (nearL low l cc).getD i 0 ≤ 8192 := by
  intro i
  by_cases hi : i < (nearL low l cc).length
  · have hi2 := hi
    unfold nearL at hi ⊢
    rw [List.length_take, List.length_drop] at hi
    simp only [List.getD_eq_getElem?_getD]
    rw [List.getElem?_take_of_lt (by omega), List.getElem?_drop]
    have := h ((nearA low cc).toNat + i)
    rwa [List.getD_eq_getElem?_getD] at this
  · rw [List.getD_eq_getElem?_getD, List.getElem?_eq_none (by omega)]
    exact ⟨by decide, by decide⟩
theorem Lst.near {w : World} {b off n c : Nat} {l : List Int} (h : Lst w (some ⟨b, off, none⟩) n c l) (low cc : Int) (A Z : Nat) (hA : nearA low cc = (A : Int)) (hZ : nearZ low l cc = (Z : Int)) (hr : A + Z + 1 ≤ n) (k : Nat) (hk : k = n - Z - A) (c' : Nat) (hc : k ≤ c') (hc2 : c' ≤ c) :
    Lst w (some ⟨b, off + A, none⟩) k c' (nearL low l cc) := by
  obtain ⟨h1, h2, h3, h4⟩ := h.runs
  have hlen : (nearL low l cc).length = k := by unfold nearL; rw [List.length_take, List.length_drop, hA, hZ, h1]; simp; omega
  refine ⟨fun b' off' e => ?_, ⟨hlen, hc, by omega, .inr ⟨b, off + A, rfl, fun j hj => ?_⟩⟩, near_small h.small low cc, by have := h.few; omega⟩
  · simp only [Option.some.injEq, Addr.mk.injEq, and_true] at e
    obtain ⟨rfl, _⟩ := e
    exact h.typed _ _ rfl
  rcases h4 with ⟨h4, _⟩ | ⟨b', off', ha, h4⟩
  · omega
  · simp only [Option.some.injEq, Addr.mk.injEq, and_true] at ha
    obtain ⟨rfl, rfl⟩ := ha
    have := h4 (A + j) (by omega)
    rw [← Nat.add_assoc] at this
    rw [this]
    have e : (nearL low l cc).getD j 0 = l.getD (A + j) 0 := by
      unfold nearL
      simp only [List.getD_eq_getElem?_getD]
      rw [List.getElem?_take_of_lt (by rw [hA, hZ, h1]; simp; omega), List.getElem?_drop, hA]; rfl
    rw [e]
set_option maxRecDepth 100000 in
set_option maxHeartbeats 2000000 in
theorem near_any (low cc : Int) (a : Option Addr) (n c : Nat) (l : List Int) (w : World) (h : Lst w a n c l) (hlo : -8192 ≤ low) (hhi : low ≤ 8192) (hc0 : -8192 ≤ cc) (hc1 : cc ≤ 8192) (hA0 : 0 ≤ nearA low cc) (hZ0 : 0 ≤ nearZ low l cc) (hr : nearA low cc + nearZ low l cc + 1 ≤ l.length) :
    Calls Tryd.prog 97 #[.agg #[.int .i64 low, .slice a n c], .int .i64 cc, .int .i64 64] w (LstIs w (low + 2 * nearA low cc) (nearL low l cc)) := by
  obtain ⟨A, hA⟩ : ∃ A : Nat, nearA low cc = A := ⟨(nearA low cc).toNat, by omega⟩
  obtain ⟨Z, hZ⟩ : ∃ Z : Nat, nearZ low l cc = Z := ⟨(nearZ low l cc).toNat, by omega⟩
  have hlen := h.runs.1
  have hfew := h.few
  obtain ⟨b, off, rfl⟩ : ∃ b off, a = some ⟨b, off, none⟩ := by
    rcases h.runs.2.2.2 with ⟨h0, _⟩ | ⟨b, off, ha, _⟩
    · omega
    · exact ⟨b, off, ha⟩
  have hnc := h.runs.2.1
  have hcc := h.runs.2.2.1
  have HL := Lib.hid h
  have HA := Lib.hid hA
  have HZ := Lib.hid hZ
  have HR := Lib.hid (show A + Z + 1 ≤ n by omega)
  have HH := Lib.hid (fun W => high_any low (some ⟨b, off, none⟩) n c W (by omega) hlo hhi)
  have EA := Lib.hid (show (if 0 < cc - 64 - low + 1 then cc - 64 - low + 1 else 0) / 2 = (A : Int) by rw [← hA]; unfold nearA; split <;> omega)
  have EZ := Lib.hid (show (if 0 < low + 2 * (n : Int) - 2 - cc - 64 + 1 then low + 2 * (n : Int) - 2 - cc - 64 + 1 else 0) / 2 = (Z : Int) by rw [← hZ]; unfold nearZ; rw [hlen]; split <;> omega)
  obtain ⟨ma, hma⟩ : ∃ m, (if 0 < cc - 64 - low + 1 then cc - 64 - low + 1 else 0) = m := ⟨_, rfl⟩
  obtain ⟨mz, hmz⟩ : ∃ m, (if 0 < low + 2 * (n : Int) - 2 - cc - 64 + 1 then low + 2 * (n : Int) - 2 - cc - 64 + 1 else 0) = m := ⟨_, rfl⟩
  rw [hma] at EA
  rw [hmz] at EZ
  have HMA := Lib.hid hma.symm
  have HMZ := Lib.hid hmz.symm
  have bma : 0 ≤ ma ∧ ma ≤ 40000 := by rw [← hma]; split <;> omega
  have bmz : 0 ≤ mz ∧ mz ≤ 40000 := by rw [← hmz]; split <;> omega
  obtain ⟨bma0, bma1⟩ := bma
  obtain ⟨bmz0, bmz1⟩ := bmz
  have hnI : (n : Int) ≤ 8193 := by omega
  have hcA : ¬ c = A := by omega
  have hcA' : ¬ A = c := by omega
  have hAn : (A : Int) ≤ 8192 := by omega
  have hZn : (Z : Int) ≤ 8192 := by omega
  have W1 := Lib.hid (IntWalk.i64_in (2 * (A : Int)) (by omega))
  have W2 := Lib.hid (IntWalk.i64_in (low + 2 * (A : Int)) (by omega))
  have HS := Lib.hid (show (n : Int) - Z = ((n - Z : Nat) : Int) by omega)
  obtain ⟨E1, hE1⟩ : ∃ E1, n - Z = E1 := ⟨_, rfl⟩
  rw [hE1] at HS
  have W3 := Lib.hid (IntWalk.i64_in ((E1 : Nat) : Int) (by omega))
  have hE2 : E1 ≤ c := by omega
  have hE3 : A ≤ E1 := by omega
  have HE := Lib.hid hE1
  clear h hA0 hZ0 hr hA hZ hma hmz hnc hcc hlen hfew hE1
  go_enter Tryd.func97, Tryd.ntmps97
  go_wp2_with (first
    | (refine box_row rfl 132 (.tmp 0) (lstC low (some ⟨b, off, none⟩) n c) rfl rfl ?_; intro w1 hr1 hb1 hs1; have HB1 := Lib.hid hb1; have R1 := Lib.hid hr1; have c0 := R1.out.cell 0 rfl; have c1 := R1.out.cell 1 rfl; clear hr1 hb1 hs1)
    | (refine alloc_row rfl 132 (lstC 0 none 0 0) rfl (by intro w; kernel_rfl) ?_; intro w2 hr2 hb2 hs2; have HB2 := Lib.hid (HB1.out.trans (hb2.mono HB1.out.size)); have R2 := Lib.hid (R1.out.below hb2); have Q2 := Lib.hid hr2; clear c0 c1; have c0 := R2.out.cell 0 rfl; have c1 := R2.out.cell 1 rfl; clear hr2 hb2)
    | ((with_reducible show wpList _ _ _ (⟨some 16, _, _, _, _, _⟩ :: _) _ _); refine wl_maxI rfl _ _ _ rfl 0 (cc - 64 - low + 1) ma rfl rfl HMA.out ?_; have y1 := EA.out)
    | (go_at_call 107; (with_reducible refine (HH.out _).mono ?_); rintro e w3 ⟨rfl, hb2⟩; clear y1)
    | ((with_reducible show wpList _ _ _ (⟨some 25, _, _, _, _, _⟩ :: _) _ _); refine wl_maxI rfl _ _ _ rfl 0 (low + 2 * (n : Int) - 2 - cc - 64 + 1) mz rfl rfl HMZ.out ?_; have y2 := EZ.out))
  have hb3 := hb2
  have HB3 := Lib.hid (HB2.out.trans (hb3.mono HB2.out.size))
  have R3 := Lib.hid (R2.out.below hb3)
  have Q3 := Lib.hid (Q2.out.below hb3)
  have d0 := R3.out.cell 0 rfl
  have d1 := R3.out.cell 1 rfl
  clear c0 c1 hb2 hb3
  have x1 := W1.out
  have x2 := W2.out
  have x3 := W3.out
  have x4 := HS.out
  rw [EA.out]
  go_still_tail 15, (by kernel_rfl)
  change wpList _ _ _ _ _ w3.drew
  go_wp2_with (refine store_row rfl 132 _ _ rfl w1.heap.size _ (lstC 0 none 0 0) (lstC (low + 2 * (A : Int)) (some ⟨b, off + A, none⟩) (E1 - A) (c - A)) rfl rfl Q3.out rfl infoL (lstC_one _ _ _ _) ?_; intro w4 hr4 hg4 _)
  have HB4 := Lib.hid (HB3.out.drew.grown hg4 HB3.out.size (fun k hk => by cases hk; exact HB1.out.size))
  exact bodyPost_ret (results_row rfl _ _ w1.heap.size _ _ _ rfl hr4 Tryd.underlying132 rfl infoL) rfl ⟨_, _, _, by rw [HA.out], (HL.out.below HB4.out).near low cc A Z HA.out HZ.out HR.out _ (by have := HE.out; have := HR.out; omega) _ (by have := HE.out; omega) (by omega), HB4.out⟩
#print axioms near_any
end Go.Proofs.YtfoalaoanpbmeaaDoor

namespace Go.Proofs.YtfoalaoanpbmeaaDoor
open Go.RowKit My

/-- What the closures have caught: two rows and their lengths, each in a box. -/
structure Caught (w : World) (pn pm pa pb : Nat) (A B : List Int) (aa ab : Option Addr) (ca cb : Nat) : Prop where
  n : w.cell? ⟨pn, 0, none⟩ = some (.int .i64 (A.length : Int))
  m : w.cell? ⟨pm, 0, none⟩ = some (.int .i64 (B.length : Int))
  a : w.cell? ⟨pa, 0, none⟩ = some (.slice aa A.length ca)
  b : w.cell? ⟨pb, 0, none⟩ = some (.slice ab B.length cb)
  ra : Runs w aa A.length ca A
  rb : Runs w ab B.length cb B
theorem Caught.below {w w' : World} {pn pm pa pb : Nat} {A B : List Int} {aa ab : Option Addr} {ca cb : Nat} (h : Caught w pn pm pa pb A B aa ab ca cb) (hb : Below w.heap.size w w') : Caught w' pn pm pa pb A B aa ab ca cb :=
  ⟨(hb.cell (World.block_lt_of_cell? _ _ h.n)).trans h.n, (hb.cell (World.block_lt_of_cell? _ _ h.m)).trans h.m, (hb.cell (World.block_lt_of_cell? _ _ h.a)).trans h.a, (hb.cell (World.block_lt_of_cell? _ _ h.b)).trans h.b, h.ra.below hb, h.rb.below hb⟩
theorem below_drewN (w : World) (k : Nat) : Below w.heap.size w (w.drewN k) :=
  have h := Below.refl w.heap.size w
  ⟨h.os, h.tape, h.output, h.size, h.block⟩
/-- Where it leads. -/
def TryIs (A B : List Int) (q x : Int) (w : World) (e : Ending) (w' : World) : Prop := ∃ r : Int, e = .returned (.int .i32 r) ∧ Slid (eq2 A B) A.length B.length q x r ∧ Below w.heap.size w w'
theorem Runs.at_ {w : World} {a : Option Addr} {n c : Nat} {l : List Int} (h : Runs w a n c l) {j : Nat} (hj : j < n) : ∃ b off, a = some ⟨b, off, none⟩ ∧ w.cell? ⟨b, off + j, none⟩ = some (.int .i32 (l.getD j 0)) := by
  rcases h.2.2.2 with ⟨h0, _⟩ | ⟨b, off, ha, hc⟩
  · omega
  · exact ⟨b, off, ha, hc j hj⟩
set_option maxRecDepth 100000 in
set_option maxHeartbeats 2000000 in
theorem try_any (A B : List Int) (aa ab : Option Addr) (ca cb pn pm pa pb : Nat) (q x : Int) (w : World) (h : Caught w pn pm pa pb A B aa ab ca cb) (hA : A.length ≤ 4096) (hB : B.length ≤ 4096) (hp : Pt A.length B.length x q) :
    Calls Tryd.prog 93 #[.int .i64 q, .int .i64 x, .pointer (some ⟨pn, 0, none⟩), .pointer (some ⟨pm, 0, none⟩), .pointer (some ⟨pa, 0, none⟩), .pointer (some ⟨pb, 0, none⟩)] w (TryIs A B q x w) := by
  obtain ⟨n, hn⟩ : ∃ n, A.length = n := ⟨_, rfl⟩
  obtain ⟨m, hm⟩ : ∃ m, B.length = m := ⟨_, rfl⟩
  have HN := Lib.hid hn
  have HM := Lib.hid hm
  have HC := Lib.hid h
  have HP := Lib.hid hp
  obtain ⟨i0, hi0⟩ : ∃ i : Nat, (n : Int) - x = i := ⟨(n - x).toNat, by have := hp.xn; omega⟩
  obtain ⟨j0, hj0⟩ : ∃ j : Nat, (m : Int) - (x - q) = j := ⟨(m - (x - q)).toNat, by have := hp.ym; omega⟩
  have k0 := h.n
  have k1 := h.m
  have k2 := h.a
  have k3 := h.b
  rw [hn] at k0 k2
  rw [hm] at k1 k3
  have HI0 := Lib.hid hi0
  have HJ0 := Lib.hid hj0
  have hi0n : (i0 : Int) ≤ n := by have := hp.x0; omega
  have hj0m : (j0 : Int) ≤ m := by have := hp.y0; omega
  have hnI : (n : Int) ≤ 4096 := by omega
  have hmI : (m : Int) ≤ 4096 := by omega
  have hw1 : IntKind.i64.wrap (i0 : Int) = (i0 : Int) := IntWalk.i64_in _ (by omega)
  have hw2 : IntKind.i64.wrap (j0 : Int) = (j0 : Int) := IntWalk.i64_in _ (by omega)
  have hw3 : IntKind.i64.wrap (x - q) = x - q := IntWalk.i64_in _ (by have := hp.x0; have := hp.y0; have := hp.xn; have := hp.ym; omega)
  clear h hp hA hB hn hm
  go_enter Tryd.func93, Tryd.ntmps93
  go_wp2_with fail
  go_quiet (fail)
  clear hw1 hw2 hw3 hi0 hj0
  go_wp2_with fail
  obtain ⟨W0, hW0⟩ : ∃ W0, w.drewN nq = W0 := ⟨_, rfl⟩
  have HB0 := Lib.hid (show Below w.heap.size w W0 by rw [← hW0]; exact below_drewN _ _)
  rw [hW0]
  clear hW0 k0 k1 k2 k3
  go_loopg [9, 10] i0 (fun g v9 v10 W => ∃ (i j : Nat), Below w.heap.size w W ∧ v9 = .int .i64 i ∧ v10 = .int .i64 j ∧ g = i ∧ Hid (i ≤ i0 ∧ j ≤ j0 ∧ i0 + j = j0 + i ∧ ∀ t : Int, x ≤ t → t < (n : Int) - i → eq2 A B t.toNat (t - q).toNat = true))
  case atStart => exact ⟨i0, j0, HB0.out, rfl, rfl, rfl, Lib.hid ⟨Nat.le_refl _, Nat.le_refl _, by omega, fun t h1 h2 => by have := HI0.out; omega⟩⟩
  case round =>
    obtain ⟨i, j, hbw, rfl, rfl, hg, HQ⟩ := hrel
    have HG := Lib.hid hg
    have HBw := Lib.hid hbw
    have HCw := Lib.hid (HC.out.below hbw)
    have hii : (i : Int) ≤ n := by have := HQ.out.1; omega
    have hjj : (j : Int) ≤ m := by have := HQ.out.2.1; omega
    have k0 := HCw.out.n
    have k2 := HCw.out.a
    have k3 := HCw.out.b
    rw [HN.out] at k0 k2
    rw [HM.out] at k3
    have hwn : IntKind.i64.wrap ((n : Int) - i) = (n : Int) - i := IntWalk.i64_in _ (by omega)
    have hwn2 : IntKind.i32.wrap ((n : Int) - i) = (n : Int) - i := IntWalk.i32_in _ (by omega)
    clear hg hbw
    have fin : (i = 0 ∨ j = 0 ∨ ¬ eq2 A B (n - i) (m - j) = true) → Hid (Slid (eq2 A B) A.length B.length q x ((n : Int) - i)) := fun hc => Lib.hid (by
      have h1 := HQ.out; have h2 := HI0.out; have h3 := HJ0.out
      rw [HN.out, HM.out]
      refine ⟨by omega, by omega, by omega, h1.2.2.2, ?_⟩
      rcases hc with hc | hc | hc
      · left; omega
      · right; left; omega
      · right; right
        have e1 : ((n : Int) - i).toNat = n - i := by omega
        have e2 : ((n : Int) - i - q).toNat = m - j := by omega
        rw [e1, e2]; exact hc)
    by_cases hi : i = 0
    · have F := fin (.inl hi)
      have z1 : decide (0 < i) = false := by simp [hi]
      have z2 : decide ((0 : Int) < (i : Int)) = false := by simp [hi]
      clear fin hi
      go_wp2_with fail
      go_quiet (fail)
      go_wp2
      go_ret
      exact ⟨_, rfl, F.out, HBw.out.trans ((below_drewN _ _).mono HBw.out.size)⟩
    · by_cases hj : j = 0
      · have F := fin (.inr (.inl hj))
        have z1 : decide (0 < i) = true := by simp; omega
        have z2 : decide ((0 : Int) < (i : Int)) = true := by simp; omega
        have z3 : decide (0 < j) = false := by simp [hj]
        have z4 : decide ((0 : Int) < (j : Int)) = false := by simp [hj]
        clear fin hi hj
        go_wp2_with fail
        go_quiet (fail)
        go_wp2
        go_ret
        exact ⟨_, rfl, F.out, HBw.out.trans ((below_drewN _ _).mono HBw.out.size)⟩
      · obtain ⟨i1, hi1⟩ : ∃ k, i = k + 1 := ⟨i - 1, by omega⟩
        obtain ⟨j1, hj1⟩ : ∃ k, j = k + 1 := ⟨j - 1, by omega⟩
        have z1 : decide (0 < i) = true := by simp; omega
        have z2 : decide ((0 : Int) < (i : Int)) = true := by simp; omega
        have z3 : decide (0 < j) = true := by simp; omega
        have z4 : decide ((0 : Int) < (j : Int)) = true := by simp; omega
        have y1 : (i : Int) - 1 = (i1 : Int) := by omega
        have y2 : (j : Int) - 1 = (j1 : Int) := by omega
        have y3 : IntKind.i64.wrap (i1 : Int) = (i1 : Int) := IntWalk.i64_in _ (by omega)
        have y4 : IntKind.i64.wrap (j1 : Int) = (j1 : Int) := IntWalk.i64_in _ (by omega)
        have b1 : (i1 : Int) < (n : Int) := by omega
        have b2 : (j1 : Int) < (m : Int) := by omega
        obtain ⟨ba, oa, hba, cA⟩ := HCw.out.ra.at_ (j := i1) (by rw [HN.out]; omega)
        obtain ⟨bb, ob, hbb, cB⟩ := HCw.out.rb.at_ (j := j1) (by rw [HM.out]; omega)
        rw [hba] at k2
        rw [hbb] at k3
        have HE := Lib.hid (show eq2 A B (n - i) (m - j) = (A.getD i1 0 == B.getD j1 0) by
          unfold eq2
          rw [HN.out, HM.out]
          have e1 : n - 1 - (n - i) = i1 := by omega
          have e2 : m - 1 - (m - j) = j1 := by omega
          rw [e1, e2])
        have HI1 := Lib.hid hi1
        have HJ1 := Lib.hid hj1
        obtain ⟨u, hu⟩ : ∃ u, A.getD i1 0 = u := ⟨_, rfl⟩
        obtain ⟨v, hv⟩ : ∃ v, B.getD j1 0 = v := ⟨_, rfl⟩
        rw [hu] at cA HE
        rw [hv] at cB HE
        clear hba hbb hi1 hj1 hi hj hu hv
        by_cases huv : u = v
        · have z5 : (u == v) = true := by simpa using huv
          clear fin huv
          go_wp2_with fail
          go_quiet (fail)
          go_wp2
          go_roundg i1
          case measure => have := HG.out; have := HI1.out; omega
          case rel => exact ⟨i1, j1, HBw.out.trans ((below_drewN _ _).mono HBw.out.size), rfl, rfl, rfl, Lib.hid ⟨by have := HQ.out.1; have := HI1.out; omega, by have := HQ.out.2.1; have := HJ1.out; omega, by have := HQ.out.2.2.1; have := HI1.out; have := HJ1.out; omega, fun t h1 h2 => by
              have q1 := HQ.out; have q2 := HI1.out; have q3 := HJ1.out; have q4 := HI0.out; have q5 := HJ0.out
              by_cases ht : t < (n : Int) - i
              · exact q1.2.2.2 t h1 ht
              · have e1 : t.toNat = n - i := by omega
                have e2 : (t - q).toNat = m - j := by omega
                rw [e1, e2, HE.out]; exact z5⟩⟩
        · have z5 : (u == v) = false := by simpa using huv
          have F := fin (.inr (.inr (by rw [HE.out, z5]; decide)))
          clear fin huv
          go_wp2_with fail
          go_quiet (fail)
          go_wp2
          go_ret
          exact ⟨_, rfl, F.out, HBw.out.trans ((below_drewN _ _).mono HBw.out.size)⟩
#print axioms try_any
end Go.Proofs.YtfoalaoanpbmeaaDoor
