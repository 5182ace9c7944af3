/-
  How far the same numbers lead from a point: the closure walked.
-/
import Derived.Test.YtbfaaphijgmabaaDoorMyNearW
import Derived.Deep.LoopGhost
namespace Go.Proofs.YtbfaaphijgmabaaDoor
open Go.RowKit My

/-- What the closures have caught: two rows and their lengths, each in a box. -/
structure Caught (w : World) (pn pm pa pb : Nat) (A B : List Int) (aa ab : Option Addr) (ca cb : Nat) : Prop where
  n : w.cell? ⟨pn, 0, none⟩ = some (.int .i64 (A.length : Int))
  m : w.cell? ⟨pm, 0, none⟩ = some (.int .i64 (B.length : Int))
  a : w.cell? ⟨pa, 0, none⟩ = some (.slice aa A.length ca)
  b : w.cell? ⟨pb, 0, none⟩ = some (.slice ab B.length cb)
  ra : Runs w aa A.length ca A
  rb : Runs w ab B.length cb B
theorem Caught.below {w w' : World} {pn pm pa pb : Nat} {A B : List Int} {aa ab : Option Addr} {ca cb : Nat} (h : Caught w pn pm pa pb A B aa ab ca cb) (hb : Below w.heap.size w w') : Caught w' pn pm pa pb A B aa ab ca cb :=
  ⟨(hb.cell (World.block_lt_of_cell? _ _ h.n)).trans h.n, (hb.cell (World.block_lt_of_cell? _ _ h.m)).trans h.m, (hb.cell (World.block_lt_of_cell? _ _ h.a)).trans h.a, (hb.cell (World.block_lt_of_cell? _ _ h.b)).trans h.b, h.ra.below hb, h.rb.below hb⟩
theorem below_drewN (w : World) (k : Nat) : Below w.heap.size w (w.drewN k) :=
  have h := Below.refl w.heap.size w
  ⟨h.os, h.tape, h.output, h.size, h.block⟩
/-- Where it leads. -/
def TryIs (A B : List Int) (q x : Int) (w : World) (e : Ending) (w' : World) : Prop := ∃ r : Int, e = .returned (.int .i32 r) ∧ Slid (eq2 A B) A.length B.length q x r ∧ Below w.heap.size w w'
theorem Runs.at_ {w : World} {a : Option Addr} {n c : Nat} {l : List Int} (h : Runs w a n c l) {j : Nat} (hj : j < n) : ∃ b off, a = some ⟨b, off, none⟩ ∧ w.cell? ⟨b, off + j, none⟩ = some (.int .i32 (l.getD j 0)) := by
  rcases h.2.2.2 with ⟨h0, _⟩ | ⟨b, off, ha, hc⟩
  · omega
  · exact ⟨b, off, ha, hc j hj⟩
set_option maxRecDepth 100000 in
set_option maxHeartbeats 2000000 in
theorem try_any (A B : List Int) (aa ab : Option Addr) (ca cb pn pm pa pb : Nat) (q x : Int) (w : World) (h : Caught w pn pm pa pb A B aa ab ca cb) (hA : A.length ≤ 4096) (hB : B.length ≤ 4096) (hp : Pt A.length B.length x q) :
    Calls Tryd.prog 43 #[.int .i64 q, .int .i64 x, .pointer (some ⟨pn, 0, none⟩), .pointer (some ⟨pm, 0, none⟩), .pointer (some ⟨pa, 0, none⟩), .pointer (some ⟨pb, 0, none⟩)] w (TryIs A B q x w) := by
  obtain ⟨n, hn⟩ : ∃ n, A.length = n := ⟨_, rfl⟩
  obtain ⟨m, hm⟩ : ∃ m, B.length = m := ⟨_, rfl⟩
  have HN := Lib.hid hn
  have HM := Lib.hid hm
  have HC := Lib.hid h
  have HP := Lib.hid hp
  obtain ⟨i0, hi0⟩ : ∃ i : Nat, (n : Int) - x = i := ⟨(n - x).toNat, by have := hp.xn; omega⟩
  obtain ⟨j0, hj0⟩ : ∃ j : Nat, (m : Int) - (x - q) = j := ⟨(m - (x - q)).toNat, by have := hp.ym; omega⟩
  have k0 := h.n
  have k1 := h.m
  have k2 := h.a
  have k3 := h.b
  rw [hn] at k0 k2
  rw [hm] at k1 k3
  have HI0 := Lib.hid hi0
  have HJ0 := Lib.hid hj0
  have hi0n : (i0 : Int) ≤ n := by have := hp.x0; omega
  have hj0m : (j0 : Int) ≤ m := by have := hp.y0; omega
  have hnI : (n : Int) ≤ 4096 := by omega
  have hmI : (m : Int) ≤ 4096 := by omega
  have hw1 : IntKind.i64.wrap (i0 : Int) = (i0 : Int) := IntWalk.i64_in _ (by omega)
  have hw2 : IntKind.i64.wrap (j0 : Int) = (j0 : Int) := IntWalk.i64_in _ (by omega)
  have hw3 : IntKind.i64.wrap (x - q) = x - q := IntWalk.i64_in _ (by have := hp.x0; have := hp.y0; have := hp.xn; have := hp.ym; omega)
  clear h hp hA hB hn hm
  go_enter Tryd.func43, Tryd.ntmps43
  go_wp2_with fail
  go_quiet (fail)
  clear hw1 hw2 hw3 hi0 hj0
  go_wp2_with fail
  obtain ⟨W0, hW0⟩ : ∃ W0, w.drewN nq = W0 := ⟨_, rfl⟩
  have HB0 := Lib.hid (show Below w.heap.size w W0 by rw [← hW0]; exact below_drewN _ _)
  rw [hW0]
  clear hW0 k0 k1 k2 k3
  go_loopg [9, 10] i0 (fun g v9 v10 W => ∃ (i j : Nat), Below w.heap.size w W ∧ v9 = .int .i64 i ∧ v10 = .int .i64 j ∧ g = i ∧ Hid (i ≤ i0 ∧ j ≤ j0 ∧ i0 + j = j0 + i ∧ ∀ t : Int, x ≤ t → t < (n : Int) - i → eq2 A B t.toNat (t - q).toNat = true))
  case atStart => exact ⟨i0, j0, HB0.out, rfl, rfl, rfl, Lib.hid ⟨Nat.le_refl _, Nat.le_refl _, by omega, fun t h1 h2 => by have := HI0.out; omega⟩⟩
  case round =>
    obtain ⟨i, j, hbw, rfl, rfl, hg, HQ⟩ := hrel
    have HG := Lib.hid hg
    have HBw := Lib.hid hbw
    have HCw := Lib.hid (HC.out.below hbw)
    have hii : (i : Int) ≤ n := by have := HQ.out.1; omega
    have hjj : (j : Int) ≤ m := by have := HQ.out.2.1; omega
    have k0 := HCw.out.n
    have k2 := HCw.out.a
    have k3 := HCw.out.b
    rw [HN.out] at k0 k2
    rw [HM.out] at k3
    have hwn : IntKind.i64.wrap ((n : Int) - i) = (n : Int) - i := IntWalk.i64_in _ (by omega)
    have hwn2 : IntKind.i32.wrap ((n : Int) - i) = (n : Int) - i := IntWalk.i32_in _ (by omega)
    clear hg hbw
    have fin : (i = 0 ∨ j = 0 ∨ ¬ eq2 A B (n - i) (m - j) = true) → Hid (Slid (eq2 A B) A.length B.length q x ((n : Int) - i)) := fun hc => Lib.hid (by
      have h1 := HQ.out; have h2 := HI0.out; have h3 := HJ0.out
      rw [HN.out, HM.out]
      refine ⟨by omega, by omega, by omega, h1.2.2.2, ?_⟩
      rcases hc with hc | hc | hc
      · left; omega
      · right; left; omega
      · right; right
        have e1 : ((n : Int) - i).toNat = n - i := by omega
        have e2 : ((n : Int) - i - q).toNat = m - j := by omega
        rw [e1, e2]; exact hc)
    by_cases hi : i = 0
    · have F := fin (.inl hi)
      have z1 : decide (0 < i) = false := by simp [hi]
      have z2 : decide ((0 : Int) < (i : Int)) = false := by simp [hi]
      clear fin hi
      go_wp2_with fail
      go_quiet (fail)
      go_wp2
      go_ret
      exact ⟨_, rfl, F.out, HBw.out.trans ((below_drewN _ _).mono HBw.out.size)⟩
    · by_cases hj : j = 0
      · have F := fin (.inr (.inl hj))
        have z1 : decide (0 < i) = true := by simp; omega
        have z2 : decide ((0 : Int) < (i : Int)) = true := by simp; omega
        have z3 : decide (0 < j) = false := by simp [hj]
        have z4 : decide ((0 : Int) < (j : Int)) = false := by simp [hj]
        clear fin hi hj
        go_wp2_with fail
        go_quiet (fail)
        go_wp2
        go_ret
        exact ⟨_, rfl, F.out, HBw.out.trans ((below_drewN _ _).mono HBw.out.size)⟩
      · obtain ⟨i1, hi1⟩ : ∃ k, i = k + 1 := ⟨i - 1, by omega⟩
        obtain ⟨j1, hj1⟩ : ∃ k, j = k + 1 := ⟨j - 1, by omega⟩
        have z1 : decide (0 < i) = true := by simp; omega
        have z2 : decide ((0 : Int) < (i : Int)) = true := by simp; omega
        have z3 : decide (0 < j) = true := by simp; omega
        have z4 : decide ((0 : Int) < (j : Int)) = true := by simp; omega
        have y1 : (i : Int) - 1 = (i1 : Int) := by omega
        have y2 : (j : Int) - 1 = (j1 : Int) := by omega
        have y3 : IntKind.i64.wrap (i1 : Int) = (i1 : Int) := IntWalk.i64_in _ (by omega)
        have y4 : IntKind.i64.wrap (j1 : Int) = (j1 : Int) := IntWalk.i64_in _ (by omega)
        have b1 : (i1 : Int) < (n : Int) := by omega
        have b2 : (j1 : Int) < (m : Int) := by omega
        obtain ⟨ba, oa, hba, cA⟩ := HCw.out.ra.at_ (j := i1) (by rw [HN.out]; omega)
        obtain ⟨bb, ob, hbb, cB⟩ := HCw.out.rb.at_ (j := j1) (by rw [HM.out]; omega)
        rw [hba] at k2
        rw [hbb] at k3
        have HE := Lib.hid (show eq2 A B (n - i) (m - j) = (A.getD i1 0 == B.getD j1 0) by
          unfold eq2
          rw [HN.out, HM.out]
          have e1 : n - 1 - (n - i) = i1 := by omega
          have e2 : m - 1 - (m - j) = j1 := by omega
          rw [e1, e2])
        have HI1 := Lib.hid hi1
        have HJ1 := Lib.hid hj1
        obtain ⟨u, hu⟩ : ∃ u, A.getD i1 0 = u := ⟨_, rfl⟩
        obtain ⟨v, hv⟩ : ∃ v, B.getD j1 0 = v := ⟨_, rfl⟩
        rw [hu] at cA HE
        rw [hv] at cB HE
        clear hba hbb hi1 hj1 hi hj hu hv
        by_cases huv : u = v
        · have z5 : (u == v) = true := by simpa using huv
          clear fin huv
          go_wp2_with fail
          go_quiet (fail)
          go_wp2
          go_roundg i1
          case measure => have := HG.out; have := HI1.out; omega
          case rel => exact ⟨i1, j1, HBw.out.trans ((below_drewN _ _).mono HBw.out.size), rfl, rfl, rfl, Lib.hid ⟨by have := HQ.out.1; have := HI1.out; omega, by have := HQ.out.2.1; have := HJ1.out; omega, by have := HQ.out.2.2.1; have := HI1.out; have := HJ1.out; omega, fun t h1 h2 => by
              have q1 := HQ.out; have q2 := HI1.out; have q3 := HJ1.out; have q4 := HI0.out; have q5 := HJ0.out
              by_cases ht : t < (n : Int) - i
              · exact q1.2.2.2 t h1 ht
              · have e1 : t.toNat = n - i := by omega
                have e2 : (t - q).toNat = m - j := by omega
                rw [e1, e2, HE.out]; exact z5⟩⟩
        · have z5 : (u == v) = false := by simpa using huv
          have F := fin (.inr (.inr (by rw [HE.out, z5]; decide)))
          clear fin huv
          go_wp2_with fail
          go_quiet (fail)
          go_wp2
          go_ret
          exact ⟨_, rfl, F.out, HBw.out.trans ((below_drewN _ _).mono HBw.out.size)⟩
#print axioms try_any
end Go.Proofs.YtbfaaphijgmabaaDoor
