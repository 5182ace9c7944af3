/-
  Acts, as the laws have them: what they hold in memory; the walk of do at a disk that is there.
-/
import Derived.Test.YtmlnmjpohkjgbaaActMem
import Derived.Test.YtmlnmjpohkjgbaaDiskRun
namespace Go.Proofs.Ytmlnmjpohkjgbaa
open Go.RowKit Go.Maps

/-- What it does. -/
def doS (S : DS) (x : ActV) : DS :=
  if (wrap64 (x.z.tmod 7 + 7)).tmod 7 = 0 then (appendS S x.s.data.toList x.b).1
  else if (wrap64 (x.z.tmod 7 + 7)).tmod 7 = 1 then (syncS S x.s.data.toList).1
  else if (wrap64 (x.z.tmod 7 + 7)).tmod 7 = 2 then (turnS S x.s.data.toList x.t.data.toList x.t.data.toList).1
  else if (wrap64 (x.z.tmod 7 + 7)).tmod 7 = 3 then (turnS S x.s.data.toList x.s.data.toList []).1
  else if (wrap64 (x.z.tmod 7 + 7)).tmod 7 = 5 then setArm S x.n
  else if (wrap64 (x.z.tmod 7 + 7)).tmod 7 = 6 then crashS S x.fs
  else S
theorem few_do {S : DS} {k : Nat} (hi : Inv S) (h : Few S k) (x : ActV) : Few (doS S x) (k + 1) := by
  unfold doS
  have h1 := Nat.le_succ k
  split
  · exact few_append h _ _
  split
  · exact (few_sync hi h _).mono h1
  split
  · exact few_turn h _ _ _
  split
  · exact few_turn h _ _ _
  split
  · exact (few_setArm h _).mono h1
  split
  · exact (few_crash h _).mono h1
  · exact h.mono h1

section
variable {w W W' w2 : World} {F : Nat → Prop} {db : Nat} {S : DS}
theorem bytes_run {a : Option Addr} {n c : Nat} {l : List UInt8} (R : Run w W F db S) (h : Bytes w a n c l) (hW : Chg (fun k => F k ∨ W.heap.size ≤ k) W W') : Bytes W' a n c l :=
  h.below (R.2.2.trans (hW.below (fun k hk => hk.elim (fun h => R.2.1 k h) (fun h => Nat.le_trans R.2.2.size h)) R.2.2.size))
theorem at1_lt {a : Option Addr} {n c : Nat} {l : List Int} (h : At1 I w a n c l) (hn : 0 < n) : ∀ g off, a = some ⟨g, off, none⟩ → g < w.heap.size := by
  intro g off e
  subst e
  rcases h.2.2.2 with h0 | ⟨b, o, ha, hc⟩
  · omega
  · simp only [Option.some.injEq, Addr.mk.injEq, and_true] at ha
    obtain ⟨rfl, rfl⟩ := ha
    exact World.block_lt_of_cell? _ _ (hc 0 hn)
theorem crash_in {a : Option Addr} {n c : Nat} {l : List Int} (R : Run w W F db S) (h : At1 I w a n c l) (h1 : S.kept.length + S.acts.length ≤ 1000000) (hz : ∀ z ∈ l, -9223372036854775808 ≤ z ∧ z ≤ 9223372036854775807) :
    Calls Try.prog 20 #[Pt db, .slice a n c] W (RunEnd w db (crashS S l) (.tuple #[])) :=
  (crash_any a n c l R.1 h1 (h.below R.2.2) (fun hn g off e hF => by
    have h2 := at1_lt h hn g off e
    have h3 := R.2.1 g hF
    omega) hz).mono fun _ _ he => crash_run R he
theorem arm_run {n : Int} (R : Run w W F db S) (hn : n ≤ 9223372036854775807) :
    Calls Try.prog 21 #[Pt db, .int .i64 n] W (RunEnd w db (setArm S n) (.tuple #[])) :=
  (arm_any n hn R.1).mono fun _ _ ⟨h1, hs, hd⟩ => ⟨h1, F, R.step hs hd⟩

set_option maxRecDepth 100000 in
set_option maxHeartbeats 2000000 in
theorem do_any (x : ActV) (R : Run w W F db S) (hx : ActIn w x) {k : Nat} (hf : Few S k) (hk : k ≤ 1000000) :
    Calls Try.prog 19 #[Pt db, .agg x.cells] W (RunEnd w db (doS S x) (.tuple #[])) := by
  obtain ⟨Y, hY⟩ : ∃ Y, Y = doS S x := ⟨_, rfl⟩
  rw [← hY]
  obtain ⟨z, s, t, a, m, c, b, n, a5, m5, c5, fs⟩ := x
  obtain ⟨q, hq⟩ : ∃ q, q = (wrap64 (z.tmod 7 + 7)).tmod 7 := ⟨_, rfl⟩
  unfold doS at hY
  simp only at hY
  rw [← hq] at hY
  obtain ⟨hx1, hx2, hx3, hx4⟩ := hx
  simp only at hx1 hx2 hx3 hx4
  have h1 := Nat.le_trans hf.dirs hk
  have h2 := Nat.le_trans hf.refused hk
  have hc : Chg (fun _ => False) W (W.alloc (.cells (actC z s t a m c n a5 m5 c5) 37)) := Chg.refl.alloc _
  have hR := R.later hc
  have A := Lib.hid ((append_any s a m c b hR.1 h1 h2 (fun W' hW' => bytes_run hR hx1 hW')).mono fun _ _ he => run_end hR he)
  have Y1 := Lib.hid ((sync_any s hR.1 h1).mono fun _ _ he => run_end hR he)
  have T := Lib.hid ((rename_any s t hR.1 h1).mono fun _ _ he => run_end hR he)
  have D := Lib.hid ((remove_any s hR.1 h1).mono fun _ _ he => run_end hR he)
  have M := Lib.hid (arm_run hR hx3)
  have C := Lib.hid (crash_in hR hx2 h1 hx4)
  have RR := Lib.hid hR
  obtain ⟨k0, k1, k2, k3, k4, k5⟩ := box_act W z s t a m c n a5 m5 c5 37
  clear hc hR h1 h2 hx1 hx2 hx3 hx4 hf hk R
  have HY := Lib.hid hY
  have HQ := Lib.hid hq
  clear hY hq
  go_enter Try.func19, Try.ntmps19
  go_wp2_with (first
    | (go_at_call 22; (with_reducible refine A.out.mono ?_); rintro e w5 ⟨rfl, F5, hr⟩)
    | (go_at_call 23; (with_reducible refine Y1.out.mono ?_); rintro e w5 ⟨rfl, F5, hr⟩)
    | (go_at_call 27; (with_reducible refine T.out.mono ?_); rintro e w5 ⟨rfl, F5, hr⟩)
    | (go_at_call 29; (with_reducible refine D.out.mono ?_); rintro e w5 ⟨rfl, F5, hr⟩)
    | (go_at_call 21; (with_reducible refine M.out.mono ?_); rintro e w5 ⟨rfl, F5, hr⟩)
    | (go_at_call 20; (with_reducible refine C.out.mono ?_); rintro e w5 ⟨rfl, F5, hr⟩))
  all_goals refine bodyPost_end (results_none rfl _ _ _) rfl ?_
  all_goals have hr9 := RR.out
  all_goals have e := HY.out
  all_goals rw [HQ.out] at e
  all_goals clear A Y1 T D M C RR HY HQ k0 k1 k2 k3 k4 k5
  all_goals simp only [beq_iff_eq, beq_eq_false_iff_ne, ne_eq] at *
  all_goals simp [*] at e
  all_goals subst e
  all_goals first | exact ⟨rfl, F5, hr⟩ | exact ⟨rfl, F, hr9⟩
#print axioms do_any
end
end Go.Proofs.Ytmlnmjpohkjgbaa
