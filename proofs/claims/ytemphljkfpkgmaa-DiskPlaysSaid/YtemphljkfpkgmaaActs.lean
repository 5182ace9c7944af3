/-
  Acts, as the laws have them: what they hold in memory; the walk of do at a disk that is there.
-/
import Derived.Test.YtemphljkfpkgmaaActMem
import Derived.Test.YtemphljkfpkgmaaDiskRun
namespace Go.Proofs.Ytemphljkfpkgmaa
open Go.RowKit Go.Maps

/-- What it does. -/
def doS (S : DS) (x : ActV) : DS :=
  if (wrap64 (x.z.tmod 7 + 7)).tmod 7 = 0 then (appendS S x.s.data.toList x.b).1
  else if (wrap64 (x.z.tmod 7 + 7)).tmod 7 = 1 then (syncS S x.s.data.toList).1
  else if (wrap64 (x.z.tmod 7 + 7)).tmod 7 = 2 then (turnS S x.s.data.toList x.t.data.toList x.t.data.toList).1
  else if (wrap64 (x.z.tmod 7 + 7)).tmod 7 = 3 then (turnS S x.s.data.toList x.s.data.toList []).1
  else if (wrap64 (x.z.tmod 7 + 7)).tmod 7 = 5 then setArm S x.n
  else if (wrap64 (x.z.tmod 7 + 7)).tmod 7 = 6 then crashS S x.fs
  else S
theorem few_do {S : DS} {k : Nat} (hi : Inv S) (h : Few S k) (x : ActV) : Few (doS S x) (k + 1) := by
  unfold doS
  have h1 := Nat.le_succ k
  split
  · exact few_append h _ _
  split
  · exact (few_sync hi h _).mono h1
  split
  · exact few_turn h _ _ _
  split
  · exact few_turn h _ _ _
  split
  · exact (few_setArm h _).mono h1
  split
  · exact (few_crash h _).mono h1
  · exact h.mono h1

section
variable {w W W' w2 : World} {F : Nat → Prop} {db : Nat} {S : DS}
theorem bytes_run {a : Option Addr} {n c : Nat} {l : List UInt8} (R : Run w W F db S) (h : Bytes w a n c l) (hW : Chg (fun k => F k ∨ W.heap.size ≤ k) W W') : Bytes W' a n c l :=
  h.below (R.2.2.trans (hW.below (fun k hk => hk.elim (fun h => R.2.1 k h) (fun h => Nat.le_trans R.2.2.size h)) R.2.2.size))
theorem at1_lt {a : Option Addr} {n c : Nat} {l : List Int} (h : At1 I w a n c l) (hn : 0 < n) : ∀ g off, a = some ⟨g, off, none⟩ → g < w.heap.size := by
  intro g off e
  subst e
  rcases h.2.2.2 with h0 | ⟨b, o, ha, hc⟩
  · omega
  · simp only [Option.some.injEq, Addr.mk.injEq, and_true] at ha
    obtain ⟨rfl, rfl⟩ := ha
    exact World.block_lt_of_cell? _ _ (hc 0 hn)
theorem crash_in {a : Option Addr} {n c : Nat} {l : List Int} (R : Run w W F db S) (h : At1 I w a n c l) (h1 : S.kept.length + S.acts.length ≤ 1000000) (hz : ∀ z ∈ l, -9223372036854775808 ≤ z ∧ z ≤ 9223372036854775807) :
    Calls Try.prog 26 #[Pt db, .slice a n c] W (RunEnd w db (crashS S l) (.tuple #[])) :=
  (crash_any a n c l R.1 h1 (h.below R.2.2) (fun hn g off e hF => by
    have h2 := at1_lt h hn g off e
    have h3 := R.2.1 g hF
    omega) hz).mono fun _ _ he => crash_run R he
theorem arm_run {n : Int} (R : Run w W F db S) (hn : n ≤ 9223372036854775807) :
    Calls Try.prog 25 #[Pt db, .int .i64 n] W (RunEnd w db (setArm S n) (.tuple #[])) :=
  (arm_any n hn R.1).mono fun _ _ ⟨h1, hs, hd⟩ => ⟨h1, F, R.step hs hd⟩

end
end Go.Proofs.Ytemphljkfpkgmaa
