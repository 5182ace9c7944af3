/-
  The walk of DiskDone: behind a crash another crash changes nothing.
-/
import Derived.Test.YtemphljkfpkgmaaActs
import Derived.Test.YtemphljkfpkgmaaDiskAwake
import Derived.Sort.Walk0
import Derived.Laws.Cover1
namespace Go.Proofs.Ytemphljkfpkgmaa
open Go.RowKit Go.Maps

section
variable {w W W' w2 : World} {F : Nat → Prop} {db : Nat} {S : DS}
/-- A disk crashes; what else was made stands. -/
def CrashRun (w W : World) (F : Nat → Prop) (db : Nat) (S : DS) (e : Ending) (W' : World) : Prop := e = .returned (.tuple #[]) ∧ ∃ F', Run w W' F' db S ∧ Chg F W W'
theorem crash_in2 {a : Option Addr} {n c : Nat} {l : List Int} (R : Run w W F db S) (h : At1 I w a n c l) (h1 : S.kept.length + S.acts.length ≤ 1000000) (hz : ∀ z ∈ l, -9223372036854775808 ≤ z ∧ z ≤ 9223372036854775807) {S2 : DS} (hS : crashS S l = S2) :
    Calls Try.prog 26 #[Pt db, .slice a n c] W (CrashRun w W F db S2) := by
  subst hS
  refine (crash_any a n c l R.1 h1 (h.below R.2.2) (fun hn g off e hF => by
    have h2 := at1_lt h hn g off e
    have h3 := R.2.1 g hF
    omega) hz).mono ?_
  rintro e w2 ⟨he, F', hs, hd⟩
  exact ⟨he, F', R.step hs hd, hs.chg⟩
theorem list_run {L : List Nm} (R : Run w W F db S) (h1 : S.kept.length + S.acts.length ≤ 1000000) (hL : listS S = L) :
    Calls Try.prog 10 #[Pt db] W fun e W' => ∃ a c, e = .returned (.slice a L.length c) ∧ At1 St W' a L.length c L ∧ Run w W' F db S ∧ (∀ g off, a = some ⟨g, off, none⟩ → ¬ F g) ∧ Below W.heap.size W W' := by
  subst hL
  refine (list_any R.1 h1).mono ?_
  rintro e w2 ⟨a, c, he, hA, hb, hn⟩
  exact ⟨a, c, he, hA, R.below hb, fun g off e hF => by
    have h2 := hn g off e
    have h3 := R.1.lt g hF
    omega, hb⟩
theorem used_run {u : Nat} (R : Run w W F db S) (hu : usedT S = u) : Calls Try.prog 12 #[Pt db] W fun e W' => e = .returned (.int .i64 (u : Int)) ∧ W = W' := by
  subst hu
  exact used_any R.1
theorem down_run (R : Run w W F db S) (hu : S.down = false) : Calls Try.prog 13 #[Pt db] W fun e W' => e = .returned (.bool false) ∧ W = W' := by
  have := down_any R.1
  rw [hu] at this
  exact this
theorem read_run (s : ByteArray) (R : Run w W F db S) (hz : (readS S s.data.toList).2 = 0) : Calls Try.prog 23 #[Pt db, .string s] W fun e W' => ∃ a n c, e = .returned (.tuple #[.slice a n c, .int .i64 0]) ∧ Run w W' F db S ∧ Below W.heap.size W W' := by
  refine (read_any s R.1).mono ?_
  rintro e w2 ⟨a, n, c, he, _, hb⟩
  exact ⟨a, n, c, by rw [he, hz]; rfl, R.below hb, hb⟩
end
theorem belowD {B : Nat} {a w : World} (h : Below B a w) (n : Nat) : Below B a (w.drewN n) := ⟨h.os, h.tape, h.output, h.size, h.block⟩
theorem list_next {S : DS} (h : Inv S) {i : Nat} (hi : i + 1 < (listS S).length) : Op.bytesLess (strB ((listS S).getD i default)).toList (strB ((listS S).getD (i + 1) default)).toList = true := by
  have hp : (listS S).Pairwise (· < ·) := by
    unfold listS
    split
    · exact .nil
    · exact names_sorted h.now.sorted
  have h1 := List.pairwise_iff_getElem.1 hp i (i + 1) (by omega) hi (by omega)
  have e1 : (listS S).getD i default = (listS S)[i]'(by omega) := by simp [List.getD, show i < (listS S).length by omega]
  have e2 : (listS S).getD (i + 1) default = (listS S)[i + 1]'hi := by simp [List.getD, hi]
  rw [bytesLess_eq, e1, e2, ByteArray.toList_eq, ByteArray.toList_eq, strB_list, strB_list]
  simpa using h1

end Go.Proofs.Ytemphljkfpkgmaa
