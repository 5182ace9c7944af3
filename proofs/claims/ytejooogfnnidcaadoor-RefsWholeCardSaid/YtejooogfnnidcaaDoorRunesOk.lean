/-
  The walks of the document's runes, Is, Author, Note, Bytes; of the program's Author, Note, Bytes.
-/
import Derived.Test.YtejooogfnnidcaaDoorPathSmall
import Derived.Test.YtejooogfnnidcaaDoorEachSeen
import Derived.Test.YtejooogfnnidcaaDoorUtRunAll
import Derived.Test.YtejooogfnnidcaaDoorPathMath
namespace Go.Proofs.YtejooogfnnidcaaDoor
open Go.RowKit

theorem refRunes_some (s : ByteArray) (L : List Nat) (e0 : Nat) (w : World) (hs : s.size ≤ 20000000000) (h : runesF s.data.toList = (some L, e0)) :
    Calls Tryd.prog 72 #[.string s] w fun e w' => ∃ a n c, e = .returned (.tuple #[.slice a n c, .int .i64 0, .int .i64 0]) ∧ Runs w' a n c (zs L) ∧ Below w.heap.size w w' :=
  (refRunes_any s w hs).mono fun e w' h1 => by
    obtain ⟨a, n, c, he, ho, hb⟩ := h1
    rw [runE_some h] at he ho
    obtain ⟨a', n', c', hv, hr⟩ := ho.runs
    simp only [Value.slice.injEq] at hv
    obtain ⟨rfl, rfl, rfl⟩ := hv
    exact ⟨a, n, c, he, hr, hb⟩
theorem refRunes_none (s : ByteArray) (p : Nat) (w : World) (hs : s.size ≤ 20000000000) (h : runesF s.data.toList = (none, p)) :
    Calls Tryd.prog 72 #[.string s] w fun e w' => ∃ a n c, e = .returned (.tuple #[.slice a n c, .int .i64 p, .int .i64 5]) ∧ Below w.heap.size w w' :=
  (refRunes_any s w hs).mono fun e w' h1 => by
    obtain ⟨a, n, c, he, ho, hb⟩ := h1
    rw [runE_none h] at he
    exact ⟨a, n, c, he, hb⟩

set_option maxRecDepth 100000 in
set_option maxHeartbeats 400000 in
theorem is_any (s : ByteArray) (w : World) (hs : s.size ≤ 20000000000) :
    Calls Tryd.prog 62 #[.string s] w fun e w' => e = .returned (.bool (textOk s.data.toList)) ∧ Below w.heap.size w w' := by
  rcases runesF_cases s.data.toList with ⟨L, hL⟩ | ⟨p, hL⟩
  · have HC := Lib.hid (refRunes_some s L _ w hs hL)
    have HE := Lib.hid (textOk_some hL)
    clear hs hL
    go_enter Tryd.func62, Tryd.ntmps62
    go_wp2_with (go_at_call 72; (with_reducible refine HC.out.mono ?_); rintro e w1 ⟨a, n, c, rfl, hr, hb⟩)
    go_ret
    exact ⟨retBl HE.out.symm, hb⟩
  · have HC := Lib.hid (refRunes_none s p w hs hL)
    have HE := Lib.hid (textOk_none hL)
    clear hs hL
    go_enter Tryd.func62, Tryd.ntmps62
    go_wp2_with (go_at_call 72; (with_reducible refine HC.out.mono ?_); rintro e w1 ⟨a, n, c, rfl, hb⟩)
    go_ret
    exact ⟨retBl HE.out.symm, hb⟩

theorem Runs.cell_ {w : World} {b off n c : Nat} {l : List Int} (h : Runs w (some ⟨b, off, none⟩) n c l) (j : Nat) (hj : j < n) : w.cell? ⟨b, off + j, none⟩ = some (.int .i32 (l.getD j 0)) := by
  rcases h.2.2.2 with ⟨h0, _⟩ | ⟨b', off', ha, hc⟩
  · omega
  · simp only [Option.some.injEq, Addr.mk.injEq, and_true] at ha
    obtain ⟨rfl, rfl⟩ := ha
    exact hc j hj
theorem Runs.addr_ {w : World} {a : Option Addr} {n c : Nat} {l : List Int} (h : Runs w a n c l) (hn : 0 < n) : ∃ b off, a = some ⟨b, off, none⟩ := by
  rcases h.2.2.2 with ⟨h0, _⟩ | ⟨b, off, ha, _⟩
  · omega
  · exact ⟨b, off, ha⟩
theorem take_seen {L : List Nat} {p : Nat} (hp : p < L.length) : (L.take (p + 1)).all seenF = ((L.take p).all seenF && seenF (L.getD p 0)) := by
  rw [List.take_succ_eq_append_getElem hp, List.all_append]; simp [hp]
theorem no_seen {L : List Nat} {p : Nat} (hp : p < L.length) (h : seenF (L.getD p 0) = false) : L.all seenF = false := by
  rw [← List.take_append_drop (p + 1) L, List.all_append, take_seen hp, h]; simp
theorem zs_at {L : List Nat} {j : Nat} (h : j < L.length) : (zs L).getD j 0 = ((L.getD j 0 : Nat) : Int) := by simp [zs, h]
theorem seenF_iff (n : Nat) : seenF n = true ↔ 32 ≤ n ∧ n ≠ 127 := by simp [seenF]

end Go.Proofs.YtejooogfnnidcaaDoor
