/-
  The walks of the document's runes, Is, Author, Note, Bytes; of the program's Author, Note, Bytes.
-/
import Derived.Test.YtipoielcmaegaaaGreatDoorPtAll
import Derived.Test.YtipoielcmaegaaaGreatDoorUtRunAll
import Derived.Test.YtipoielcmaegaaaGreatDoorPathMath
namespace Go.Proofs.YtipoielcmaegaaaGreatDoor
open Go.RowKit

theorem refRunes_some (s : ByteArray) (L : List Nat) (e0 : Nat) (w : World) (hs : s.size ≤ 20000000000) (h : runesF s.data.toList = (some L, e0)) :
    Calls Tryz.prog 50 #[.string s] w fun e w' => ∃ a n c, e = .returned (.tuple #[.slice a n c, .int .i64 0, .int .i64 0]) ∧ Runs w' a n c (zs L) ∧ Below w.heap.size w w' :=
  (refRunes_any s w hs).mono fun e w' h1 => by
    obtain ⟨a, n, c, he, ho, hb⟩ := h1
    rw [runE_some h] at he ho
    obtain ⟨a', n', c', hv, hr⟩ := ho.runs
    simp only [Value.slice.injEq] at hv
    obtain ⟨rfl, rfl, rfl⟩ := hv
    exact ⟨a, n, c, he, hr, hb⟩
theorem refRunes_none (s : ByteArray) (p : Nat) (w : World) (hs : s.size ≤ 20000000000) (h : runesF s.data.toList = (none, p)) :
    Calls Tryz.prog 50 #[.string s] w fun e w' => ∃ a n c, e = .returned (.tuple #[.slice a n c, .int .i64 p, .int .i64 5]) ∧ Below w.heap.size w w' :=
  (refRunes_any s w hs).mono fun e w' h1 => by
    obtain ⟨a, n, c, he, ho, hb⟩ := h1
    rw [runE_none h] at he
    exact ⟨a, n, c, he, hb⟩

theorem Runs.cell_ {w : World} {b off n c : Nat} {l : List Int} (h : Runs w (some ⟨b, off, none⟩) n c l) (j : Nat) (hj : j < n) : w.cell? ⟨b, off + j, none⟩ = some (.int .i32 (l.getD j 0)) := by
  rcases h.2.2.2 with ⟨h0, _⟩ | ⟨b', off', ha, hc⟩
  · omega
  · simp only [Option.some.injEq, Addr.mk.injEq, and_true] at ha
    obtain ⟨rfl, rfl⟩ := ha
    exact hc j hj
theorem Runs.addr_ {w : World} {a : Option Addr} {n c : Nat} {l : List Int} (h : Runs w a n c l) (hn : 0 < n) : ∃ b off, a = some ⟨b, off, none⟩ := by
  rcases h.2.2.2 with ⟨h0, _⟩ | ⟨b, off, ha, _⟩
  · omega
  · exact ⟨b, off, ha⟩
theorem take_seen {L : List Nat} {p : Nat} (hp : p < L.length) : (L.take (p + 1)).all seenF = ((L.take p).all seenF && seenF (L.getD p 0)) := by
  rw [List.take_succ_eq_append_getElem hp, List.all_append]; simp [hp]
theorem no_seen {L : List Nat} {p : Nat} (hp : p < L.length) (h : seenF (L.getD p 0) = false) : L.all seenF = false := by
  rw [← List.take_append_drop (p + 1) L, List.all_append, take_seen hp, h]; simp
theorem zs_at {L : List Nat} {j : Nat} (h : j < L.length) : (zs L).getD j 0 = ((L.getD j 0 : Nat) : Int) := by simp [zs, h]
theorem seenF_iff (n : Nat) : seenF n = true ↔ 32 ≤ n ∧ n ≠ 127 := by simp [seenF]

set_option maxRecDepth 100000 in
set_option maxHeartbeats 1000000 in
theorem runes_any_ok (s : ByteArray) (w : World) (hs : s.size ≤ 20000000000) :
    Calls Tryz.prog 33 #[.string s] w fun e w' => e = .returned (.bool (runesOk s.data.toList)) ∧ Below w.heap.size w w' := by
  rcases runesF_cases s.data.toList with ⟨L, hL⟩ | ⟨p, hL⟩
  · have HC := Lib.hid (refRunes_some s L _ w hs hL)
    have HE := Lib.hid (runesOk_some hL)
    have hll := runesF_len hL
    rw [str_len] at hll
    have hlI : (L.length : Int) ≤ 20000000000 := by omega
    have H0 := Lib.hid (show (L.take 0).all seenF = true from rfl)
    clear hs hL hll
    go_enter Tryz.func33, Tryz.ntmps33
    go_wp2_with (go_at_call 50; (with_reducible refine HC.out.mono ?_); rintro e w1 ⟨a, n, c, rfl, hr, hb⟩)
    have hn : n = L.length := by have := hr.1; rw [zs_length] at this; exact this.symm
    subst hn
    have HR := Lib.hid hr
    clear hr
    go_loopg [6] L.length (fun g v6 W => ∃ j : Nat, w1 = W ∧ v6 = .int .i64 j ∧ g + j = L.length ∧ Hid ((L.take j).all seenF = true))
    case atStart => exact ⟨0, rfl, rfl, rfl, H0⟩
    case round =>
      obtain ⟨j, rfl, rfl, hg, hinv⟩ := hrel
      have HG := Lib.hid hg
      have hj0 : (0 : Int) ≤ (j : Int) := by omega
      have hjI : (j : Int) ≤ (L.length : Int) := by omega
      by_cases hj : (j : Int) < (L.length : Int)
      · have hjn : j < L.length := by omega
        obtain ⟨ba, oa, rfl⟩ := HR.out.addr_ (by omega)
        obtain ⟨x, hx⟩ : ∃ x, x = L.getD j 0 := ⟨_, rfl⟩
        have hca : w1.cell? ⟨ba, oa + j, none⟩ = some (.int .i32 (x : Int)) := by rw [hx, ← zs_at hjn]; exact HR.out.cell_ j hjn
        have HX := Lib.hid hx
        have HJ := Lib.hid hjn
        clear hg hx
        by_cases h1 : (x : Int) < 32
        · have HN := Lib.hid (no_seen HJ.out (by rw [← HX.out, Bool.eq_false_iff]; intro h; have := (seenF_iff x).1 h; omega))
          go_wp2
          go_ret
          exact ⟨retBl (by rw [HE.out, HN.out]), hb⟩
        · by_cases h2 : (x : Int) = 127
          · have HN := Lib.hid (no_seen HJ.out (by rw [← HX.out, Bool.eq_false_iff]; intro h; have := (seenF_iff x).1 h; omega))
            have h3 : ((x : Int) == 127) = true := by simp [h2]
            go_wp2
            go_ret
            exact ⟨retBl (by rw [HE.out, HN.out]), hb⟩
          · have HN := Lib.hid (show (L.take (j + 1)).all seenF = true by rw [take_seen HJ.out, hinv.out, ← HX.out, (seenF_iff x).2 (by omega)]; rfl)
            have h3 : ((x : Int) == 127) = false := by simp; omega
            go_wp2
            go_roundg (gk - 1)
            case measure => have := HG.out; have := HJ.out; omega
            case rel => exact ⟨j + 1, rfl, by go_num, by have := HG.out; have := HJ.out; omega, HN⟩
      · have HN := Lib.hid (show L.all seenF = true by
          have h1 := hinv.out
          rw [List.take_of_length_le (by omega)] at h1
          exact h1)
        clear hg
        go_wp2
        go_ret
        exact ⟨retBl (by rw [HE.out, HN.out]), hb⟩
  · have HC := Lib.hid (refRunes_none s p w hs hL)
    have HE := Lib.hid (runesOk_none hL)
    clear hs hL
    go_enter Tryz.func33, Tryz.ntmps33
    go_wp2_with (go_at_call 50; (with_reducible refine HC.out.mono ?_); rintro e w1 ⟨a, n, c, rfl, hb⟩)
    go_ret
    exact ⟨retBl HE.out.symm, hb⟩
#print axioms runes_any_ok
end Go.Proofs.YtipoielcmaegaaaGreatDoor
