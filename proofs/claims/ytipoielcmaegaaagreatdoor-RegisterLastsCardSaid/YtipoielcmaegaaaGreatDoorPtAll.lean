/-
  Merged: PathSmall, EachSeen, Texts.
-/
import Derived.Test.YtipoielcmaegaaaGreatDoorClash
import Derived.Test.YtipoielcmaegaaaGreatDoorUtGetAll
namespace Go.Proofs.YtipoielcmaegaaaGreatDoor
open Go.RowKit

set_option maxRecDepth 100000 in
set_option maxHeartbeats 400000 in
theorem sized_is (s : ByteArray) (lo hi : Int) (c : Bool) (w : World) (h : (decide (lo ≤ (s.size : Int)) && decide ((s.size : Int) ≤ hi)) = c) :
    Calls Tryz.prog 75 #[.string s, .int .i64 lo, .int .i64 hi] w fun e w' => e = .returned (.bool c) ∧ w = w' := by
  by_cases h1 : lo ≤ (s.size : Int)
  · by_cases h2 : (s.size : Int) ≤ hi
    · have HC := Lib.hid (show c = true by rw [← h, decide_eq_true h1, decide_eq_true h2]; rfl)
      clear h
      go_enter Tryz.func75, Tryz.ntmps75
      go_wp2
      go_ret
      exact ⟨retBl HC.out.symm, rfl⟩
    · have HC := Lib.hid (show c = false by rw [← h, decide_eq_true h1, decide_eq_false h2]; rfl)
      clear h
      go_enter Tryz.func75, Tryz.ntmps75
      go_wp2
      go_ret
      exact ⟨retBl HC.out.symm, rfl⟩
  · have HC := Lib.hid (show c = false by rw [← h, decide_eq_false h1]; rfl)
    clear h
    go_enter Tryz.func75, Tryz.ntmps75
    go_wp2
    go_ret
    exact ⟨retBl HC.out.symm, rfl⟩

set_option maxRecDepth 100000 in
set_option maxHeartbeats 400000 in
theorem text_any (s : ByteArray) (w : World) (hs : s.size ≤ 140737488355328) (hT : Tabs w) :
    Calls Tryz.prog 76 #[.string s] w fun e w' => e = .returned (.bool (textOk s.data.toList)) ∧ Below w.heap.size w w' := by
  rcases runesF_cases s.data.toList with ⟨L, hL⟩ | ⟨p, hL⟩
  · have HC := Lib.hid (check_some s L _ w hs hT hL)
    have HE := Lib.hid (textOk_some hL)
    clear hs hT hL
    go_enter Tryz.func76, Tryz.ntmps76
    go_wp2_with (go_at_call 99; (with_reducible refine HC.out.mono ?_); rintro e w1 ⟨rfl, hb⟩)
    go_ret
    exact ⟨retBl HE.out.symm, hb⟩
  · have HC := Lib.hid (check_none s p w hs hT hL)
    have HE := Lib.hid (textOk_none hL)
    clear hs hT hL
    go_enter Tryz.func76, Tryz.ntmps76
    go_wp2_with (go_at_call 99; (with_reducible refine HC.out.mono ?_); rintro e w1 ⟨rfl, hb⟩)
    go_ret
    exact ⟨retBl HE.out.symm, hb⟩

set_option maxRecDepth 100000 in
set_option maxHeartbeats 400000 in
theorem seen_any (n : Nat) (w : World) : Calls Tryz.prog 78 #[.int .i32 n] w fun e w' => e = .returned (.bool (seenF n)) ∧ w = w' := by
  by_cases h1 : (32 : Int) ≤ (n : Int)
  · by_cases h2 : (n : Int) = 127
    · have H1 := Lib.hid (show seenF n = false by unfold seenF; rw [decide_eq_false (p := n ≠ 127) (by omega)]; simp)
      go_enter Tryz.func78, Tryz.ntmps78
      go_wp2
      go_ret
      exact ⟨retBl H1.out.symm, rfl⟩
    · have H1 := Lib.hid (show seenF n = true by unfold seenF; rw [decide_eq_true (p := n ≠ 127) (by omega), decide_eq_true (p := 32 ≤ n) (by omega)]; rfl)
      have h3 : ((n : Int) != 127) = true := by simp; omega
      go_enter Tryz.func78, Tryz.ntmps78
      go_wp2
      go_ret
      exact ⟨retBl H1.out.symm, rfl⟩
  · have H1 := Lib.hid (show seenF n = false by unfold seenF; rw [decide_eq_false (p := 32 ≤ n) (by omega)]; rfl)
    go_enter Tryz.func78, Tryz.ntmps78
    go_wp2
    go_ret
    exact ⟨retBl H1.out.symm, rfl⟩
theorem seen_is (n : Nat) (c : Bool) (w : World) (h : seenF n = c) : Calls Tryz.prog 78 #[.int .i32 n] w fun e w' => e = .returned (.bool c) ∧ w = w' := by subst h; exact seen_any n w
end Go.Proofs.YtipoielcmaegaaaGreatDoor

namespace Go.Proofs.YtipoielcmaegaaaGreatDoor
open Go.RowKit

theorem all_stop {q : Nat → Bool} {L acc : List Nat} {n : Nat} {m : List Nat} (h : L = (acc ++ [n]) ++ m) (hn : q n = false) : L.all q = false := by
  rw [h, List.all_append, List.all_append]; simp [hn]

set_option maxRecDepth 100000 in
set_option maxHeartbeats 400000 in
theorem each_seen (s : ByteArray) (L : List Nat) (e0 : Nat) (w : World) (hL : runesF s.data.toList = (some L, e0)) :
    Calls Tryz.prog 77 #[.string s, .func (.func 78) #[] #[]] w fun e w' => e = .returned (.bool (L.all seenF)) ∧ Below w.heap.size w w' := by
  have HL := Lib.hid hL
  have HI := Lib.hid (Inv.start s.data.toList)
  have HA := Lib.hid (show ([] : List Nat).all seenF = true from rfl)
  clear hL
  go_enter Tryz.func77, Tryz.ntmps77
  go_wp2
  go_loopg [] s.size (fun g W => ∃ (p : Nat) (acc : List Nat), Below w.heap.size w W ∧ W.heap[w.heap.size]? = some (.stringIter s p) ∧ g + p = s.size ∧ Hid (Inv s.data.toList p acc) ∧ Hid (acc.all seenF = true))
  case atStart => exact ⟨0, [], (Below.refl _ _).alloc (Nat.le_refl _) _, World.iter_heap w s 0, rfl, HI, HA⟩
  case round =>
    obtain ⟨p, acc, hbw, hit, hg, hinv, hall⟩ := hrel
    have HG := Lib.hid hg
    by_cases hp : p < s.size
    · obtain ⟨n, k, hd⟩ := hinv.out.more HL.out (by rw [str_len]; exact hp)
      obtain ⟨hn, hk1, hk4, hkl⟩ := dec_bounds hd
      have HK := Lib.hid (show 1 ≤ k ∧ k ≤ s.size - p from ⟨hk1, by simpa using hkl⟩)
      have HI2 := Lib.hid (hinv.out.step hd)
      have hnx := fun ty => next_rune wr w.heap.size s p n k ty hit hp hd
      have HIT := Lib.hid (Lib.iterAt_heap wr w.heap.size s p (p + k) hit)
      have HB2 := Lib.hid (Lib.below_iterAt hbw (k := w.heap.size) (Nat.le_refl _) s (p + k))
      obtain ⟨f, hf⟩ : ∃ f, seenF n = f := ⟨_, rfl⟩
      have HC := Lib.hid (fun w => seen_is n f w hf)
      have HF := Lib.hid hf
      clear hd hg hn hk1 hk4 hkl hit hp hf
      rcases f
      · have HE := Lib.hid (show L.all seenF = false by
          obtain ⟨m, hm⟩ := HI2.out.pre HL.out
          exact all_stop hm HF.out)
        go_wp2_with (go_at_call 78; (with_reducible refine (HC.out _).mono ?_); rintro e w1 ⟨rfl, rfl⟩)
        go_ret
        exact ⟨retBl HE.out.symm, HB2.out⟩
      · have HE := Lib.hid (show (acc ++ [n]).all seenF = true by rw [List.all_append, hall.out]; simp [HF.out])
        go_wp2_with (go_at_call 78; (with_reducible refine (HC.out _).mono ?_); rintro e w1 ⟨rfl, rfl⟩)
        go_roundg (gk - k)
        case measure => have := HG.out; have := HK.out; omega
        case rel => exact ⟨p + k, _, HB2.out, HIT.out, by have := HG.out; have := HK.out; omega, HI2, HE⟩
    · have hnx := fun ty => Lib.run_next_end_at (P := Tryz.prog) wr w.heap.size s p ty hit hp
      have he := hinv.out.done (by rw [str_len]; omega)
      rw [HL.out] at he
      have HX := Lib.hid (show L = acc by simpa using congrArg (·.1) he)
      clear he hg hp hit
      go_wp2
      go_ret
      exact ⟨retBl (by rw [HX.out, hall.out]), hbw⟩
#print axioms each_seen
end Go.Proofs.YtipoielcmaegaaaGreatDoor

namespace Go.Proofs.YtipoielcmaegaaaGreatDoor
open Go.RowKit

theorem below_drewG {base : Nat} {w w' : World} (h : Below base w w') (n : Nat) : Below base w (w'.drewN n) := ⟨h.os, h.tape, h.output, h.size, h.block⟩
theorem take_next_g {α : Type} [Inhabited α] {l m : List α} {j : Nat} (h : l.take j = m.take j) (hl : j < l.length) (hm : j < m.length) (he : l.getD j default = m.getD j default) : l.take (j + 1) = m.take (j + 1) := by
  rw [List.take_succ_eq_append_getElem hl, List.take_succ_eq_append_getElem hm, h]
  simp [hl, hm] at he
  rw [he]

end Go.Proofs.YtipoielcmaegaaaGreatDoor
