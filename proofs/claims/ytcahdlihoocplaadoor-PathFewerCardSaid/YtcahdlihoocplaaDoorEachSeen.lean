/-
  The walk of each over a text's runes: are all seen.
-/
import Derived.Test.YtcahdlihoocplaaDoorPathSmall
namespace Go.Proofs.YtcahdlihoocplaaDoor
open Go.RowKit

theorem all_stop {q : Nat → Bool} {L acc : List Nat} {n : Nat} {m : List Nat} (h : L = (acc ++ [n]) ++ m) (hn : q n = false) : L.all q = false := by
  rw [h, List.all_append, List.all_append]; simp [hn]

set_option maxRecDepth 100000 in
set_option maxHeartbeats 400000 in
theorem each_seen (s : ByteArray) (L : List Nat) (e0 : Nat) (w : World) (hL : runesF s.data.toList = (some L, e0)) :
    Calls Tryd.prog 32 #[.string s, .func (.func 35) #[] #[]] w fun e w' => e = .returned (.bool (L.all seenF)) ∧ Below w.heap.size w w' := by
  have HL := Lib.hid hL
  have HI := Lib.hid (Inv.start s.data.toList)
  have HA := Lib.hid (show ([] : List Nat).all seenF = true from rfl)
  clear hL
  go_enter Tryd.func32, Tryd.ntmps32
  go_wp2
  go_loopg [] s.size (fun g W => ∃ (p : Nat) (acc : List Nat), Below w.heap.size w W ∧ W.heap[w.heap.size]? = some (.stringIter s p) ∧ g + p = s.size ∧ Hid (Inv s.data.toList p acc) ∧ Hid (acc.all seenF = true))
  case atStart => exact ⟨0, [], (Below.refl _ _).alloc (Nat.le_refl _) _, World.iter_heap w s 0, rfl, HI, HA⟩
  case round =>
    obtain ⟨p, acc, hbw, hit, hg, hinv, hall⟩ := hrel
    have HG := Lib.hid hg
    by_cases hp : p < s.size
    · obtain ⟨n, k, hd⟩ := hinv.out.more HL.out (by rw [str_len]; exact hp)
      obtain ⟨hn, hk1, hk4, hkl⟩ := dec_bounds hd
      have HK := Lib.hid (show 1 ≤ k ∧ k ≤ s.size - p from ⟨hk1, by simpa using hkl⟩)
      have HI2 := Lib.hid (hinv.out.step hd)
      have hnx := fun ty => next_rune wr w.heap.size s p n k ty hit hp hd
      have HIT := Lib.hid (Lib.iterAt_heap wr w.heap.size s p (p + k) hit)
      have HB2 := Lib.hid (Lib.below_iterAt hbw (k := w.heap.size) (Nat.le_refl _) s (p + k))
      obtain ⟨f, hf⟩ : ∃ f, seenF n = f := ⟨_, rfl⟩
      have HC := Lib.hid (fun w => seen_is n f w hf)
      have HF := Lib.hid hf
      clear hd hg hn hk1 hk4 hkl hit hp hf
      rcases f
      · have HE := Lib.hid (show L.all seenF = false by
          obtain ⟨m, hm⟩ := HI2.out.pre HL.out
          exact all_stop hm HF.out)
        go_wp2_with (go_at_call 35; (with_reducible refine (HC.out _).mono ?_); rintro e w1 ⟨rfl, rfl⟩)
        go_ret
        exact ⟨retBl HE.out.symm, HB2.out⟩
      · have HE := Lib.hid (show (acc ++ [n]).all seenF = true by rw [List.all_append, hall.out]; simp [HF.out])
        go_wp2_with (go_at_call 35; (with_reducible refine (HC.out _).mono ?_); rintro e w1 ⟨rfl, rfl⟩)
        go_roundg (gk - k)
        case measure => have := HG.out; have := HK.out; omega
        case rel => exact ⟨p + k, _, HB2.out, HIT.out, by have := HG.out; have := HK.out; omega, HI2, HE⟩
    · have hnx := fun ty => Lib.run_next_end_at (P := Tryd.prog) wr w.heap.size s p ty hit hp
      have he := hinv.out.done (by rw [str_len]; omega)
      rw [HL.out] at he
      have HX := Lib.hid (show L = acc by simpa using congrArg (·.1) he)
      clear he hg hp hit
      go_wp2
      go_ret
      exact ⟨retBl (by rw [HX.out, hall.out]), hbw⟩
#print axioms each_seen
end Go.Proofs.YtcahdlihoocplaaDoor
