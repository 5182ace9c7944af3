/-
  The walk of Count.
-/
import Derived.Test.YtbfaaphijgmabaaDoorUtfNext
namespace Go.Proofs.YtbfaaphijgmabaaDoor
open Go.RowKit

set_option maxRecDepth 100000 in
set_option maxHeartbeats 1000000 in
theorem count_any (s : ByteArray) (w : World) (hs : s.size ≤ 140737488355328) (hT : Tabs w) :
    Calls Tryd.prog 22 #[.string s] w (ChkIs (cntE s.data.toList) w) := by
  rcases runesF_cases s.data.toList with ⟨L, hL⟩ | ⟨p, hL⟩
  · have HC := Lib.hid (check_some s L _ w hs hT hL)
    have HE := Lib.hid (cntE_some hL)
    have hll := runesF_len hL
    rw [str_len] at hll
    have HL := Lib.hid hL
    have HLL := Lib.hid hll
    have hsI : (s.size : Int) ≤ 140737488355328 := by omega
    have HI := Lib.hid (Inv.start s.data.toList)
    clear hs hT hL hll
    go_enter Tryd.func22, Tryd.ntmps22
    go_wp2_with (go_at_call 27; go_must (refine HC.out.mono ?_); rintro e w1 ⟨rfl, hb⟩)
    go_loopg [6] s.size (fun g v6 W => ∃ (p : Nat) (acc : List Nat), Below w.heap.size w W ∧ W.heap[w1.heap.size]? = some (.stringIter s p) ∧ v6 = .int .i64 acc.length ∧ g + p = s.size ∧ Hid (Inv s.data.toList p acc))
    case atStart =>
      refine ⟨0, [], hb.alloc hb.size _, ?_, rfl, rfl, HI⟩
      exact World.iter_heap w1 s 0
    case round =>
      obtain ⟨p, acc, hbw, hit, rfl, hg, hinv⟩ := hrel
      have HG := Lib.hid hg
      have hacc : acc.length ≤ s.size := by
        obtain ⟨m, hm⟩ := hinv.out.pre HL.out
        have := HLL.out
        rw [hm, List.length_append] at this
        omega
      have hacc' : (acc.length : Int) ≤ 140737488355328 := by omega
      have HA := Lib.hid hacc
      clear hacc
      by_cases hp : p < s.size
      · obtain ⟨n, k, hd⟩ := hinv.out.more HL.out (by rw [str_len]; exact hp)
        obtain ⟨hn, hk1, hk4, hkl⟩ := dec_bounds hd
        have HK := Lib.hid (show 1 ≤ k ∧ k ≤ s.size - p from ⟨hk1, by simpa using hkl⟩)
        have HI2 := Lib.hid (hinv.out.step hd)
        have hnx := fun ty => next_rune wr w1.heap.size s p n k ty hit hp hd
        have HIT := Lib.hid (Lib.iterAt_heap wr w1.heap.size s p (p + k) hit)
        have HB2 := Lib.hid (Lib.below_iterAt hbw (k := w1.heap.size) hb.size s (p + k))
        clear hd hg hn hk1 hk4 hkl hit hp
        go_wp2
        go_roundg (gk - k)
        case measure => have := HG.out; have := HK.out; omega
        case rel => exact ⟨p + k, _, HB2.out, HIT.out, by rw [List.length_append]; rfl, by have := HG.out; have := HK.out; omega, HI2⟩
      · have hnx := fun ty => Lib.run_next_end_at (P := Tryd.prog) wr w1.heap.size s p ty hit hp
        have he := hinv.out.done (by rw [str_len]; omega)
        rw [HL.out] at he
        have HX := Lib.hid (show L = acc by simpa using congrArg (·.1) he)
        clear he hg hp hit
        go_wp2
        go_ret2
        rw [HE.out, HX.out]
        exact ⟨rfl, hbw⟩
  · have HC := Lib.hid (check_none s p w hs hT hL)
    have HE := Lib.hid (cntE_none hL)
    clear hs hT hL
    go_enter Tryd.func22, Tryd.ntmps22
    go_wp2_with (go_at_call 27; go_must (refine HC.out.mono ?_); rintro e w1 ⟨rfl, hb⟩)
    go_ret2
    rw [HE.out]
    exact ⟨rfl, hb⟩
#print axioms count_any
end Go.Proofs.YtbfaaphijgmabaaDoor
