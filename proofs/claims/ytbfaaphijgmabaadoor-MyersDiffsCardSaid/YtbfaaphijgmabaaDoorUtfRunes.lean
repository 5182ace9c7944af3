/-
  The walk of Runes.
-/
import Derived.Test.YtbfaaphijgmabaaDoorUtfRunes0
import Derived.Test.YtbfaaphijgmabaaDoorUtfCount
namespace Go.Proofs.YtbfaaphijgmabaaDoor
open Go.RowKit

set_option maxRecDepth 100000 in
set_option maxHeartbeats 1000000 in
theorem runes_any (s : ByteArray) (w : World) (hs : s.size ≤ 20000000000) (hT : Tabs w) :
    Calls Tryd.prog 24 #[.string s] w (RunIs (runE s.data.toList) w) := by
  rcases runesF_cases s.data.toList with ⟨L, hL⟩ | ⟨p, hL⟩
  · have HC := Lib.hid (check_some s L _ w (by omega) hT hL)
    have HE := Lib.hid (runE_some hL)
    have hll := runesF_len hL
    rw [str_len] at hll
    have HL := Lib.hid hL
    have HLL := Lib.hid hll
    have hsI : (s.size : Int) ≤ 20000000000 := by omega
    have HS := Lib.hid hs
    have HI := Lib.hid (Inv.start s.data.toList)
    clear hs hT hL hll
    go_enter Tryd.func24, Tryd.ntmps24
    go_wp2_with (go_at_call 27; go_must (refine HC.out.mono ?_); rintro e w1 ⟨rfl, hb⟩)
    go_loopg [7] s.size (fun g v7 W => ∃ (p : Nat) (acc : List Nat), Below w.heap.size w W ∧ W.heap[w1.heap.size]? = some (.stringIter s p) ∧ OwnR W (w1.heap.size + 1) v7 (zs acc) ∧ g + p = s.size ∧ Hid (Inv s.data.toList p acc))
    case atStart =>
      refine ⟨0, [], hb.alloc hb.size _, ?_, OwnR.nil _ _, rfl, HI⟩
      exact World.iter_heap w1 s 0
    case round =>
      obtain ⟨p, acc, hbw, hit, hown, hg, hinv⟩ := hrel
      have HG := Lib.hid hg
      have hacc : acc.length ≤ s.size := by
        obtain ⟨m, hm⟩ := hinv.out.pre HL.out
        have := HLL.out
        rw [hm, List.length_append] at this
        omega
      have HA := Lib.hid hacc
      clear hacc
      by_cases hp : p < s.size
      · obtain ⟨n, k, hd⟩ := hinv.out.more HL.out (by rw [str_len]; exact hp)
        obtain ⟨hn, hk1, hk4, hkl⟩ := dec_bounds hd
        have HK := Lib.hid (show 1 ≤ k ∧ k ≤ s.size - p from ⟨hk1, by simpa using hkl⟩)
        have HI2 := Lib.hid (hinv.out.step hd)
        have hnx := fun ty => next_rune wr w1.heap.size s p n k ty hit hp hd
        have hit2 := Lib.iterAt_heap wr w1.heap.size s p (p + k) hit
        have hb2 := Lib.below_iterAt hbw (k := w1.heap.size) hb.size s (p + k)
        have hown2 := ownR_iterAt hown (k := w1.heap.size) (by omega) s (p + k)
        clear hd hg hn hk1 hk4 hkl hp
        have hlt : w1.heap.size < (wr.iterAt w1.heap.size s (p + k)).heap.size := (Array.getElem?_eq_some_iff.1 hit2).1
        generalize wr.iterAt w1.heap.size s (p + k) = w2 at hnx hit2 hb2 hown2 hlt
        have HIT := Lib.hid hit2
        clear hit hown hit2
        go_wp2_with ((with_reducible show wpList _ _ _ (⟨some 27, _, _, _, _, _⟩ :: _) _ _); go_must (refine app_runs rfl (.tmp 24) (.tmp 26) rfl (w1.heap.size + 1) _ (zs acc) rfl (hown2.alloc _) _ 1 1 [(n : Int)] rfl (runs_one _ _) (by rw [zs_length]; have := HA.out; have := HS.out; omega) (by simp; omega) ?_); intro v3 w3 hown3 hgr3)
        have hgr3' := kept_block (k := w1.heap.size) hgr3 (fun q hq => (World.ownsRow.lt hown2 q hq).1) (by simp; omega) (by omega)
        have HX := Lib.hid (show w3.heap[w1.heap.size]? = some (.stringIter s (p + k)) by rw [hgr3', heap_alloc_old (h := hlt)]; exact HIT.out)
        have hb3 := (hb2.alloc hb2.size (.cells #[.int .i32 (n : Int)] 21)).grown hgr3 (by have := hb2.size; simp; omega) (fun q hq => by have := (World.ownsRow.lt hown2 q hq).1; have := hb.size; omega)
        rw [show zs acc ++ [(n : Int)] = zs (acc ++ [n]) from (zs_append acc [n]).symm] at hown3
        clear hgr3 hgr3' hown2 hnx
        go_roundg (gk - k)
        case measure => have := HG.out; have := HK.out; omega
        case rel => exact ⟨p + k, _, hb3, HX.out, hown3, by have := HG.out; have := HK.out; omega, HI2⟩
      · have hnx := fun ty => Lib.run_next_end_at (P := Tryd.prog) wr w1.heap.size s p ty hit hp
        have he := hinv.out.done (by rw [str_len]; omega)
        rw [HL.out] at he
        have HX := Lib.hid (show L = acc by simpa using congrArg (·.1) he)
        clear he hg hp hit
        go_wp2
        go_ret3
        rw [HE.out, HX.out]
        exact RunIs.of (r := (acc, 0, 0)) (hown.mono (by have := hb.size; omega)) hbw
  · have HC := Lib.hid (check_none s p w (by omega) hT hL)
    have HE := Lib.hid (runE_none hL)
    clear hs hT hL
    go_enter Tryd.func24, Tryd.ntmps24
    go_wp2_with (go_at_call 27; go_must (refine HC.out.mono ?_); rintro e w1 ⟨rfl, hb⟩)
    go_ret3
    rw [HE.out]
    exact RunIs.of (r := ([], p, 5)) (OwnR.nil _ _) hb
#print axioms runes_any
end Go.Proofs.YtbfaaphijgmabaaDoor
