/-
  The walk of Count.
-/
import Derived.Test.YtpopjkkihhidjaaDoorUtfCheck
import Derived.Lib.OthersKept
namespace Go.Proofs.YtpopjkkihhidjaaDoor
open Go.RowKit

theorem check_some (s : ByteArray) (L : List Nat) (e0 : Nat) (w : World) (hs : s.size ≤ 140737488355328) (hT : Tabs w) (h : runesF s.data.toList = (some L, e0)) :
    Calls Tryd.prog 19 #[.string s] w fun e w' => e = .returned (.tuple #[.int .i64 0, .int .i64 0]) ∧ Below w.heap.size w w' :=
  (check_any s w hs hT).mono fun _ _ h1 => ⟨h1.1.trans (by rw [chkE_some h]; rfl), h1.2⟩
theorem check_none (s : ByteArray) (p : Nat) (w : World) (hs : s.size ≤ 140737488355328) (hT : Tabs w) (h : runesF s.data.toList = (none, p)) :
    Calls Tryd.prog 19 #[.string s] w fun e w' => e = .returned (.tuple #[.int .i64 p, .int .i64 5]) ∧ Below w.heap.size w w' :=
  (check_any s w hs hT).mono fun _ _ h1 => ⟨h1.1.trans (by rw [chkE_none h]; rfl), h1.2⟩

/-- What Count answers. -/
def cntE (l : List UInt8) : Nat × Nat := match runesF l with | (some L, _) => (L.length, 0) | (none, _) => (0, 5)
theorem cntE_some {l : List UInt8} {L : List Nat} {e : Nat} (h : runesF l = (some L, e)) : cntE l = (L.length, 0) := by unfold cntE; rw [h]
theorem cntE_none {l : List UInt8} {p : Nat} (h : runesF l = (none, p)) : cntE l = (0, 5) := by unfold cntE; rw [h]

/-- The step of a range over a text at a rune. -/
theorem next_rune (w : World) (g : Nat) (s : ByteArray) (p n k : Nat) (ty : TypeId) (hk : w.heap[g]? = some (.stringIter s p)) (hp : p < s.size) (hd : decF (s.data.toList.drop p) = some (n, k)) :
    (Instr.next (.pointer (some ⟨g, 0, none⟩)) true ty).run Tryd.prog w = .ok (.tuple #[.bool true, .int .i64 p, .int .i32 n]) (w.iterAt g s (p + k)) := by
  have := Lib.run_next_any_at (P := Tryd.prog) w g s p ty hk hp
  rw [decode_drop s p hp, decR_some hd] at this
  exact this

set_option maxRecDepth 100000 in
set_option maxHeartbeats 1000000 in
theorem count_any (s : ByteArray) (w : World) (hs : s.size ≤ 140737488355328) (hT : Tabs w) :
    Calls Tryd.prog 20 #[.string s] w (ChkIs (cntE s.data.toList) w) := by
  rcases runesF_cases s.data.toList with ⟨L, hL⟩ | ⟨p, hL⟩
  · have HC := Lib.hid (check_some s L _ w hs hT hL)
    have HE := Lib.hid (cntE_some hL)
    have hll := runesF_len hL
    rw [str_len] at hll
    have HL := Lib.hid hL
    have HLL := Lib.hid hll
    have hsI : (s.size : Int) ≤ 140737488355328 := by omega
    have HI := Lib.hid (Inv.start s.data.toList)
    clear hs hT hL hll
    go_enter Tryd.func20, Tryd.ntmps20
    go_wp2_with (go_at_call 19; go_must (refine HC.out.mono ?_); rintro e w1 ⟨rfl, hb⟩)
    go_loopg [6] s.size (fun g v6 W => ∃ (p : Nat) (acc : List Nat), Below w.heap.size w W ∧ W.heap[w1.heap.size]? = some (.stringIter s p) ∧ v6 = .int .i64 acc.length ∧ g + p = s.size ∧ Hid (Inv s.data.toList p acc))
    case atStart =>
      refine ⟨0, [], hb.alloc hb.size _, ?_, rfl, rfl, HI⟩
      exact World.iter_heap w1 s 0
    case round =>
      obtain ⟨p, acc, hbw, hit, rfl, hg, hinv⟩ := hrel
      have HG := Lib.hid hg
      have hacc : acc.length ≤ s.size := by
        obtain ⟨m, hm⟩ := hinv.out.pre HL.out
        have := HLL.out
        rw [hm, List.length_append] at this
        omega
      have hacc' : (acc.length : Int) ≤ 140737488355328 := by omega
      have HA := Lib.hid hacc
      clear hacc
      by_cases hp : p < s.size
      · obtain ⟨n, k, hd⟩ := hinv.out.more HL.out (by rw [str_len]; exact hp)
        obtain ⟨hn, hk1, hk4, hkl⟩ := dec_bounds hd
        have HK := Lib.hid (show 1 ≤ k ∧ k ≤ s.size - p from ⟨hk1, by simpa using hkl⟩)
        have HI2 := Lib.hid (hinv.out.step hd)
        have hnx := fun ty => next_rune wr w1.heap.size s p n k ty hit hp hd
        have HIT := Lib.hid (Lib.iterAt_heap wr w1.heap.size s p (p + k) hit)
        have HB2 := Lib.hid (Lib.below_iterAt hbw (k := w1.heap.size) hb.size s (p + k))
        clear hd hg hn hk1 hk4 hkl hit hp
        go_wp2
        go_roundg (gk - k)
        case measure => have := HG.out; have := HK.out; omega
        case rel => exact ⟨p + k, _, HB2.out, HIT.out, by rw [List.length_append]; rfl, by have := HG.out; have := HK.out; omega, HI2⟩
      · have hnx := fun ty => Lib.run_next_end_at (P := Tryd.prog) wr w1.heap.size s p ty hit hp
        have he := hinv.out.done (by rw [str_len]; omega)
        rw [HL.out] at he
        have HX := Lib.hid (show L = acc by simpa using congrArg (·.1) he)
        clear he hg hp hit
        go_wp2
        go_ret2
        rw [HE.out, HX.out]
        exact ⟨rfl, hbw⟩
  · have HC := Lib.hid (check_none s p w hs hT hL)
    have HE := Lib.hid (cntE_none hL)
    clear hs hT hL
    go_enter Tryd.func20, Tryd.ntmps20
    go_wp2_with (go_at_call 19; go_must (refine HC.out.mono ?_); rintro e w1 ⟨rfl, hb⟩)
    go_ret2
    rw [HE.out]
    exact ⟨rfl, hb⟩
#print axioms count_any
end Go.Proofs.YtpopjkkihhidjaaDoor
