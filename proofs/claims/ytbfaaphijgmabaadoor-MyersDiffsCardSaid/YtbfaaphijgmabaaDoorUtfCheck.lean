/-
  The walk of Check.
-/
import Derived.Test.YtbfaaphijgmabaaDoorUtfGet0
import Derived.Test.YtbfaaphijgmabaaDoorUtfInv
namespace Go.Proofs.YtbfaaphijgmabaaDoor
open Go.RowKit

def ChkIs (r : Nat × Nat) (w : World) (e : Ending) (w' : World) : Prop := e = .returned (.tuple #[.int .i64 r.1, .int .i64 r.2]) ∧ Below w.heap.size w w'

/-- Decode at a rune; at none. -/
theorem decode_some (s : ByteArray) (p n k : Nat) (V Z : Int) (w : World) (hs : s.size ≤ 140737488355328) (hT : Tabs w) (hp : p < s.size) (hd : decF (s.data.toList.drop p) = some (n, k)) (hV : V = (n : Int)) (hZ : Z = (p : Int) + (k : Int)) :
    Calls Tryd.prog 39 #[.string s, .int .i64 (p : Int)] w fun e w' => e = .returned (.tuple #[.int .i32 V, .int .i64 Z, .int .i64 0]) ∧ Below w.heap.size w w' :=
  (decode_any s p w hs hT).mono fun _ _ h => ⟨h.1.trans (by rw [decE_some (by rw [str_len]; exact hp) hd, hV, hZ]; rfl), h.2⟩
theorem decode_none (s : ByteArray) (p : Nat) (w : World) (hs : s.size ≤ 140737488355328) (hT : Tabs w) (hp : p < s.size) (hd : decF (s.data.toList.drop p) = none) :
    Calls Tryd.prog 39 #[.string s, .int .i64 (p : Int)] w fun e w' => e = .returned (.tuple #[.int .i32 0, .int .i64 0, .int .i64 5]) ∧ Below w.heap.size w w' :=
  (decode_any s p w hs hT).mono fun _ _ h => ⟨h.1.trans (by rw [decE_none (by rw [str_len]; exact hp) hd]; rfl), h.2⟩

set_option maxRecDepth 100000 in
set_option maxHeartbeats 1000000 in
theorem check_any (s : ByteArray) (w : World) (hs : s.size ≤ 140737488355328) (hT : Tabs w) :
    Calls Tryd.prog 27 #[.string s] w (ChkIs (chkE s.data.toList) w) := by
  have hsI : (s.size : Int) ≤ 140737488355328 := by omega
  have HS := Lib.hid hs
  have HT := Lib.hid hT
  have HI := Lib.hid (Inv.start s.data.toList)
  clear hT hs
  go_enter Tryd.func27, Tryd.ntmps27
  go_wp2
  go_loopg [2] s.size (fun g v2 W => ∃ (p : Nat) (acc : List Nat), Below w.heap.size w W ∧ v2 = .int .i64 p ∧ g + p = s.size ∧ Hid (Inv s.data.toList p acc))
  case atStart => exact ⟨0, [], Below.refl _ _, rfl, rfl, HI⟩
  case round =>
    obtain ⟨p, acc, hbw, rfl, hg, hinv⟩ := hrel
    have HG := Lib.hid hg
    have HTW := Lib.hid (HT.out.below hbw)
    have hpI2 : (p : Int) ≤ (s.size : Int) := by omega
    by_cases hp : (p : Int) < (s.size : Int)
    · cases hd : decF (s.data.toList.drop p) with
      | none =>
        have HE := Lib.hid (chkE_none (hinv.out.stop (by rw [str_len]; omega) hd))
        have HC := Lib.hid (decode_none s p wr HS.out HTW.out (by omega) hd)
        clear hd hg
        go_wp2_with (go_at_call 39; go_must (refine HC.out.mono ?_); rintro e w1 ⟨rfl, hb⟩)
        go_ret2
        rw [HE.out]
        exact ⟨rfl, hbw.trans (hb.mono hbw.size)⟩
      | some q =>
        obtain ⟨n, k⟩ := q
        obtain ⟨hn, hk1, hk4, hkl⟩ := dec_bounds hd
        have HK := Lib.hid (show 1 ≤ k ∧ k ≤ s.size - p from ⟨hk1, by simpa using hkl⟩)
        have HI2 := Lib.hid (hinv.out.step hd)
        obtain ⟨V, hV⟩ : ∃ V : Int, V = (n : Int) := ⟨_, rfl⟩
        obtain ⟨Z, hZ⟩ : ∃ Z : Int, Z = (p : Int) + (k : Int) := ⟨_, rfl⟩
        have HZ := Lib.hid hZ
        have HC := Lib.hid (decode_some s p n k V Z wr HS.out HTW.out (by omega) hd hV hZ)
        clear hd hg hn hk1 hk4 hkl hV hZ
        go_wp2_with (go_at_call 39; go_must (refine HC.out.mono ?_); rintro e w1 ⟨rfl, hb⟩)
        go_roundg (gk - k)
        case measure => have := HG.out; have := HK.out; omega
        case rel => exact ⟨p + k, _, hbw.trans (hb.mono hbw.size), by rw [HZ.out]; rfl, by have := HG.out; have := HK.out; omega, HI2⟩
    · have HE := Lib.hid (chkE_some (hinv.out.done (by rw [str_len]; omega)))
      clear hg
      go_wp2
      go_ret2
      rw [HE.out]
      exact ⟨rfl, hbw⟩
#print axioms check_any
end Go.Proofs.YtbfaaphijgmabaaDoor
