/-
  The walk of the document's Runes.
-/
import Derived.Test.YtbfaaphijgmabaaDoorUtfRunes0
import Derived.Test.YtbfaaphijgmabaaDoorUtfOne
namespace Go.Proofs.YtbfaaphijgmabaaDoor
open Go.RowKit

theorem one_some (s : ByteArray) (p n k : Nat) (V Z : Int) (w : World) (hs : s.size ≤ 140737488355328) (hp : p < s.size) (hd : decF (s.data.toList.drop p) = some (n, k)) (hV : V = (n : Int)) (hZ : Z = (k : Int)) :
    Calls Tryd.prog 33 #[.string s, .int .i64 (p : Int)] w fun e w' => e = .returned (.tuple #[.int .i32 V, .int .i64 Z]) ∧ Below w.heap.size w w' :=
  (one_any s p w (by omega) hp).mono fun _ _ h => ⟨h.1.trans (by rw [oneF_some hd, hV, hZ]), h.2⟩
theorem one_none (s : ByteArray) (p : Nat) (w : World) (hs : s.size ≤ 140737488355328) (hp : p < s.size) (hd : decF (s.data.toList.drop p) = none) :
    Calls Tryd.prog 33 #[.string s, .int .i64 (p : Int)] w fun e w' => e = .returned (.tuple #[.int .i32 0, .int .i64 0]) ∧ Below w.heap.size w w' :=
  (one_any s p w (by omega) hp).mono fun _ _ h => ⟨h.1.trans (by rw [oneF_none hd]; rfl), h.2⟩

set_option maxRecDepth 100000 in
set_option maxHeartbeats 1000000 in
theorem refRunes_any (s : ByteArray) (w : World) (hs : s.size ≤ 20000000000) :
    Calls Tryd.prog 20 #[.string s] w (RunIs (runE s.data.toList) w) := by
  have hsI : (s.size : Int) ≤ 20000000000 := by omega
  have HS := Lib.hid hs
  have HI := Lib.hid (Inv.start s.data.toList)
  clear hs
  go_enter Tryd.func20, Tryd.ntmps20
  go_wp2
  go_loopg [5, 6] s.size (fun g v5 v6 W => ∃ (p : Nat) (acc : List Nat), Below w.heap.size w W ∧ OwnR W w.heap.size v5 (zs acc) ∧ v6 = .int .i64 p ∧ g + p = s.size ∧ acc.length ≤ p ∧ Hid (Inv s.data.toList p acc))
  case atStart => exact ⟨0, [], Below.refl _ _, OwnR.nil _ _, rfl, rfl, by simp, HI⟩
  case round =>
    obtain ⟨p, acc, hbw, hown, rfl, hg, hle, hinv⟩ := hrel
    have HG := Lib.hid hg
    have HLE := Lib.hid hle
    have hp0 : (0 : Int) ≤ (p : Int) := by omega
    have hpI : (p : Int) ≤ (s.size : Int) := by omega
    by_cases hp : (p : Int) < (s.size : Int)
    · cases hd : decF (s.data.toList.drop p) with
      | none =>
        have HE := Lib.hid (runE_none (hinv.out.stop (by rw [str_len]; omega) hd))
        have HC := Lib.hid (one_none s p wr (by have := HS.out; omega) (by omega) hd)
        clear hd hg hle
        go_wp2_with (go_at_call 33; go_must (refine HC.out.mono ?_); rintro e w1 ⟨rfl, hb⟩)
        go_ret3
        rw [HE.out]
        exact RunIs.of (r := ([], p, 5)) (OwnR.nil _ _) (hbw.trans (hb.mono hbw.size))
      | some q =>
        obtain ⟨n, k⟩ := q
        obtain ⟨hn, hk1, hk4, hkl⟩ := dec_bounds hd
        have HK := Lib.hid (show 1 ≤ k ∧ k ≤ s.size - p from ⟨hk1, by simpa using hkl⟩)
        have HI2 := Lib.hid (hinv.out.step hd)
        obtain ⟨V, hV⟩ : ∃ V : Int, V = (n : Int) := ⟨_, rfl⟩
        obtain ⟨Z, hZ⟩ : ∃ Z : Int, Z = (k : Int) := ⟨_, rfl⟩
        have HV := Lib.hid hV
        have HZ := Lib.hid hZ
        have hzb : (Z == 0) = false := by simp; omega
        have hz0 : 0 ≤ Z := by omega
        have hz4 : Z ≤ (s.size : Int) - (p : Int) := by have := HK.out; omega
        have HC := Lib.hid (one_some s p n k V Z wr (by have := HS.out; omega) (by omega) hd hV hZ)
        clear hd hg hn hk1 hk4 hkl hV hZ hle
        go_wp2_with (first
          | (go_at_call 33; go_must (refine HC.out.mono ?_); rintro e w1 ⟨rfl, hb⟩; have hown1 := hown.below hb; have hb1 := hbw.trans (hb.mono hbw.size))
          | ((with_reducible show wpList _ _ _ (⟨some 25, _, _, _, _, _⟩ :: _) _ _); go_must (refine app_runs rfl (.tmp 22) (.tmp 24) rfl w.heap.size _ (zs acc) rfl (hown1.alloc _) _ 1 1 [V] rfl (runs_one _ _) (by rw [zs_length]; have := HLE.out; have := HS.out; omega) (by have := hb1.size; simp; omega) ?_); intro v3 w3 hown3 hgr3; have hb3 := (hb1.alloc hb1.size (.cells #[.int .i32 V] 21)).grown hgr3 (by have := hb1.size; simp; omega) (fun q hq => (World.ownsRow.lt hown1 q hq).1); clear hgr3 hown1))
        go_roundg (gk - k)
        case measure => have := HG.out; have := HK.out; omega
        case rel => exact ⟨p + k, acc ++ [n], hb3, by rw [zs_append, show zs [n] = [V] from by rw [HV.out]; rfl]; exact hown3, by rw [HZ.out]; rfl, by have := HG.out; have := HK.out; omega, by rw [List.length_append, List.length_singleton]; have := HLE.out; have := HK.out; omega, HI2⟩
    · have HE := Lib.hid (runE_some (hinv.out.done (by rw [str_len]; omega)))
      clear hg hle
      go_wp2
      go_ret3
      rw [HE.out]
      exact RunIs.of (r := (acc, 0, 0)) hown hbw
#print axioms refRunes_any
end Go.Proofs.YtbfaaphijgmabaaDoor
