/-
  Merged: UtfNext, UtfRunes0, UtfRefRunes.
-/
import Derived.Test.YtfoalaoanpbmeaaDoorGrp11
import Derived.Lib.OthersKept
import Derived.Test.YtfoalaoanpbmeaaDoorRunes
import Derived.Test.YtfoalaoanpbmeaaDoorUtfOne
namespace Go.Proofs.YtfoalaoanpbmeaaDoor
open Go.RowKit

theorem check_some (s : ByteArray) (L : List Nat) (e0 : Nat) (w : World) (hs : s.size ≤ 140737488355328) (hT : Tabs w) (h : runesF s.data.toList = (some L, e0)) :
    Calls Tryd.prog 38 #[.string s] w fun e w' => e = .returned (.tuple #[.int .i64 0, .int .i64 0]) ∧ Below w.heap.size w w' :=
  (check_any s w hs hT).mono fun _ _ h1 => ⟨h1.1.trans (by rw [chkE_some h]; rfl), h1.2⟩
theorem check_none (s : ByteArray) (p : Nat) (w : World) (hs : s.size ≤ 140737488355328) (hT : Tabs w) (h : runesF s.data.toList = (none, p)) :
    Calls Tryd.prog 38 #[.string s] w fun e w' => e = .returned (.tuple #[.int .i64 p, .int .i64 5]) ∧ Below w.heap.size w w' :=
  (check_any s w hs hT).mono fun _ _ h1 => ⟨h1.1.trans (by rw [chkE_none h]; rfl), h1.2⟩

/-- What Count answers. -/
def cntE (l : List UInt8) : Nat × Nat := match runesF l with | (some L, _) => (L.length, 0) | (none, _) => (0, 5)
theorem cntE_some {l : List UInt8} {L : List Nat} {e : Nat} (h : runesF l = (some L, e)) : cntE l = (L.length, 0) := by unfold cntE; rw [h]
theorem cntE_none {l : List UInt8} {p : Nat} (h : runesF l = (none, p)) : cntE l = (0, 5) := by unfold cntE; rw [h]

/-- The step of a range over a text at a rune. -/
theorem next_rune (w : World) (g : Nat) (s : ByteArray) (p n k : Nat) (ty : TypeId) (hk : w.heap[g]? = some (.stringIter s p)) (hp : p < s.size) (hd : decF (s.data.toList.drop p) = some (n, k)) :
    (Instr.next (.pointer (some ⟨g, 0, none⟩)) true ty).run Tryd.prog w = .ok (.tuple #[.bool true, .int .i64 p, .int .i32 n]) (w.iterAt g s (p + k)) := by
  have := Lib.run_next_any_at (P := Tryd.prog) w g s p ty hk hp
  rw [decode_drop s p hp, decR_some hd] at this
  exact this

end Go.Proofs.YtfoalaoanpbmeaaDoor

namespace Go.Proofs.YtfoalaoanpbmeaaDoor
open Go.RowKit

/-- Runes as numbers. -/
def zs (l : List Nat) : List Int := l.map fun n : Nat => (n : Int)
theorem zs_length (l : List Nat) : (zs l).length = l.length := by simp [zs]
theorem zs_append (l m : List Nat) : zs (l ++ m) = zs l ++ zs m := by simp [zs]
theorem zs_inj {l m : List Nat} (h : zs l = zs m) : l = m := by
  unfold zs at h
  exact (List.map_inj_right (fun x y hxy => by omega)).1 h

/-- What Runes answers. -/
def runE (l : List UInt8) : List Nat × Nat × Nat := match runesF l with | (some L, _) => (L, 0, 0) | (none, p) => ([], p, 5)
theorem runE_some {l : List UInt8} {L : List Nat} {e : Nat} (h : runesF l = (some L, e)) : runE l = (L, 0, 0) := by unfold runE; rw [h]
theorem runE_none {l : List UInt8} {p : Nat} (h : runesF l = (none, p)) : runE l = ([], p, 5) := by unfold runE; rw [h]

def RunIs (r : List Nat × Nat × Nat) (w : World) (e : Ending) (w' : World) : Prop :=
  ∃ a n c, e = .returned (.tuple #[.slice a n c, .int .i64 r.2.1, .int .i64 r.2.2]) ∧ OwnR w' w.heap.size (.slice a n c) (zs r.1) ∧ Below w.heap.size w w'

theorem RunIs.of {r : List Nat × Nat × Nat} {w w' : World} {v : Value} (h : OwnR w' w.heap.size v (zs r.1)) (hb : Below w.heap.size w w') :
    RunIs r w (.returned (.tuple #[v, .int .i64 r.2.1, .int .i64 r.2.2])) w' := by
  obtain ⟨a, n, c, rfl, _⟩ := h.runs
  exact ⟨a, n, c, rfl, h, hb⟩

theorem ownR_iterAt {w : World} {base : Nat} {v : Value} {l : List Int} (h : OwnR w base v l) {k : Nat} (hk : k < base) (s : ByteArray) (pos : Nat) : OwnR (w.iterAt k s pos) base v l := by
  obtain ⟨h1, h2⟩ := h
  refine ⟨h1, ?_⟩
  rcases h2 with h2 | ⟨g, cap, cur, hv, hg, hh, r⟩
  · exact .inl h2
  · exact .inr ⟨g, cap, cur, hv, hg, by rw [Lib.iterAt_other w k g s pos (by omega)]; exact hh, r⟩

/-- A block that is no row of the owner's stands. -/
theorem kept_block {w w' : World} {v : Value} {k base : Nat} (hg : w.grownBy w' v.ownBlock) (hb : ∀ q, v.ownBlock = some q → base ≤ q) (hk : k < w.heap.size) (hkb : k < base) : w'.heap[k]? = w.heap[k]? :=
  hg.block k hk (fun e => by have := hb k e.symm; omega)

end Go.Proofs.YtfoalaoanpbmeaaDoor

namespace Go.Proofs.YtfoalaoanpbmeaaDoor
open Go.RowKit

theorem one_some (s : ByteArray) (p n k : Nat) (V Z : Int) (w : World) (hs : s.size ≤ 140737488355328) (hp : p < s.size) (hd : decF (s.data.toList.drop p) = some (n, k)) (hV : V = (n : Int)) (hZ : Z = (k : Int)) :
    Calls Tryd.prog 56 #[.string s, .int .i64 (p : Int)] w fun e w' => e = .returned (.tuple #[.int .i32 V, .int .i64 Z]) ∧ Below w.heap.size w w' :=
  (one_any s p w (by omega) hp).mono fun _ _ h => ⟨h.1.trans (by rw [oneF_some hd, hV, hZ]), h.2⟩
theorem one_none (s : ByteArray) (p : Nat) (w : World) (hs : s.size ≤ 140737488355328) (hp : p < s.size) (hd : decF (s.data.toList.drop p) = none) :
    Calls Tryd.prog 56 #[.string s, .int .i64 (p : Int)] w fun e w' => e = .returned (.tuple #[.int .i32 0, .int .i64 0]) ∧ Below w.heap.size w w' :=
  (one_any s p w (by omega) hp).mono fun _ _ h => ⟨h.1.trans (by rw [oneF_none hd]; rfl), h.2⟩

set_option maxRecDepth 100000 in
set_option maxHeartbeats 1000000 in
theorem refRunes_any (s : ByteArray) (w : World) (hs : s.size ≤ 20000000000) :
    Calls Tryd.prog 42 #[.string s] w (RunIs (runE s.data.toList) w) := by
  have hsI : (s.size : Int) ≤ 20000000000 := by omega
  have HS := Lib.hid hs
  have HI := Lib.hid (Inv.start s.data.toList)
  clear hs
  go_enter Tryd.func42, Tryd.ntmps42
  go_wp2
  go_loopg [5, 6] s.size (fun g v5 v6 W => ∃ (p : Nat) (acc : List Nat), Below w.heap.size w W ∧ OwnR W w.heap.size v5 (zs acc) ∧ v6 = .int .i64 p ∧ g + p = s.size ∧ acc.length ≤ p ∧ Hid (Inv s.data.toList p acc))
  case atStart => exact ⟨0, [], Below.refl _ _, OwnR.nil _ _, rfl, rfl, by simp, HI⟩
  case round =>
    obtain ⟨p, acc, hbw, hown, rfl, hg, hle, hinv⟩ := hrel
    have HG := Lib.hid hg
    have HLE := Lib.hid hle
    have hp0 : (0 : Int) ≤ (p : Int) := by omega
    have hpI : (p : Int) ≤ (s.size : Int) := by omega
    by_cases hp : (p : Int) < (s.size : Int)
    · cases hd : decF (s.data.toList.drop p) with
      | none =>
        have HE := Lib.hid (runE_none (hinv.out.stop (by rw [str_len]; omega) hd))
        have HC := Lib.hid (one_none s p wr (by have := HS.out; omega) (by omega) hd)
        clear hd hg hle
        go_wp2_with (go_at_call 56; go_must (refine HC.out.mono ?_); rintro e w1 ⟨rfl, hb⟩)
        go_ret3
        rw [HE.out]
        exact RunIs.of (r := ([], p, 5)) (OwnR.nil _ _) (hbw.trans (hb.mono hbw.size))
      | some q =>
        obtain ⟨n, k⟩ := q
        obtain ⟨hn, hk1, hk4, hkl⟩ := dec_bounds hd
        have HK := Lib.hid (show 1 ≤ k ∧ k ≤ s.size - p from ⟨hk1, by simpa using hkl⟩)
        have HI2 := Lib.hid (hinv.out.step hd)
        obtain ⟨V, hV⟩ : ∃ V : Int, V = (n : Int) := ⟨_, rfl⟩
        obtain ⟨Z, hZ⟩ : ∃ Z : Int, Z = (k : Int) := ⟨_, rfl⟩
        have HV := Lib.hid hV
        have HZ := Lib.hid hZ
        have hzb : (Z == 0) = false := by simp; omega
        have hz0 : 0 ≤ Z := by omega
        have hz4 : Z ≤ (s.size : Int) - (p : Int) := by have := HK.out; omega
        have HC := Lib.hid (one_some s p n k V Z wr (by have := HS.out; omega) (by omega) hd hV hZ)
        clear hd hg hn hk1 hk4 hkl hV hZ hle
        go_wp2_with (first
          | (go_at_call 56; go_must (refine HC.out.mono ?_); rintro e w1 ⟨rfl, hb⟩; have hown1 := hown.below hb; have hb1 := hbw.trans (hb.mono hbw.size))
          | ((with_reducible show wpList _ _ _ (⟨some 25, _, _, _, _, _⟩ :: _) _ _); go_must (refine app_runs rfl (.tmp 22) (.tmp 24) rfl w.heap.size _ (zs acc) rfl (hown1.alloc _) _ 1 1 [V] rfl (runs_one _ _) (by rw [zs_length]; have := HLE.out; have := HS.out; omega) (by have := hb1.size; simp; omega) ?_); intro v3 w3 hown3 hgr3; have hb3 := (hb1.alloc hb1.size (.cells #[.int .i32 V] 21)).grown hgr3 (by have := hb1.size; simp; omega) (fun q hq => (World.ownsRow.lt hown1 q hq).1); clear hgr3 hown1))
        go_roundg (gk - k)
        case measure => have := HG.out; have := HK.out; omega
        case rel => exact ⟨p + k, acc ++ [n], hb3, by rw [zs_append, show zs [n] = [V] from by rw [HV.out]; rfl]; exact hown3, by rw [HZ.out]; rfl, by have := HG.out; have := HK.out; omega, by rw [List.length_append, List.length_singleton]; have := HLE.out; have := HK.out; omega, HI2⟩
    · have HE := Lib.hid (runE_some (hinv.out.done (by rw [str_len]; omega)))
      clear hg hle
      go_wp2
      go_ret3
      rw [HE.out]
      exact RunIs.of (r := (acc, 0, 0)) hown hbw
#print axioms refRunes_any
end Go.Proofs.YtfoalaoanpbmeaaDoor
