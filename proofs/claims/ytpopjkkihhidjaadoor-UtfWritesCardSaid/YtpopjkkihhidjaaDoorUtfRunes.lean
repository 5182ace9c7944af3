/-
  The walks of Runes, the program's and the document's, and of Same.
-/
import Derived.Test.YtpopjkkihhidjaaDoorUtfCount
import Derived.Test.YtpopjkkihhidjaaDoorRunes
namespace Go.Proofs.YtpopjkkihhidjaaDoor
open Go.RowKit

/-- Runes as numbers. -/
def zs (l : List Nat) : List Int := l.map fun n : Nat => (n : Int)
theorem zs_length (l : List Nat) : (zs l).length = l.length := by simp [zs]
theorem zs_append (l m : List Nat) : zs (l ++ m) = zs l ++ zs m := by simp [zs]
theorem zs_inj {l m : List Nat} (h : zs l = zs m) : l = m := by
  unfold zs at h
  exact (List.map_inj_right (fun x y hxy => by omega)).1 h

/-- What Runes answers. -/
def runE (l : List UInt8) : List Nat × Nat × Nat := match runesF l with | (some L, _) => (L, 0, 0) | (none, p) => ([], p, 5)
theorem runE_some {l : List UInt8} {L : List Nat} {e : Nat} (h : runesF l = (some L, e)) : runE l = (L, 0, 0) := by unfold runE; rw [h]
theorem runE_none {l : List UInt8} {p : Nat} (h : runesF l = (none, p)) : runE l = ([], p, 5) := by unfold runE; rw [h]

def RunIs (r : List Nat × Nat × Nat) (w : World) (e : Ending) (w' : World) : Prop :=
  ∃ a n c, e = .returned (.tuple #[.slice a n c, .int .i64 r.2.1, .int .i64 r.2.2]) ∧ OwnR w' w.heap.size (.slice a n c) (zs r.1) ∧ Below w.heap.size w w'

theorem RunIs.of {r : List Nat × Nat × Nat} {w w' : World} {v : Value} (h : OwnR w' w.heap.size v (zs r.1)) (hb : Below w.heap.size w w') :
    RunIs r w (.returned (.tuple #[v, .int .i64 r.2.1, .int .i64 r.2.2])) w' := by
  obtain ⟨a, n, c, rfl, _⟩ := h.runs
  exact ⟨a, n, c, rfl, h, hb⟩

theorem ownR_iterAt {w : World} {base : Nat} {v : Value} {l : List Int} (h : OwnR w base v l) {k : Nat} (hk : k < base) (s : ByteArray) (pos : Nat) : OwnR (w.iterAt k s pos) base v l := by
  obtain ⟨h1, h2⟩ := h
  refine ⟨h1, ?_⟩
  rcases h2 with h2 | ⟨g, cap, cur, hv, hg, hh, r⟩
  · exact .inl h2
  · exact .inr ⟨g, cap, cur, hv, hg, by rw [Lib.iterAt_other w k g s pos (by omega)]; exact hh, r⟩

/-- A block that is no row of the owner's stands. -/
theorem kept_block {w w' : World} {v : Value} {k base : Nat} (hg : w.grownBy w' v.ownBlock) (hb : ∀ q, v.ownBlock = some q → base ≤ q) (hk : k < w.heap.size) (hkb : k < base) : w'.heap[k]? = w.heap[k]? :=
  hg.block k hk (fun e => by have := hb k e.symm; omega)

set_option maxRecDepth 100000 in
set_option maxHeartbeats 1000000 in
theorem runes_any (s : ByteArray) (w : World) (hs : s.size ≤ 20000000000) (hT : Tabs w) :
    Calls Tryd.prog 17 #[.string s] w (RunIs (runE s.data.toList) w) := by
  rcases runesF_cases s.data.toList with ⟨L, hL⟩ | ⟨p, hL⟩
  · have HC := Lib.hid (check_some s L _ w (by omega) hT hL)
    have HE := Lib.hid (runE_some hL)
    have hll := runesF_len hL
    rw [str_len] at hll
    have HL := Lib.hid hL
    have HLL := Lib.hid hll
    have hsI : (s.size : Int) ≤ 20000000000 := by omega
    have HS := Lib.hid hs
    have HI := Lib.hid (Inv.start s.data.toList)
    clear hs hT hL hll
    go_enter Tryd.func17, Tryd.ntmps17
    go_wp2_with (go_at_call 19; go_must (refine HC.out.mono ?_); rintro e w1 ⟨rfl, hb⟩)
    go_loopg [7] s.size (fun g v7 W => ∃ (p : Nat) (acc : List Nat), Below w.heap.size w W ∧ W.heap[w1.heap.size]? = some (.stringIter s p) ∧ OwnR W (w1.heap.size + 1) v7 (zs acc) ∧ g + p = s.size ∧ Hid (Inv s.data.toList p acc))
    case atStart =>
      refine ⟨0, [], hb.alloc hb.size _, ?_, OwnR.nil _ _, rfl, HI⟩
      exact World.iter_heap w1 s 0
    case round =>
      obtain ⟨p, acc, hbw, hit, hown, hg, hinv⟩ := hrel
      have HG := Lib.hid hg
      have hacc : acc.length ≤ s.size := by
        obtain ⟨m, hm⟩ := hinv.out.pre HL.out
        have := HLL.out
        rw [hm, List.length_append] at this
        omega
      have HA := Lib.hid hacc
      clear hacc
      by_cases hp : p < s.size
      · obtain ⟨n, k, hd⟩ := hinv.out.more HL.out (by rw [str_len]; exact hp)
        obtain ⟨hn, hk1, hk4, hkl⟩ := dec_bounds hd
        have HK := Lib.hid (show 1 ≤ k ∧ k ≤ s.size - p from ⟨hk1, by simpa using hkl⟩)
        have HI2 := Lib.hid (hinv.out.step hd)
        have hnx := fun ty => next_rune wr w1.heap.size s p n k ty hit hp hd
        have hit2 := Lib.iterAt_heap wr w1.heap.size s p (p + k) hit
        have hb2 := Lib.below_iterAt hbw (k := w1.heap.size) hb.size s (p + k)
        have hown2 := ownR_iterAt hown (k := w1.heap.size) (by omega) s (p + k)
        clear hd hg hn hk1 hk4 hkl hp
        have hlt : w1.heap.size < (wr.iterAt w1.heap.size s (p + k)).heap.size := (Array.getElem?_eq_some_iff.1 hit2).1
        generalize wr.iterAt w1.heap.size s (p + k) = w2 at hnx hit2 hb2 hown2 hlt
        have HIT := Lib.hid hit2
        clear hit hown hit2
        go_wp2_with ((with_reducible show wpList _ _ _ (⟨some 27, _, _, _, _, _⟩ :: _) _ _); go_must (refine app_runs rfl (.tmp 24) (.tmp 26) rfl (w1.heap.size + 1) _ (zs acc) rfl (hown2.alloc _) _ 1 1 [(n : Int)] rfl (runs_one _ _) (by rw [zs_length]; have := HA.out; have := HS.out; omega) (by simp; omega) ?_); intro v3 w3 hown3 hgr3)
        have hgr3' := kept_block (k := w1.heap.size) hgr3 (fun q hq => (World.ownsRow.lt hown2 q hq).1) (by simp; omega) (by omega)
        have HX := Lib.hid (show w3.heap[w1.heap.size]? = some (.stringIter s (p + k)) by rw [hgr3', heap_alloc_old (h := hlt)]; exact HIT.out)
        have hb3 := (hb2.alloc hb2.size (.cells #[.int .i32 (n : Int)] 21)).grown hgr3 (by have := hb2.size; simp; omega) (fun q hq => by have := (World.ownsRow.lt hown2 q hq).1; have := hb.size; omega)
        rw [show zs acc ++ [(n : Int)] = zs (acc ++ [n]) from (zs_append acc [n]).symm] at hown3
        clear hgr3 hgr3' hown2 hnx
        go_roundg (gk - k)
        case measure => have := HG.out; have := HK.out; omega
        case rel => exact ⟨p + k, _, hb3, HX.out, hown3, by have := HG.out; have := HK.out; omega, HI2⟩
      · have hnx := fun ty => Lib.run_next_end_at (P := Tryd.prog) wr w1.heap.size s p ty hit hp
        have he := hinv.out.done (by rw [str_len]; omega)
        rw [HL.out] at he
        have HX := Lib.hid (show L = acc by simpa using congrArg (·.1) he)
        clear he hg hp hit
        go_wp2
        go_ret3
        rw [HE.out, HX.out]
        exact RunIs.of (r := (acc, 0, 0)) (hown.mono (by have := hb.size; omega)) hbw
  · have HC := Lib.hid (check_none s p w (by omega) hT hL)
    have HE := Lib.hid (runE_none hL)
    clear hs hT hL
    go_enter Tryd.func17, Tryd.ntmps17
    go_wp2_with (go_at_call 19; go_must (refine HC.out.mono ?_); rintro e w1 ⟨rfl, hb⟩)
    go_ret3
    rw [HE.out]
    exact RunIs.of (r := ([], p, 5)) (OwnR.nil _ _) hb
#print axioms runes_any
end Go.Proofs.YtpopjkkihhidjaaDoor
