/-
  The walks of slices.Grow at nil and of slices.Concat, at variorum/refs.Named.
-/
import Derived.Test.YtkhcoefcifaaeaaDoorRfInsert
import Derived.Deep.LoopGhost
import Derived.Lib.AppendZeros
namespace Go.Proofs.YtkhcoefcifaaeaaDoor
open Go.RowKit

def Grown_rn (w : World) (e : Ending) (w' : World) : Prop := ∃ a c, e = .returned (.slice a 0 c) ∧ OwnG rnK NEf w' w.heap.size (.slice a 0 c) [] ∧ Below w.heap.size w w'
theorem zeros_rn (w : World) (n cap : Nat) (hn : n ≤ cap) (hc : cap ≤ maxLen) (base : Nat) (hb : base ≤ w.heap.size) :
    OwnG rnK NEf (w.drew.alloc (.cells (Builtin.zeroCells (Value.agg (rnL ([], zId)).toArray).cells n ++ Builtin.zeroCells (Value.agg (rnL ([], zId)).toArray).cells (cap - n)) NEf)) base (.slice (some ⟨w.heap.size, 0, none⟩) 0 cap) [] := by
  refine ⟨⟨rfl, .inr ⟨w.heap.size, cap, _, rfl, hb, heap_alloc_new w.drew _, Nat.zero_le _, hc, ?_, by simp [flatG]⟩⟩, (fun _ h => by cases h)⟩
  have h1 : (Value.agg (rnL ([], zId)).toArray).cells.size = 33 := by kernel_rfl
  simp only [Array.size_append, size_zeroCells, h1]
  show _ = cap * 33
  omega
set_option maxRecDepth 100000 in
set_option maxHeartbeats 400000 in
theorem grow_rn (n : Nat) (w : World) (hn : n ≤ 1000000) :
    Calls Tryd.prog 41 #[.slice none 0 0, .int .i64 n] w (Grown_rn w) := by
  obtain ⟨i0, hi, hz0, hz1, hz2⟩ := info_parts infoNf
  rcases Nat.eq_zero_or_pos n with h0 | h0
  · subst h0
    go_enter Tryd.func41, Tryd.ntmps41
    go_wp2
    go_ret
    exact ⟨_, _, rfl, OwnG.nil, Below.refl _ _⟩
  · have hrz : ∀ ty, (Builtin.append_ #[32, 3] ty #[.slice none 0 0, .int .i64 n]).run Tryd.prog w =
        .ok (.slice (some ⟨w.heap.size, 0, none⟩) n (grownCap w n 0 NEf)) (w.drew.alloc (.cells (Builtin.zeroCells (Value.agg (rnL ([], zId)).toArray).cells n ++ Builtin.zeroCells (Value.agg (rnL ([], zId)).toArray).cells (grownCap w n 0 NEf - n)) NEf)) := fun ty =>
      Lib.run_append_nil_zeros w 32 3 ty NEf i0 (.agg (rnL ([], zId)).toArray) .i64 .i64 Tryd.underlying32 Tryd.underlying3 hi hz0 n h0 (by rw [hz1]; omega) (by omega) (by rw [hz2]; omega)
    have hge := grownCap_ge w n 0 NEf
    have hle := grownCap_le_maxLen w n 0 NEf (by unfold maxLen; omega)
    generalize grownCap w n 0 NEf = G at hrz hge hle
    have hG : G ≤ 9223372036854775807 := by unfold maxLen at hle; omega
    have HO := Lib.hid (zeros_rn w n G hge hle w.heap.size (Nat.le_refl _))
    have HRZ := Lib.hid hrz
    obtain ⟨OB, hOB⟩ : ∃ OB, OB = (Obj.cells (Builtin.zeroCells (Value.agg (rnL ([], zId)).toArray).cells n ++ Builtin.zeroCells (Value.agg (rnL ([], zId)).toArray).cells (G - n)) NEf) := ⟨_, rfl⟩
    rw [← hOB] at HO HRZ
    clear hi hz0 hz1 hz2 hle hrz hOB
    go_enter Tryd.func41, Tryd.ntmps41
    go_wp2_with (at_builtin; go_must (refine Lib.wpList_append_run _ rfl _ _ _ _ rfl _ _ rfl rfl _ _ (HRZ.out _) ?_))
    go_ret
    exact ⟨_, _, rfl, HO.out, (Below.refl _ _).drew.alloc (Nat.le_refl _) _⟩

def sum_rn (ls : List (List RName)) (j : Nat) : Nat := ((ls.take j).flatten).length
theorem take_rn_next (ls : List (List RName)) (j : Nat) (h : j < ls.length) : (ls.take (j + 1)).flatten = (ls.take j).flatten ++ ls.getD j [] := by
  rw [List.take_succ_eq_append_getElem h, List.flatten_append]; simp [h]
theorem sum_rn_next (ls : List (List RName)) (j n : Nat) (h : j < ls.length) (hn : (ls.getD j []).length = n) : sum_rn ls (j + 1) = sum_rn ls j + n := by
  unfold sum_rn; rw [take_rn_next ls j h, List.length_append, hn]
theorem sum_rn_le (ls : List (List RName)) (j : Nat) : sum_rn ls j ≤ ls.flatten.length := by
  unfold sum_rn
  have : ls.flatten.length = ((ls.take j).flatten).length + ((ls.drop j).flatten).length := by
    rw [← List.length_append, ← List.flatten_append, List.take_append_drop]
  omega
theorem sum_rn_all (ls : List (List RName)) (j : Nat) (h : ls.length ≤ j) : sum_rn ls j = ls.flatten.length := by
  unfold sum_rn; rw [List.take_of_length_le h]
def Parts_rn (w : World) (g : Nat) (ls : List (List RName)) : Prop := ∀ j, j < ls.length → ∃ a n c, w.cell? ⟨g, j, none⟩ = some (.slice a n c) ∧ AtG rnK w a n c (ls.getD j [])
theorem Parts_rn.below {w w' : World} {g : Nat} {ls : List (List RName)} (h : Parts_rn w g ls) (hb : Below w.heap.size w w') : Parts_rn w' g ls := fun j hj => by
  obtain ⟨a, n, c, h1, h2⟩ := h j hj
  exact ⟨a, n, c, (hb.cell (World.block_lt_of_cell? _ _ h1)).trans h1, h2.below hb⟩
def Made_rn (w : World) (L : List RName) (e : Ending) (w' : World) : Prop := ∃ a n c, e = .returned (.slice a n c) ∧ OwnG rnK NEf w' w.heap.size (.slice a n c) L ∧ Below w.heap.size w w'
set_option maxRecDepth 100000 in
set_option maxHeartbeats 1000000 in
theorem concat_rn (g k : Nat) (ls : List (List RName)) (w : World) (hk : ls.length = k) (hk63 : k ≤ 1000000) (hp : Parts_rn w g ls) (ht : ls.flatten.length ≤ 1000000) :
    Calls Tryd.prog 22 #[.slice (some ⟨g, 0, none⟩) k k] w (Made_rn w ls.flatten) := by
  have HK := Lib.hid hk
  clear hk
  obtain ⟨T, hT⟩ : ∃ T, T = ls.flatten.length := ⟨_, rfl⟩
  rw [← hT] at ht
  have HT := Lib.hid hT
  have HPP := Lib.hid hp
  clear hT hp
  go_enter Tryd.func22, Tryd.ntmps22
  go_wp2
  go_loopg [3, 11] k (fun gh v3 v11 W => ∃ j s : Nat, w = W ∧ gh + j = k ∧ Hid (s = sum_rn ls j) ∧ v11 = .int .i64 j ∧ v3 = .int .i64 s)
  case atStart => exact ⟨0, 0, rfl, rfl, Lib.hid rfl, rfl, rfl⟩
  case round =>
    obtain ⟨j, s, rfl, hg, hs, rfl, rfl⟩ := hrel
    have HG := Lib.hid hg
    have hjk : j ≤ k := by omega
    clear hg
    have hsT : s ≤ T := by rw [hs.out, HT.out]; exact sum_rn_le _ _
    by_cases hj : j < k
    · obtain ⟨a, n, c, hcell, hB⟩ := HPP.out j (by have := HK.out; omega)
      have hnx := sum_rn_next ls j n (by have := HK.out; omega) hB.1
      have hnT : s + n ≤ T := by rw [hs.out, HT.out, ← hnx]; exact sum_rn_le _ _
      have HN := Lib.hid hnx
      clear hnx hB
      go_wp2
      go_roundg (gk - 1)
      case measure => have := HG.out; omega
      case rel => exact ⟨j + 1, s + n, rfl, by have := HG.out; omega, Lib.hid (by rw [hs.out]; exact HN.out.symm), by go_num, by go_num⟩
    · have HSA := Lib.hid (show s = T by rw [hs.out, HT.out]; exact sum_rn_all _ _ (by have := HK.out; omega))
      go_wp2_with (go_at_call 41; go_must (refine (grow_rn s _ (by omega)).mono ?_); rintro e w1 ⟨a1, c1, rfl, hown, hbel⟩)
      have HOW := Lib.hid hown
      have HBL := Lib.hid hbel
      clear hown hbel
      go_loopg [6, 27] k (fun gh v6 v27 W => ∃ (j r : Nat) (a1 : Option Addr) (c1 : Nat), gh + j = k ∧ v27 = .int .i64 j ∧ v6 = .slice a1 r c1 ∧ Hid (r = sum_rn ls j) ∧ Hid (OwnG rnK NEf W w.heap.size (.slice a1 r c1) ((ls.take j).flatten)) ∧ Below w.heap.size w W)
      case atStart => exact ⟨0, 0, a1, c1, rfl, rfl, rfl, Lib.hid rfl, HOW, HBL.out⟩
      case round =>
        clear HOW HBL
        obtain ⟨j', r, a2, c2, hg', rfl, rfl, HR, HOW, hbel'⟩ := hrel
        have HG' := Lib.hid hg'
        have hjk' : j' ≤ k := by omega
        clear hg'
        by_cases hj' : j' < k
        · obtain ⟨a, n, c, hcell, hB⟩ := (HPP.out.below hbel') j' (by have := HK.out; omega)
          have HNX := Lib.hid (sum_rn_next ls j' n (by have := HK.out; omega) hB.1)
          have H48 := Lib.hid (show (((ls.take j').flatten).length + n) * (48 + 1) ≤ 140737488355328 by
            have h1 := sum_rn_le ls (j' + 1)
            have h2 := HT.out
            have h3 := HNX.out
            unfold sum_rn at h1 h3
            omega)
          have HRR := Lib.hid (show r + n = ((ls.take j').flatten).length + n by rw [HR.out]; rfl)
          have HB := Lib.hid hB
          have HT' := Lib.hid (take_rn_next ls j' (by have := HK.out; omega))
          have HSZ := Lib.hid hbel'.size
          clear hB
          go_wp2_with (at_builtin; go_must (refine appG rnK Tryd.underlying32 infoNf (by kernel_rfl) rfl (.tmp 31) (.tmp 32) rfl w.heap.size _ _ rfl HOW.out a n c (ls.getD j' []) rfl HB.out H48.out HSZ.out (r + n) HRR.out ?_); intro a3 c3 w2 hown2 hgr2)
          have HB2 := Lib.hid (hbel'.grown hgr2 HSZ.out (fun k hk => (HOW.out.lt k hk).1))
          clear hgr2
          go_roundg (gk - 1)
          case measure => have := HG'.out; omega
          case rel => exact ⟨j' + 1, r + n, a3, c3, by have := HG'.out; omega, by go_num, rfl, Lib.hid (by rw [HNX.out, HR.out]), Lib.hid (by rw [HT'.out]; exact hown2), HB2.out⟩
        · have HA := Lib.hid (show (ls.take j') = ls from List.take_of_length_le (by have := HK.out; omega))
          go_wp2
          go_ret
          exact ⟨_, _, _, rfl, by have h := HOW.out; rwa [HA.out] at h, hbel'⟩
#print axioms concat_rn
end Go.Proofs.YtkhcoefcifaaeaaDoor
