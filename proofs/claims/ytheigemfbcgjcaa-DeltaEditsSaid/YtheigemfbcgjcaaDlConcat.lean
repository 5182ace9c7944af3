/-
  The walks of slices.Grow at nil and of slices.Concat, at int.
-/
import Derived.Test.YtheigemfbcgjcaaDlInK
import Derived.Deep.LoopGhost
import Derived.Lib.AppendZeros
namespace Go.Proofs.Ytheigemfbcgjcaa
open Go.RowKit

def Grown_iw (w : World) (e : Ending) (w' : World) : Prop := ∃ a c, e = .returned (.slice a 0 c) ∧ OwnG iwK INTf w' w.heap.size (.slice a 0 c) [] ∧ Below w.heap.size w w'
theorem zeros_iw (w : World) (n cap : Nat) (hn : n ≤ cap) (hc : cap ≤ maxLen) (base : Nat) (hb : base ≤ w.heap.size) :
    OwnG iwK INTf (w.drew.alloc (.cells (Builtin.zeroCells (Value.int .i64 0).cells n ++ Builtin.zeroCells (Value.int .i64 0).cells (cap - n)) INTf)) base (.slice (some ⟨w.heap.size, 0, none⟩) 0 cap) [] := by
  refine ⟨⟨rfl, .inr ⟨w.heap.size, cap, _, rfl, hb, heap_alloc_new w.drew _, Nat.zero_le _, hc, ?_, by simp [flatG]⟩⟩, (fun _ h => by cases h)⟩
  have h1 : (Value.int .i64 0).cells.size = 1 := by kernel_rfl
  simp only [Array.size_append, size_zeroCells, h1]
  show _ = cap * 1
  omega
set_option maxRecDepth 100000 in
set_option maxHeartbeats 400000 in
theorem grow_iw (n : Nat) (w : World) (hn : n ≤ 1000000) :
    Calls Try.prog 47 #[.slice none 0 0, .int .i64 n] w (Grown_iw w) := by
  obtain ⟨i0, hi, hz0, hz1, hz2⟩ := info_parts infoIf
  rcases Nat.eq_zero_or_pos n with h0 | h0
  · subst h0
    go_enter Try.func47, Try.ntmps47
    go_wp2
    go_ret
    exact ⟨_, _, rfl, OwnG.nil, Below.refl _ _⟩
  · have hrz : ∀ ty, (Builtin.append_ #[53, 3] ty #[.slice none 0 0, .int .i64 n]).run Try.prog w =
        .ok (.slice (some ⟨w.heap.size, 0, none⟩) n (grownCap w n 0 INTf)) (w.drew.alloc (.cells (Builtin.zeroCells (Value.int .i64 0).cells n ++ Builtin.zeroCells (Value.int .i64 0).cells (grownCap w n 0 INTf - n)) INTf)) := fun ty =>
      Lib.run_append_nil_zeros w 53 3 ty INTf i0 (.int .i64 0) .i64 .i64 Try.underlying53 Try.underlying3 hi hz0 n h0 (by rw [hz1]; omega) (by omega) (by rw [hz2]; omega)
    have hge := grownCap_ge w n 0 INTf
    have hle := grownCap_le_maxLen w n 0 INTf (by unfold maxLen; omega)
    generalize grownCap w n 0 INTf = G at hrz hge hle
    have hG : G ≤ 9223372036854775807 := by unfold maxLen at hle; omega
    have HO := Lib.hid (zeros_iw w n G hge hle w.heap.size (Nat.le_refl _))
    have HRZ := Lib.hid hrz
    obtain ⟨OB, hOB⟩ : ∃ OB, OB = (Obj.cells (Builtin.zeroCells (Value.int .i64 0).cells n ++ Builtin.zeroCells (Value.int .i64 0).cells (G - n)) INTf) := ⟨_, rfl⟩
    rw [← hOB] at HO HRZ
    clear hi hz0 hz1 hz2 hle hrz hOB
    go_enter Try.func47, Try.ntmps47
    go_wp2_with (at_builtin; go_must (refine Lib.wpList_append_run _ rfl _ _ _ _ rfl _ _ rfl rfl _ _ (HRZ.out _) ?_))
    go_ret
    exact ⟨_, _, rfl, HO.out, (Below.refl _ _).drew.alloc (Nat.le_refl _) _⟩

def sum_iw (ls : List (List Nat)) (j : Nat) : Nat := ((ls.take j).flatten).length
theorem take_iw_next (ls : List (List Nat)) (j : Nat) (h : j < ls.length) : (ls.take (j + 1)).flatten = (ls.take j).flatten ++ ls.getD j [] := by
  rw [List.take_succ_eq_append_getElem h, List.flatten_append]; simp [h]
theorem sum_iw_next (ls : List (List Nat)) (j n : Nat) (h : j < ls.length) (hn : (ls.getD j []).length = n) : sum_iw ls (j + 1) = sum_iw ls j + n := by
  unfold sum_iw; rw [take_iw_next ls j h, List.length_append, hn]
theorem sum_iw_le (ls : List (List Nat)) (j : Nat) : sum_iw ls j ≤ ls.flatten.length := by
  unfold sum_iw
  have : ls.flatten.length = ((ls.take j).flatten).length + ((ls.drop j).flatten).length := by
    rw [← List.length_append, ← List.flatten_append, List.take_append_drop]
  omega
theorem sum_iw_all (ls : List (List Nat)) (j : Nat) (h : ls.length ≤ j) : sum_iw ls j = ls.flatten.length := by
  unfold sum_iw; rw [List.take_of_length_le h]
def Parts_iw (w : World) (g : Nat) (ls : List (List Nat)) : Prop := ∀ j, j < ls.length → ∃ a n c, w.cell? ⟨g, j, none⟩ = some (.slice a n c) ∧ AtG iwK w a n c (ls.getD j [])
theorem Parts_iw.below {w w' : World} {g : Nat} {ls : List (List Nat)} (h : Parts_iw w g ls) (hb : Below w.heap.size w w') : Parts_iw w' g ls := fun j hj => by
  obtain ⟨a, n, c, h1, h2⟩ := h j hj
  exact ⟨a, n, c, (hb.cell (World.block_lt_of_cell? _ _ h1)).trans h1, h2.below hb⟩
def Made_iw (w : World) (L : List Nat) (e : Ending) (w' : World) : Prop := ∃ a n c, e = .returned (.slice a n c) ∧ OwnG iwK INTf w' w.heap.size (.slice a n c) L ∧ Below w.heap.size w w'
set_option maxRecDepth 100000 in
set_option maxHeartbeats 1000000 in
theorem concat_iw (g k : Nat) (ls : List (List Nat)) (w : World) (hk : ls.length = k) (hk63 : k ≤ 1000000) (hp : Parts_iw w g ls) (ht : ls.flatten.length ≤ 1000000) :
    Calls Try.prog 30 #[.slice (some ⟨g, 0, none⟩) k k] w (Made_iw w ls.flatten) := by
  have HK := Lib.hid hk
  clear hk
  obtain ⟨T, hT⟩ : ∃ T, T = ls.flatten.length := ⟨_, rfl⟩
  rw [← hT] at ht
  have HT := Lib.hid hT
  have HPP := Lib.hid hp
  clear hT hp
  go_enter Try.func30, Try.ntmps30
  go_wp2
  go_loopg [3, 11] k (fun gh v3 v11 W => ∃ j s : Nat, w = W ∧ gh + j = k ∧ Hid (s = sum_iw ls j) ∧ v11 = .int .i64 j ∧ v3 = .int .i64 s)
  case atStart => exact ⟨0, 0, rfl, rfl, Lib.hid rfl, rfl, rfl⟩
  case round =>
    obtain ⟨j, s, rfl, hg, hs, rfl, rfl⟩ := hrel
    have HG := Lib.hid hg
    have hjk : j ≤ k := by omega
    clear hg
    have hsT : s ≤ T := by rw [hs.out, HT.out]; exact sum_iw_le _ _
    by_cases hj : j < k
    · obtain ⟨a, n, c, hcell, hB⟩ := HPP.out j (by have := HK.out; omega)
      have hnx := sum_iw_next ls j n (by have := HK.out; omega) hB.1
      have hnT : s + n ≤ T := by rw [hs.out, HT.out, ← hnx]; exact sum_iw_le _ _
      have HN := Lib.hid hnx
      clear hnx hB
      go_wp2
      go_roundg (gk - 1)
      case measure => have := HG.out; omega
      case rel => exact ⟨j + 1, s + n, rfl, by have := HG.out; omega, Lib.hid (by rw [hs.out]; exact HN.out.symm), by go_num, by go_num⟩
    · have HSA := Lib.hid (show s = T by rw [hs.out, HT.out]; exact sum_iw_all _ _ (by have := HK.out; omega))
      go_wp2_with (go_at_call 47; go_must (refine (grow_iw s _ (by omega)).mono ?_); rintro e w1 ⟨a1, c1, rfl, hown, hbel⟩)
      have HOW := Lib.hid hown
      have HBL := Lib.hid hbel
      clear hown hbel
      go_loopg [6, 27] k (fun gh v6 v27 W => ∃ (j r : Nat) (a1 : Option Addr) (c1 : Nat), gh + j = k ∧ v27 = .int .i64 j ∧ v6 = .slice a1 r c1 ∧ Hid (r = sum_iw ls j) ∧ Hid (OwnG iwK INTf W w.heap.size (.slice a1 r c1) ((ls.take j).flatten)) ∧ Below w.heap.size w W)
      case atStart => exact ⟨0, 0, a1, c1, rfl, rfl, rfl, Lib.hid rfl, HOW, HBL.out⟩
      case round =>
        clear HOW HBL
        obtain ⟨j', r, a2, c2, hg', rfl, rfl, HR, HOW, hbel'⟩ := hrel
        have HG' := Lib.hid hg'
        have hjk' : j' ≤ k := by omega
        clear hg'
        by_cases hj' : j' < k
        · obtain ⟨a, n, c, hcell, hB⟩ := (HPP.out.below hbel') j' (by have := HK.out; omega)
          have HNX := Lib.hid (sum_iw_next ls j' n (by have := HK.out; omega) hB.1)
          have H48 := Lib.hid (show (((ls.take j').flatten).length + n) * (8 + 1) ≤ 140737488355328 by
            have h1 := sum_iw_le ls (j' + 1)
            have h2 := HT.out
            have h3 := HNX.out
            unfold sum_iw at h1 h3
            omega)
          have HRR := Lib.hid (show r + n = ((ls.take j').flatten).length + n by rw [HR.out]; rfl)
          have HB := Lib.hid hB
          have HT' := Lib.hid (take_iw_next ls j' (by have := HK.out; omega))
          have HSZ := Lib.hid hbel'.size
          clear hB
          go_wp2_with (at_builtin; go_must (refine appG iwK Try.underlying53 infoIf (by kernel_rfl) rfl (.tmp 31) (.tmp 32) rfl w.heap.size _ _ rfl HOW.out a n c (ls.getD j' []) rfl HB.out H48.out HSZ.out (r + n) HRR.out ?_); intro a3 c3 w2 hown2 hgr2)
          have HB2 := Lib.hid (hbel'.grown hgr2 HSZ.out (fun k hk => (HOW.out.lt k hk).1))
          clear hgr2
          go_roundg (gk - 1)
          case measure => have := HG'.out; omega
          case rel => exact ⟨j' + 1, r + n, a3, c3, by have := HG'.out; omega, by go_num, rfl, Lib.hid (by rw [HNX.out, HR.out]), Lib.hid (by rw [HT'.out]; exact hown2), HB2.out⟩
        · have HA := Lib.hid (show (ls.take j') = ls from List.take_of_length_le (by have := HK.out; omega))
          go_wp2
          go_ret
          exact ⟨_, _, _, rfl, by have h := HOW.out; rwa [HA.out] at h, hbel'⟩
#print axioms concat_iw
end Go.Proofs.Ytheigemfbcgjcaa
