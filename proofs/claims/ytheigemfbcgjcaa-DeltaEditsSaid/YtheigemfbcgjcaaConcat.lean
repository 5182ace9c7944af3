/-
  The walks of slices.Grow at nil and of slices.Concat: the parts, one behind the other, in new memory.
-/
import Derived.Test.YtheigemfbcgjcaaBytes
import Derived.Deep.LoopGhost
namespace Go.Proofs.Ytheigemfbcgjcaa
open Go.RowKit

/-- New memory with room for so many bytes, none of them laid yet. -/
def Grown (w : World) (n : Nat) (e : Ending) (w' : World) : Prop := ∃ v, e = .returned v ∧ Own w' w.heap.size v [] ∧ Room v n ∧ Below w.heap.size w w'

theorem zeros_own (w : World) (n cap : Nat) (hn : n ≤ cap) (hc : cap ≤ maxLen) (base : Nat) (hb : base ≤ w.heap.size) :
    Own (w.drew.alloc (.cells (Builtin.zeroCells (Value.int .u8 0).cells n ++ Builtin.zeroCells (Value.int .u8 0).cells (cap - n)) 5)) base (.slice (some ⟨w.heap.size, 0, none⟩) 0 cap) [] := by
  refine ⟨rfl, .inr ⟨w.heap.size, cap, _, rfl, hb, heap_alloc_new w.drew _, Nat.zero_le _, hc, ?_, by simp⟩⟩
  have h1 : (Value.int IntKind.u8 0).cells.size = 1 := rfl
  simp only [Array.size_append, size_zeroCells, h1]
  omega

set_option maxRecDepth 100000 in
set_option maxHeartbeats 400000 in
theorem grow_nil (n : Nat) (w : World) (hn : n ≤ 281474976710656) :
    Calls Try.prog 41 #[.slice none 0 0, .int .i64 n] w (Grown w n) := by
  obtain ⟨i0, hi, hz0, hz1, hz2⟩ := info_parts Try.info5
  rcases Nat.eq_zero_or_pos n with h0 | h0
  · subst h0
    go_enter Try.func41, Try.ntmps41
    go_wp2
    go_ret
    exact ⟨_, rfl, Own.nil _ _, ⟨_, _, _, rfl, Nat.le_refl _⟩, Below.refl _ _⟩
  · have hrz : ∀ ty, (Builtin.append_ #[22, 3] ty #[.slice none 0 0, .int .i64 n]).run Try.prog w =
        .ok (.slice (some ⟨w.heap.size, 0, none⟩) n (grownCap w n 0 5)) (w.drew.alloc (.cells (Builtin.zeroCells (Value.int .u8 0).cells n ++ Builtin.zeroCells (Value.int .u8 0).cells (grownCap w n 0 5 - n)) 5)) := fun ty =>
      Lib.run_append_nil_zeros w 22 3 ty 5 i0 (.int .u8 0) .i64 .i64 Try.underlying22 Try.underlying3 hi hz0 n h0 (by omega) (by omega) (by rw [hz2]; omega)
    have hge := grownCap_ge w n 0 5
    have hle := grownCap_le_maxLen w n 0 5 (by unfold maxLen; omega)
    generalize grownCap w n 0 5 = G at hrz hge hle
    have hG : G ≤ 9223372036854775807 := by unfold maxLen at hle; omega
    have hOwn := zeros_own w n G hge hle w.heap.size (Nat.le_refl _)
    have HO := Lib.hid hOwn
    clear hOwn hi hz0 hz1 hz2 hle
    go_enter Try.func41, Try.ntmps41
    go_wp2_with (at_builtin; go_must (refine Lib.wpList_append_run _ rfl _ _ _ _ rfl _ _ rfl rfl _ _ (hrz _) ?_))
    go_ret
    exact ⟨_, rfl, HO.out, ⟨_, _, _, rfl, hge⟩, (Below.refl _ _).drew.alloc (Nat.le_refl _) _⟩

/-- How many bytes the first parts hold. -/
def sumTo (ls : List (List UInt8)) (j : Nat) : Nat := ((ls.take j).flatten).length

theorem take_next (ls : List (List UInt8)) (j : Nat) (h : j < ls.length) : (ls.take (j + 1)).flatten = (ls.take j).flatten ++ ls.getD j [] := by
  rw [List.take_succ_eq_append_getElem h, List.flatten_append]; simp [h]

theorem sumTo_next (ls : List (List UInt8)) (j n : Nat) (h : j < ls.length) (hn : (ls.getD j []).length = n) : sumTo ls (j + 1) = sumTo ls j + n := by
  unfold sumTo; rw [take_next ls j h, List.length_append, hn]

theorem sumTo_le (ls : List (List UInt8)) (j : Nat) : sumTo ls j ≤ ls.flatten.length := by
  unfold sumTo
  have : ls.flatten.length = ((ls.take j).flatten).length + ((ls.drop j).flatten).length := by
    rw [← List.length_append, ← List.flatten_append, List.take_append_drop]
  omega

theorem sumTo_all (ls : List (List UInt8)) (j : Nat) (h : ls.length ≤ j) : sumTo ls j = ls.flatten.length := by
  unfold sumTo; rw [List.take_of_length_le h]

/-- The parts that were handed over. -/
def Parts (w : World) (g : Nat) (ls : List (List UInt8)) : Prop := ∀ j, j < ls.length → ∃ a n c, w.cell? ⟨g, j, none⟩ = some (.slice a n c) ∧ Bytes w a n c (ls.getD j [])

theorem Parts.below {w w' : World} {g : Nat} {ls : List (List UInt8)} (h : Parts w g ls) (hb : Below w.heap.size w w') : Parts w' g ls := fun j hj => by
  obtain ⟨a, n, c, h1, h2⟩ := h j hj
  exact ⟨a, n, c, (hb.cell (World.block_lt_of_cell? _ _ h1)).trans h1, h2.below hb⟩

set_option maxRecDepth 100000 in
set_option maxHeartbeats 400000 in
theorem concat_any (g k : Nat) (ls : List (List UInt8)) (w : World) (hk : ls.length = k) (hk63 : k ≤ 1000000) (hp : Parts w g ls) (ht : ls.flatten.length ≤ 281474976710656) :
    Calls Try.prog 27 #[.slice (some ⟨g, 0, none⟩) k k] w (Made w ls.flatten) := by
  have HK := Lib.hid hk
  clear hk
  obtain ⟨T, hT⟩ : ∃ T, T = ls.flatten.length := ⟨_, rfl⟩
  rw [← hT] at ht
  have HT := Lib.hid hT
  clear hT
  go_enter Try.func27, Try.ntmps27
  go_wp2
  go_loopg [3, 11] k (fun gh v3 v11 W => ∃ j s : Nat, w = W ∧ gh + j = k ∧ Hid (s = sumTo ls j) ∧ v11 = .int .i64 j ∧ v3 = .int .i64 s)
  case atStart => exact ⟨0, 0, rfl, rfl, rfl, rfl, rfl⟩
  case round =>
    obtain ⟨j, s, rfl, hg, hs, rfl, rfl⟩ := hrel
    have HG := Lib.hid hg
    have hjk : j ≤ k := by omega
    clear hg
    have hsT : s ≤ T := by rw [hs.out, HT.out]; exact sumTo_le _ _
    by_cases hj : j < k
    · obtain ⟨a, n, c, hcell, hB⟩ := hp j (by have := HK.out; omega)
      have hnx := sumTo_next ls j n (by have := HK.out; omega) hB.1
      have hnT : s + n ≤ T := by rw [hs.out, HT.out, ← hnx]; exact sumTo_le _ _
      have HN := Lib.hid hnx
      clear hnx hB
      go_wp2
      go_roundg (gk - 1)
      case measure => have := HG.out; omega
      case rel => exact ⟨j + 1, s + n, rfl, by have := HG.out; omega, by rw [hs.out]; exact HN.out.symm, by go_num, by go_num⟩
    · have hsall : s = T := by rw [hs.out, HT.out]; exact sumTo_all _ _ (by have := HK.out; omega)
      subst hsall
      go_wp2_with (go_at_call 41; refine (grow_nil _ _ (by omega)).mono ?_; rintro e w1 ⟨v, rfl, hown, hroom, hbel⟩)
      go_loopg [6, 27] k (fun gh v6 v27 W => ∃ j : Nat, gh + j = k ∧ v27 = .int .i64 j ∧ Own W w.heap.size v6 ((ls.take j).flatten) ∧ Room v6 s ∧ Below w.heap.size w W)
      case atStart => exact ⟨0, rfl, rfl, hown, hroom, hbel⟩
      case round =>
        obtain ⟨j', hg', rfl, hown', hroom', hbel'⟩ := hrel
        have HG' := Lib.hid hg'
        have hjk' : j' ≤ k := by omega
        clear hg' hown hroom hbel
        have hsz := hbel'.size
        by_cases hj' : j' < k
        · obtain ⟨a, n, c, hcell, hB⟩ := (hp.below hbel') j' (by have := HK.out; omega)
          have hnx := sumTo_next ls j' n (by have := HK.out; omega) hB.1
          have hnT : ((ls.take j').flatten).length + n ≤ s := by
            have := sumTo_le ls (j' + 1)
            have := HT.out
            unfold sumTo at *
            omega
          have HB := Lib.hid hB
          have HT' := Lib.hid (take_next ls j' (by have := HK.out; omega))
          clear hnx hB
          go_wp2_with (at_builtin; go_must (refine app_room rfl (.tmp 31) (.tmp 32) rfl w.heap.size _ _ rfl hown' s hroom' a n c (ls.getD j' []) rfl HB.out hnT ?_); intro v' w2 hown2 hroom2 hgr2)
          go_roundg (gk - 1)
          case measure => have := HG'.out; omega
          case rel => exact ⟨j' + 1, by have := HG'.out; omega, by go_num, by rw [HT'.out]; exact hown2, hroom2, hbel'.grown hgr2 hsz hown'.grown⟩
        · have hall : (ls.take j') = ls := List.take_of_length_le (by have := HK.out; omega)
          have HA := Lib.hid hall
          clear hall
          go_wp2
          go_ret
          exact Made.of (by rw [HA.out] at hown'; exact hown') hbel'
#print axioms concat_any
end Go.Proofs.Ytheigemfbcgjcaa
