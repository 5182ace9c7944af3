/-
  The walks of slices.Grow at nil and of slices.Concat, at ids; the program's Union.
-/
import Derived.Test.YtiakbbokmllcdaaIdRefSet
import Derived.Deep.LoopGhost
import Derived.Lib.AppendZeros
namespace Go.Proofs.Ytiakbbokmllcdaa
open Go.RowKit

/-- New memory with room, nothing laid yet. -/
def GrownI (w : World) (e : Ending) (w' : World) : Prop := ∃ a c, e = .returned (.slice a 0 c) ∧ OwnI w' w.heap.size (.slice a 0 c) [] ∧ Below w.heap.size w w'

theorem zerosI_own (w : World) (n cap : Nat) (hn : n ≤ cap) (hc : cap ≤ maxLen) (base : Nat) (hb : base ≤ w.heap.size) :
    OwnI (w.drew.alloc (.cells (Builtin.zeroCells (Value.agg (idCells idZero)).cells n ++ Builtin.zeroCells (Value.agg (idCells idZero)).cells (cap - n)) 23)) base (.slice (some ⟨w.heap.size, 0, none⟩) 0 cap) [] := by
  refine ⟨⟨rfl, .inr ⟨w.heap.size, cap, _, rfl, hb, heap_alloc_new w.drew _, Nat.zero_le _, hc, ?_, by simp [flat]⟩⟩, (fun _ h => by cases h)⟩
  have h1 : (Value.agg (idCells idZero)).cells.size = 32 := idCells_size idZero_length
  simp only [Array.size_append, size_zeroCells, h1]
  omega

set_option maxRecDepth 100000 in
set_option maxHeartbeats 400000 in
theorem growI_nil (n : Nat) (w : World) (hn : n ≤ 1000000000) :
    Calls Try.prog 51 #[.slice none 0 0, .int .i64 n] w (GrownI w) := by
  obtain ⟨i0, hi, hz0, hz1, hz2⟩ := info_parts Try.infoI23
  rcases Nat.eq_zero_or_pos n with h0 | h0
  · subst h0
    go_enter Try.func51, Try.ntmps51
    go_wp2
    go_ret
    exact ⟨_, _, rfl, OwnI.nil _ _, Below.refl _ _⟩
  · have hrz : ∀ ty, (Builtin.append_ #[30, 3] ty #[.slice none 0 0, .int .i64 n]).run Try.prog w =
        .ok (.slice (some ⟨w.heap.size, 0, none⟩) n (grownCap w n 0 23)) (w.drew.alloc (.cells (Builtin.zeroCells (Value.agg (idCells idZero)).cells n ++ Builtin.zeroCells (Value.agg (idCells idZero)).cells (grownCap w n 0 23 - n)) 23)) := fun ty =>
      Lib.run_append_nil_zeros w 30 3 ty 23 i0 (.agg (idCells idZero)) .i64 .i64 Try.underlying30 Try.underlying3 hi hz0 n h0 (by rw [hz1]; omega) (by omega) (by rw [hz2]; omega)
    have hge := grownCap_ge w n 0 23
    have hle := grownCap_le_maxLen w n 0 23 (by unfold maxLen; omega)
    generalize grownCap w n 0 23 = G at hrz hge hle
    have hG : G ≤ 9223372036854775807 := by unfold maxLen at hle; omega
    have HO := Lib.hid (zerosI_own w n G hge hle w.heap.size (Nat.le_refl _))
    have HRZ := Lib.hid hrz
    obtain ⟨OB, hOB⟩ : ∃ OB, OB = (Obj.cells (Builtin.zeroCells (Value.agg (idCells idZero)).cells n ++ Builtin.zeroCells (Value.agg (idCells idZero)).cells (G - n)) 23) := ⟨_, rfl⟩
    rw [← hOB] at HO HRZ
    clear hi hz0 hz1 hz2 hle hrz hOB
    go_enter Try.func51, Try.ntmps51
    go_wp2_with (at_builtin; go_must (refine Lib.wpList_append_run _ rfl _ _ _ _ rfl _ _ rfl rfl _ _ (HRZ.out _) ?_))
    go_ret
    exact ⟨_, _, rfl, HO.out, (Below.refl _ _).drew.alloc (Nat.le_refl _) _⟩

/-- How many ids the first parts hold. -/
def sumI (ls : List (List (List UInt8))) (j : Nat) : Nat := ((ls.take j).flatten).length
theorem takeI_next (ls : List (List (List UInt8))) (j : Nat) (h : j < ls.length) : (ls.take (j + 1)).flatten = (ls.take j).flatten ++ ls.getD j [] := by
  rw [List.take_succ_eq_append_getElem h, List.flatten_append]; simp [h]
theorem sumI_next (ls : List (List (List UInt8))) (j n : Nat) (h : j < ls.length) (hn : (ls.getD j []).length = n) : sumI ls (j + 1) = sumI ls j + n := by
  unfold sumI; rw [takeI_next ls j h, List.length_append, hn]
theorem sumI_le (ls : List (List (List UInt8))) (j : Nat) : sumI ls j ≤ ls.flatten.length := by
  unfold sumI
  have : ls.flatten.length = ((ls.take j).flatten).length + ((ls.drop j).flatten).length := by
    rw [← List.length_append, ← List.flatten_append, List.take_append_drop]
  omega
theorem sumI_all (ls : List (List (List UInt8))) (j : Nat) (h : ls.length ≤ j) : sumI ls j = ls.flatten.length := by
  unfold sumI; rw [List.take_of_length_le h]

/-- The parts that were handed over. -/
def PartsI (w : World) (g : Nat) (ls : List (List (List UInt8))) : Prop := ∀ j, j < ls.length → ∃ a n c, w.cell? ⟨g, j, none⟩ = some (.slice a n c) ∧ IdsAt w a n c (ls.getD j [])
theorem PartsI.below {w w' : World} {g : Nat} {ls : List (List (List UInt8))} (h : PartsI w g ls) (hb : Below w.heap.size w w') : PartsI w' g ls := fun j hj => by
  obtain ⟨a, n, c, h1, h2⟩ := h j hj
  exact ⟨a, n, c, (hb.cell (World.block_lt_of_cell? _ _ h1)).trans h1, h2.below hb⟩

set_option maxRecDepth 100000 in
set_option maxHeartbeats 1000000 in
theorem concatI_any (g k : Nat) (ls : List (List (List UInt8))) (w : World) (hk : ls.length = k) (hk63 : k ≤ 1000000) (hp : PartsI w g ls) (ht : ls.flatten.length ≤ 1000000000) :
    Calls Try.prog 43 #[.slice (some ⟨g, 0, none⟩) k k] w (MadeI w ls.flatten) := by
  have HK := Lib.hid hk
  clear hk
  obtain ⟨T, hT⟩ : ∃ T, T = ls.flatten.length := ⟨_, rfl⟩
  rw [← hT] at ht
  have HT := Lib.hid hT
  have HPP := Lib.hid hp
  clear hT hp
  go_enter Try.func43, Try.ntmps43
  go_wp2
  go_loopg [3, 11] k (fun gh v3 v11 W => ∃ j s : Nat, w = W ∧ gh + j = k ∧ Hid (s = sumI ls j) ∧ v11 = .int .i64 j ∧ v3 = .int .i64 s)
  case atStart => exact ⟨0, 0, rfl, rfl, Lib.hid rfl, rfl, rfl⟩
  case round =>
    obtain ⟨j, s, rfl, hg, hs, rfl, rfl⟩ := hrel
    have HG := Lib.hid hg
    have hjk : j ≤ k := by omega
    clear hg
    have hsT : s ≤ T := by rw [hs.out, HT.out]; exact sumI_le _ _
    by_cases hj : j < k
    · obtain ⟨a, n, c, hcell, hB⟩ := HPP.out j (by have := HK.out; omega)
      have hnx := sumI_next ls j n (by have := HK.out; omega) hB.1
      have hnT : s + n ≤ T := by rw [hs.out, HT.out, ← hnx]; exact sumI_le _ _
      have HN := Lib.hid hnx
      clear hnx hB
      go_wp2
      go_roundg (gk - 1)
      case measure => have := HG.out; omega
      case rel => exact ⟨j + 1, s + n, rfl, by have := HG.out; omega, Lib.hid (by rw [hs.out]; exact HN.out.symm), by go_num, by go_num⟩
    · have HSA := Lib.hid (show s = T by rw [hs.out, HT.out]; exact sumI_all _ _ (by have := HK.out; omega))
      go_wp2_with (go_at_call 51; go_must (refine (growI_nil s _ (by omega)).mono ?_); rintro e w1 ⟨a1, c1, rfl, hown, hbel⟩)
      have HOW := Lib.hid hown
      have HBL := Lib.hid hbel
      clear hown hbel
      go_loopg [6, 27] k (fun gh v6 v27 W => ∃ (j r : Nat) (a1 : Option Addr) (c1 : Nat), gh + j = k ∧ v27 = .int .i64 j ∧ v6 = .slice a1 r c1 ∧ Hid (r = sumI ls j) ∧ Hid (OwnI W w.heap.size (.slice a1 r c1) ((ls.take j).flatten)) ∧ Below w.heap.size w W)
      case atStart => exact ⟨0, 0, a1, c1, rfl, rfl, rfl, Lib.hid rfl, HOW, HBL.out⟩
      case round =>
        clear HOW HBL
        obtain ⟨j', r, a2, c2, hg', rfl, rfl, HR, HOW, hbel'⟩ := hrel
        have HG' := Lib.hid hg'
        have hjk' : j' ≤ k := by omega
        clear hg'
        by_cases hj' : j' < k
        · obtain ⟨a, n, c, hcell, hB⟩ := (HPP.out.below hbel') j' (by have := HK.out; omega)
          have HNX := Lib.hid (sumI_next ls j' n (by have := HK.out; omega) hB.1)
          have H48 := Lib.hid (show (((ls.take j').flatten).length + n) * 32 ≤ 140737488355328 by
            have h1 := sumI_le ls (j' + 1)
            have h2 := HT.out
            have h3 := HNX.out
            unfold sumI at h1 h3
            omega)
          have HRR := Lib.hid (show r + n = ((ls.take j').flatten).length + n by rw [HR.out]; rfl)
          have HB := Lib.hid hB
          have HT' := Lib.hid (takeI_next ls j' (by have := HK.out; omega))
          have HSZ := Lib.hid hbel'.size
          clear hB
          go_wp2_with (at_builtin; go_must (refine app_slice rfl (.tmp 31) (.tmp 32) rfl w.heap.size _ _ rfl HOW.out a n c (ls.getD j' []) rfl HB.out H48.out HSZ.out (r + n) HRR.out ?_); intro a3 c3 w2 hown2 hgr2)
          have HB2 := Lib.hid (hbel'.grown hgr2 HSZ.out (fun k hk => (HOW.out.lt k hk).1))
          clear hgr2
          go_roundg (gk - 1)
          case measure => have := HG'.out; omega
          case rel => exact ⟨j' + 1, r + n, a3, c3, by have := HG'.out; omega, by go_num, rfl, Lib.hid (by rw [HNX.out, HR.out]), Lib.hid (by rw [HT'.out]; exact hown2), HB2.out⟩
        · have HA := Lib.hid (show (ls.take j') = ls from List.take_of_length_le (by have := HK.out; omega))
          go_wp2
          go_ret
          exact MadeI.of (by have h := HOW.out; rwa [HA.out] at h) hbel'
#print axioms concatI_any

theorem set_of (a : Option Addr) (n c m : Nat) (l L : List (List UInt8)) (w0 w : World) (hb : IdsAt w a n c l) (hl : n ≤ 1000000000) (hL : L = setF l) (hm : m = L.length) (h0 : Below w0.heap.size w0 w) :
    Calls Try.prog 20 #[.slice a n c] w fun e w' => ∃ a1 c1, e = .returned (.slice a1 m c1) ∧ IdsAt w' a1 m c1 L ∧ Below w0.heap.size w0 w' := by
  subst hL
  refine (set_at a n c m l w hb hl hm).mono ?_
  rintro e w' ⟨a1, c1, rfl, h1, h2⟩
  exact ⟨a1, c1, rfl, h1, h0.trans (h2.mono h0.size)⟩

theorem parts_two {w : World} {g : Nat} {a b : Option Addr} {n c m d : Nat} {l k : List (List UInt8)} {ty : TypeId} (h : w.heap[g]? = some (.cells #[.slice a n c, .slice b m d] ty (0, 0))) (ha : IdsAt w a n c l) (hb : IdsAt w b m d k) : PartsI w g [l, k] := by
  intro j hj
  have hc : j = 0 ∨ j = 1 := by simp at hj; omega
  rcases hc with rfl | rfl
  · exact ⟨a, n, c, by rw [cell_of_row w g 0 _ ty (0, 0) h]; rfl, ha⟩
  · exact ⟨b, m, d, by rw [cell_of_row w g 1 _ ty (0, 0) h]; rfl, hb⟩

set_option maxRecDepth 100000 in
set_option maxHeartbeats 1000000 in
theorem union_any (a : Option Addr) (n c : Nat) (l : List (List UInt8)) (b : Option Addr) (m d : Nat) (k : List (List UInt8)) (q : Nat) (w : World) (ha : IdsAt w a n c l) (hb : IdsAt w b m d k) (hn : n ≤ 100000) (hm : m ≤ 100000) (hq : q = (setF (l ++ k)).length) :
    Calls Try.prog 29 #[.slice a n c, .slice b m d] w fun e w' => ∃ a1 c1, e = .returned (.slice a1 q c1) ∧ IdsAt w' a1 q c1 (setF (l ++ k)) ∧ Below w.heap.size w w' := by
  have hbel : Below w.heap.size w (w.alloc (.cells #[.slice a n c, .slice b m d] 30)) := (Below.refl _ _).alloc (Nat.le_refl _) _
  have HP := Lib.hid (parts_two (heap_alloc_new w _) (ha.below hbel) (hb.below hbel))
  have HT := Lib.hid (show [l, k].flatten.length ≤ 1000000000 by have := ha.1; have := hb.1; simp; omega)
  have HBL := Lib.hid hbel
  have HQ := Lib.hid hq
  have HF := Lib.hid (show [l, k].flatten = l ++ k by simp)
  have HL := Lib.hid (show (l ++ k).length ≤ 1000000000 by have := ha.1; have := hb.1; simp; omega)
  clear hbel ha hb hn hm hq
  go_enter Try.func29, Try.ntmps29
  go_wp2_with (first
    | (go_at_call 43; go_must (refine (concatI_any w.heap.size 2 [l, k] _ rfl (by omega) HP.out HT.out).mono ?_); rintro e w1 ⟨a1, n1, c1, rfl, ho1, hb1⟩; have HI1 := Lib.hid ho1.isIds; have HB1 := Lib.hid (HBL.out.trans (hb1.mono HBL.out.size)); clear ho1 hb1; rw [HF.out] at HI1)
    | (go_at_call 20; go_must (refine (set_of a1 n1 c1 q (l ++ k) (setF (l ++ k)) w w1 HI1.out (by rw [← HI1.out.1]; exact HL.out) rfl HQ.out HB1.out).mono ?_); rintro e w2 ⟨a2, c2, rfl, hi2, hb2⟩))
  go_ret
  exact ⟨a2, c2, rfl, hi2, hb2⟩
#print axioms union_any
end Go.Proofs.Ytiakbbokmllcdaa
