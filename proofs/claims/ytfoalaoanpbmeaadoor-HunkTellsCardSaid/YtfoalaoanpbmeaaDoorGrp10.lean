/-
  Merged: HkConcat, HkPaths.
-/
import Derived.Test.YtfoalaoanpbmeaaDoorHkTell
import Derived.Deep.LoopGhost
import Derived.Lib.AppendZeros
import Derived.Test.YtfoalaoanpbmeaaDoorGrp9
import Derived.Test.YtfoalaoanpbmeaaDoorHkIter
import Derived.Sort.OwnSorted
import Derived.Lib.LazyBuf
namespace Go.Proofs.YtfoalaoanpbmeaaDoor
open Go.RowKit

def Grown_ln (w : World) (e : Ending) (w' : World) : Prop := ∃ a c, e = .returned (.slice a 0 c) ∧ OwnG lnK 9 w' w.heap.size (.slice a 0 c) [] ∧ Below w.heap.size w w'
theorem zeros_ln (w : World) (n cap : Nat) (hn : n ≤ cap) (hc : cap ≤ maxLen) (base : Nat) (hb : base ≤ w.heap.size) :
    OwnG lnK 9 (w.drew.alloc (.cells (Builtin.zeroCells (Value.string ByteArray.empty).cells n ++ Builtin.zeroCells (Value.string ByteArray.empty).cells (cap - n)) 9)) base (.slice (some ⟨w.heap.size, 0, none⟩) 0 cap) [] := by
  refine ⟨⟨rfl, .inr ⟨w.heap.size, cap, _, rfl, hb, heap_alloc_new w.drew _, Nat.zero_le _, hc, ?_, by simp [flatG]⟩⟩, (fun _ h => by cases h)⟩
  have h1 : (Value.string ByteArray.empty).cells.size = 1 := by kernel_rfl
  simp only [Array.size_append, size_zeroCells, h1]
  show _ = cap * 1
  omega
set_option maxRecDepth 100000 in
set_option maxHeartbeats 400000 in
theorem grow_ln (n : Nat) (w : World) (hn : n ≤ 1000000) :
    Calls Tryd.prog 45 #[.slice none 0 0, .int .i64 n] w (Grown_ln w) := by
  obtain ⟨i0, hi, hz0, hz1, hz2⟩ := info_parts infoStH
  rcases Nat.eq_zero_or_pos n with h0 | h0
  · subst h0
    go_enter Tryd.func45, Tryd.ntmps45
    go_wp2
    go_ret
    exact ⟨_, _, rfl, OwnG.nil, Below.refl _ _⟩
  · have hrz : ∀ ty, (Builtin.append_ #[32, 3] ty #[.slice none 0 0, .int .i64 n]).run Tryd.prog w =
        .ok (.slice (some ⟨w.heap.size, 0, none⟩) n (grownCap w n 0 9)) (w.drew.alloc (.cells (Builtin.zeroCells (Value.string ByteArray.empty).cells n ++ Builtin.zeroCells (Value.string ByteArray.empty).cells (grownCap w n 0 9 - n)) 9)) := fun ty =>
      Lib.run_append_nil_zeros w 32 3 ty 9 i0 (.string ByteArray.empty) .i64 .i64 Tryd.underlying32 Tryd.underlying3 hi hz0 n h0 (by rw [hz1]; omega) (by omega) (by rw [hz2]; omega)
    have hge := grownCap_ge w n 0 9
    have hle := grownCap_le_maxLen w n 0 9 (by unfold maxLen; omega)
    generalize grownCap w n 0 9 = G at hrz hge hle
    have hG : G ≤ 9223372036854775807 := by unfold maxLen at hle; omega
    have HO := Lib.hid (zeros_ln w n G hge hle w.heap.size (Nat.le_refl _))
    have HRZ := Lib.hid hrz
    obtain ⟨OB, hOB⟩ : ∃ OB, OB = (Obj.cells (Builtin.zeroCells (Value.string ByteArray.empty).cells n ++ Builtin.zeroCells (Value.string ByteArray.empty).cells (G - n)) 9) := ⟨_, rfl⟩
    rw [← hOB] at HO HRZ
    clear hi hz0 hz1 hz2 hle hrz hOB
    go_enter Tryd.func45, Tryd.ntmps45
    go_wp2_with (at_builtin; go_must (refine Lib.wpList_append_run _ rfl _ _ _ _ rfl _ _ rfl rfl _ _ (HRZ.out _) ?_))
    go_ret
    exact ⟨_, _, rfl, HO.out, (Below.refl _ _).drew.alloc (Nat.le_refl _) _⟩

def sum_ln (ls : List (List Ln)) (j : Nat) : Nat := ((ls.take j).flatten).length
theorem take_ln_next (ls : List (List Ln)) (j : Nat) (h : j < ls.length) : (ls.take (j + 1)).flatten = (ls.take j).flatten ++ ls.getD j [] := by
  rw [List.take_succ_eq_append_getElem h, List.flatten_append]; simp [h]
theorem sum_ln_next (ls : List (List Ln)) (j n : Nat) (h : j < ls.length) (hn : (ls.getD j []).length = n) : sum_ln ls (j + 1) = sum_ln ls j + n := by
  unfold sum_ln; rw [take_ln_next ls j h, List.length_append, hn]
theorem sum_ln_le (ls : List (List Ln)) (j : Nat) : sum_ln ls j ≤ ls.flatten.length := by
  unfold sum_ln
  have : ls.flatten.length = ((ls.take j).flatten).length + ((ls.drop j).flatten).length := by
    rw [← List.length_append, ← List.flatten_append, List.take_append_drop]
  omega
theorem sum_ln_all (ls : List (List Ln)) (j : Nat) (h : ls.length ≤ j) : sum_ln ls j = ls.flatten.length := by
  unfold sum_ln; rw [List.take_of_length_le h]
def Parts_ln (w : World) (g : Nat) (ls : List (List Ln)) : Prop := ∀ j, j < ls.length → ∃ a n c, w.cell? ⟨g, j, none⟩ = some (.slice a n c) ∧ AtG lnK w a n c (ls.getD j [])
theorem Parts_ln.below {w w' : World} {g : Nat} {ls : List (List Ln)} (h : Parts_ln w g ls) (hb : Below w.heap.size w w') : Parts_ln w' g ls := fun j hj => by
  obtain ⟨a, n, c, h1, h2⟩ := h j hj
  exact ⟨a, n, c, (hb.cell (World.block_lt_of_cell? _ _ h1)).trans h1, h2.below hb⟩
def Made_ln (w : World) (L : List Ln) (e : Ending) (w' : World) : Prop := ∃ a n c, e = .returned (.slice a n c) ∧ OwnG lnK 9 w' w.heap.size (.slice a n c) L ∧ Below w.heap.size w w'
set_option maxRecDepth 100000 in
set_option maxHeartbeats 1000000 in
theorem concat_ln (g k : Nat) (ls : List (List Ln)) (w : World) (hk : ls.length = k) (hk63 : k ≤ 1000000) (hp : Parts_ln w g ls) (ht : ls.flatten.length ≤ 1000000) :
    Calls Tryd.prog 26 #[.slice (some ⟨g, 0, none⟩) k k] w (Made_ln w ls.flatten) := by
  have HK := Lib.hid hk
  clear hk
  obtain ⟨T, hT⟩ : ∃ T, T = ls.flatten.length := ⟨_, rfl⟩
  rw [← hT] at ht
  have HT := Lib.hid hT
  have HPP := Lib.hid hp
  clear hT hp
  go_enter Tryd.func26, Tryd.ntmps26
  go_wp2
  go_loopg [3, 11] k (fun gh v3 v11 W => ∃ j s : Nat, w = W ∧ gh + j = k ∧ Hid (s = sum_ln ls j) ∧ v11 = .int .i64 j ∧ v3 = .int .i64 s)
  case atStart => exact ⟨0, 0, rfl, rfl, Lib.hid rfl, rfl, rfl⟩
  case round =>
    obtain ⟨j, s, rfl, hg, hs, rfl, rfl⟩ := hrel
    have HG := Lib.hid hg
    have hjk : j ≤ k := by omega
    clear hg
    have hsT : s ≤ T := by rw [hs.out, HT.out]; exact sum_ln_le _ _
    by_cases hj : j < k
    · obtain ⟨a, n, c, hcell, hB⟩ := HPP.out j (by have := HK.out; omega)
      have hnx := sum_ln_next ls j n (by have := HK.out; omega) hB.1
      have hnT : s + n ≤ T := by rw [hs.out, HT.out, ← hnx]; exact sum_ln_le _ _
      have HN := Lib.hid hnx
      clear hnx hB
      go_wp2
      go_roundg (gk - 1)
      case measure => have := HG.out; omega
      case rel => exact ⟨j + 1, s + n, rfl, by have := HG.out; omega, Lib.hid (by rw [hs.out]; exact HN.out.symm), by go_num, by go_num⟩
    · have HSA := Lib.hid (show s = T by rw [hs.out, HT.out]; exact sum_ln_all _ _ (by have := HK.out; omega))
      go_wp2_with (go_at_call 45; go_must (refine (grow_ln s _ (by omega)).mono ?_); rintro e w1 ⟨a1, c1, rfl, hown, hbel⟩)
      have HOW := Lib.hid hown
      have HBL := Lib.hid hbel
      clear hown hbel
      go_loopg [6, 27] k (fun gh v6 v27 W => ∃ (j r : Nat) (a1 : Option Addr) (c1 : Nat), gh + j = k ∧ v27 = .int .i64 j ∧ v6 = .slice a1 r c1 ∧ Hid (r = sum_ln ls j) ∧ Hid (OwnG lnK 9 W w.heap.size (.slice a1 r c1) ((ls.take j).flatten)) ∧ Below w.heap.size w W)
      case atStart => exact ⟨0, 0, a1, c1, rfl, rfl, rfl, Lib.hid rfl, HOW, HBL.out⟩
      case round =>
        clear HOW HBL
        obtain ⟨j', r, a2, c2, hg', rfl, rfl, HR, HOW, hbel'⟩ := hrel
        have HG' := Lib.hid hg'
        have hjk' : j' ≤ k := by omega
        clear hg'
        by_cases hj' : j' < k
        · obtain ⟨a, n, c, hcell, hB⟩ := (HPP.out.below hbel') j' (by have := HK.out; omega)
          have HNX := Lib.hid (sum_ln_next ls j' n (by have := HK.out; omega) hB.1)
          have H48 := Lib.hid (show (((ls.take j').flatten).length + n) * (16 + 1) ≤ 140737488355328 by
            have h1 := sum_ln_le ls (j' + 1)
            have h2 := HT.out
            have h3 := HNX.out
            unfold sum_ln at h1 h3
            omega)
          have HRR := Lib.hid (show r + n = ((ls.take j').flatten).length + n by rw [HR.out]; rfl)
          have HB := Lib.hid hB
          have HT' := Lib.hid (take_ln_next ls j' (by have := HK.out; omega))
          have HSZ := Lib.hid hbel'.size
          clear hB
          go_wp2_with (at_builtin; go_must (refine appG lnK Tryd.underlying32 infoStH (by kernel_rfl) rfl (.tmp 31) (.tmp 32) rfl w.heap.size _ _ rfl HOW.out a n c (ls.getD j' []) rfl HB.out H48.out HSZ.out (r + n) HRR.out ?_); intro a3 c3 w2 hown2 hgr2)
          have HB2 := Lib.hid (hbel'.grown hgr2 HSZ.out (fun k hk => (HOW.out.lt k hk).1))
          clear hgr2
          go_roundg (gk - 1)
          case measure => have := HG'.out; omega
          case rel => exact ⟨j' + 1, r + n, a3, c3, by have := HG'.out; omega, by go_num, rfl, Lib.hid (by rw [HNX.out, HR.out]), Lib.hid (by rw [HT'.out]; exact hown2), HB2.out⟩
        · have HA := Lib.hid (show (ls.take j') = ls from List.take_of_length_le (by have := HK.out; omega))
          go_wp2
          go_ret
          exact ⟨_, _, _, rfl, by have h := HOW.out; rwa [HA.out] at h, hbel'⟩
#print axioms concat_ln
end Go.Proofs.YtfoalaoanpbmeaaDoor

namespace Go.Proofs.YtfoalaoanpbmeaaDoor
open Go.RowKit Go.Lib Go.Maps

theorem keys_byAt {w : World} {kb : Nat} {h : List FileL} (H : ByAt w kb h) (hnd : (h.map (·.1)).Nodup) : ∃ D, w.ownsMap Tryd.prog 9 flElem kb h.length D ∧ Maps.size D = h.length ∧ (h.map (·.1)).Perm (strKeys D) := by
  obtain ⟨D, h1, h2, _, h4⟩ := H
  refine ⟨D, h1, h2, ?_⟩
  obtain ⟨es, hD, hpw, _⟩ := h1.entries keyedS
  obtain ⟨es', hD', hko⟩ := h1.keysOf
  obtain rfl : es = es' := by rw [hD] at hD'; simpa using hD'
  subst hD
  exact perm_strKeys hpw (fun p hp => by obtain ⟨v, hv⟩ := hko p hp; obtain ⟨x, _, hx, _⟩ := Maps.keyOf_str (by kernel_rfl) hv; exact ⟨x, hx⟩) hnd (fun x => by rw [(h4 x).1, lookP_some]; simp)
theorem flat_ln (L : List Ln) : flatG lnK L = L.map encStr := by
  unfold flatG
  induction L with
  | nil => rfl
  | cons x L ih => rw [List.flatMap_cons, ih]; rfl
theorem collectH {w : World} {kb : Nat} {h : List FileL} (H : ByAt w kb h) (hnd : (h.map (·.1)).Nodup) (hn : h.length ≤ 1000000) :
    Calls Tryd.prog 27 #[.func (.func 47) #[] #[.pointer (some ⟨w.heap.size, 0, none⟩)]] (w.alloc (.cells #[.map (some kb)] 57)) fun e w' => ∃ a n c ss, e = .returned (.slice a n c) ∧ ss.Perm (h.map (·.1)) ∧ AtG lnK w' a n c ss ∧ Below (w.alloc (.cells #[.map (some kb)] 57)).heap.size (w.alloc (.cells #[.map (some kb)] 57)) w' := by
  obtain ⟨D, h1, h2, h3⟩ := keys_byAt H hnd
  refine (Tryd.slices_CollectF kb h.length D flElem w h1 (by rw [h2]; unfold maxLen; omega) (by rw [h2]; omega)).mono fun e w' ⟨v, ss, he, hp, ho, _, hb⟩ => ?_
  have hO : OwnG lnK 9 w' (w.alloc (.cells #[.map (some kb)] 57)).heap.size v ss := ⟨by rw [flat_ln]; exact ho, fun _ _ => trivial⟩
  obtain ⟨a, c, rfl, hA⟩ := hO.atG_
  exact ⟨a, ss.length, c, ss, he, hp.trans h3.symm, hA, hb⟩
/-- Sorted. -/
def srtF (L : List Ln) : List Ln := L.mergeSort leB
theorem sortH {w : World} {base : Nat} {a : Option Addr} {n c : Nat} {L : List Ln} (H : OwnG lnK 9 w base (.slice a n c) L) (hn : n ≤ 1000000) :
    Calls Tryd.prog 29 #[.slice a n c] w fun e w' => e = .returned (.tuple #[]) ∧ OwnG lnK 9 w' base (.slice a n c) (srtF L) ∧ Below base w w' := by
  have hl := H.len
  subst hl
  rcases H.1.2 with ⟨hnil, _⟩ | ⟨g, cap, cur, hv, hbase, hb, h1, h2, h3, h4⟩
  · injection hnil with e1 e2 e3
    have hL : L = [] := List.length_eq_zero_iff.1 e2
    subst hL
    refine (Tryd.slices_Sort_string_none a c w).mono fun e w' ⟨he, hw⟩ => ?_
    subst hw
    refine ⟨he, ?_, Below.refl _ _⟩
    show OwnG lnK 9 w' base (.slice a 0 c) ([].mergeSort leB)
    rw [List.mergeSort_nil]; exact H
  · injection hv with e1 e2 e3
    subst e1; subst e3
    have h4' : cur.toList.take L.length = L.map encStr := by rw [← flat_ln]; have h5 := h4; rw [show lnK.k = 1 from rfl, Nat.mul_one] at h5; exact h5
    refine (Tryd.slices_Sort_string g 0 c L w (holds_of_block hb h4') (Array.getElem?_eq_some_iff.1 hb).1 (by omega)).mono fun e w' ⟨he, m, os, hw⟩ => ?_
    subst hw
    refine ⟨he, ⟨?_, fun _ _ => trivial⟩, (Below.refl base w).grown (grownBy_sorted _) (by have := (Array.getElem?_eq_some_iff.1 hb).1; omega) (fun k hk => by cases hk; exact hbase)⟩
    have hln : (srtF L).length = L.length := by unfold srtF; rw [List.length_mergeSort]
    rw [flat_ln, hln]
    exact ownsRow_sorted (ts := srtF L) hln hbase hb h1 h2 h3
theorem compactH {w : World} {base : Nat} {a : Option Addr} {n c : Nat} {L : List Ln} (H : OwnG lnK 9 w base (.slice a n c) L) (hn : n ≤ 1000000) :
    Calls Tryd.prog 30 #[.slice a n c] w fun e w' => ∃ n', e = .returned (.slice a n' c) ∧ AtG lnK w' a n' c (Lib.compact L) ∧ Below base w w' := by
  have hl := H.len
  have hA := H.atG
  subst hl
  by_cases h0 : L.length = 0
  · have hL : L = [] := List.length_eq_zero_iff.1 h0
    subst hL
    exact (Tryd.slices_Compact_string_empty a c w).mono fun e w' ⟨he, hw⟩ => ⟨0, he, by subst hw; exact hA, by subst hw; exact Below.refl _ _⟩
  · obtain ⟨g, rfl, hbase, hlt, hfz⟩ := H.row (by omega)
    have hcell : ∀ i, i < L.length → w.cell? ⟨g, 0 + i, none⟩ = some (.string ((fun i => strB (L.getD i [])) i)) := fun i hi => ln_cell hA i hi
    have hstr : Lib.strsOf (fun i => strB (L.getD i [])) L.length = L := by
      unfold Lib.strsOf
      apply List.ext_getElem (by simp)
      intro i h1 h2
      simp [strB_list, List.getD_eq_getElem?_getD, List.getElem?_eq_getElem h2]
    refine (Tryd.slices_Compact_string_cells g 0 L.length c (fun i => strB (L.getD i [])) w (by omega) hA.2.1 hcell (fun j _ => hfz (0 + j))).mono fun e w' ⟨he, q, hw⟩ => ?_
    rw [hstr] at he hw
    have hle := Lib.compact_length_le L
    subst hw
    refine ⟨_, he, ln_mk rfl (by have := hA.2.1; omega) hA.2.2.1 (fun j hj => ?_), Go.below_setCells hbase _ _ _ ⟨rfl, rfl, rfl, Nat.le_refl _, fun _ _ => rfl⟩⟩
    rw [World.cell?_setCells_in g _ 0 _ (fun j hj => ?_) j (by simp; omega)]
    · simp only [List.getElem_map]
      rw [List.getElem_append_left (by omega), List.getD_eq_getElem?_getD, List.getElem?_eq_getElem (by omega)]
      rfl
    · have hj' : j < L.length := by simp at hj; omega
      have := hcell j hj'
      show (w.cell? ⟨g, 0 + j, none⟩).isSome = true
      rw [this]; rfl
#print axioms collectH
#print axioms sortH
#print axioms compactH
end Go.Proofs.YtfoalaoanpbmeaaDoor
