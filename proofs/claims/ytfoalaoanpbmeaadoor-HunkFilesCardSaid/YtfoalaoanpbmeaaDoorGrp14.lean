/-
  Merged: HkConcat, HkPaths, HkLinesM, HkLines0.
-/
import Derived.Test.YtfoalaoanpbmeaaDoorHkTell
import Derived.Deep.LoopGhost
import Derived.Lib.AppendZeros
import Derived.Test.YtfoalaoanpbmeaaDoorGrp13
import Derived.Test.YtfoalaoanpbmeaaDoorHkIter
import Derived.Sort.OwnSorted
import Derived.Lib.LazyBuf
namespace Go.Proofs.YtfoalaoanpbmeaaDoor
open Go.RowKit

def Grown_ln (w : World) (e : Ending) (w' : World) : Prop := ∃ a c, e = .returned (.slice a 0 c) ∧ OwnG lnK 9 w' w.heap.size (.slice a 0 c) [] ∧ Below w.heap.size w w'
theorem zeros_ln (w : World) (n cap : Nat) (hn : n ≤ cap) (hc : cap ≤ maxLen) (base : Nat) (hb : base ≤ w.heap.size) :
    OwnG lnK 9 (w.drew.alloc (.cells (Builtin.zeroCells (Value.string ByteArray.empty).cells n ++ Builtin.zeroCells (Value.string ByteArray.empty).cells (cap - n)) 9)) base (.slice (some ⟨w.heap.size, 0, none⟩) 0 cap) [] := by
  refine ⟨⟨rfl, .inr ⟨w.heap.size, cap, _, rfl, hb, heap_alloc_new w.drew _, Nat.zero_le _, hc, ?_, by simp [flatG]⟩⟩, (fun _ h => by cases h)⟩
  have h1 : (Value.string ByteArray.empty).cells.size = 1 := by kernel_rfl
  simp only [Array.size_append, size_zeroCells, h1]
  show _ = cap * 1
  omega
set_option maxRecDepth 100000 in
set_option maxHeartbeats 400000 in
theorem grow_ln (n : Nat) (w : World) (hn : n ≤ 1000000) :
    Calls Tryd.prog 45 #[.slice none 0 0, .int .i64 n] w (Grown_ln w) := by
  obtain ⟨i0, hi, hz0, hz1, hz2⟩ := info_parts infoStH
  rcases Nat.eq_zero_or_pos n with h0 | h0
  · subst h0
    go_enter Tryd.func45, Tryd.ntmps45
    go_wp2
    go_ret
    exact ⟨_, _, rfl, OwnG.nil, Below.refl _ _⟩
  · have hrz : ∀ ty, (Builtin.append_ #[32, 3] ty #[.slice none 0 0, .int .i64 n]).run Tryd.prog w =
        .ok (.slice (some ⟨w.heap.size, 0, none⟩) n (grownCap w n 0 9)) (w.drew.alloc (.cells (Builtin.zeroCells (Value.string ByteArray.empty).cells n ++ Builtin.zeroCells (Value.string ByteArray.empty).cells (grownCap w n 0 9 - n)) 9)) := fun ty =>
      Lib.run_append_nil_zeros w 32 3 ty 9 i0 (.string ByteArray.empty) .i64 .i64 Tryd.underlying32 Tryd.underlying3 hi hz0 n h0 (by rw [hz1]; omega) (by omega) (by rw [hz2]; omega)
    have hge := grownCap_ge w n 0 9
    have hle := grownCap_le_maxLen w n 0 9 (by unfold maxLen; omega)
    generalize grownCap w n 0 9 = G at hrz hge hle
    have hG : G ≤ 9223372036854775807 := by unfold maxLen at hle; omega
    have HO := Lib.hid (zeros_ln w n G hge hle w.heap.size (Nat.le_refl _))
    have HRZ := Lib.hid hrz
    obtain ⟨OB, hOB⟩ : ∃ OB, OB = (Obj.cells (Builtin.zeroCells (Value.string ByteArray.empty).cells n ++ Builtin.zeroCells (Value.string ByteArray.empty).cells (G - n)) 9) := ⟨_, rfl⟩
    rw [← hOB] at HO HRZ
    clear hi hz0 hz1 hz2 hle hrz hOB
    go_enter Tryd.func45, Tryd.ntmps45
    go_wp2_with (at_builtin; go_must (refine Lib.wpList_append_run _ rfl _ _ _ _ rfl _ _ rfl rfl _ _ (HRZ.out _) ?_))
    go_ret
    exact ⟨_, _, rfl, HO.out, (Below.refl _ _).drew.alloc (Nat.le_refl _) _⟩

def sum_ln (ls : List (List Ln)) (j : Nat) : Nat := ((ls.take j).flatten).length
theorem take_ln_next (ls : List (List Ln)) (j : Nat) (h : j < ls.length) : (ls.take (j + 1)).flatten = (ls.take j).flatten ++ ls.getD j [] := by
  rw [List.take_succ_eq_append_getElem h, List.flatten_append]; simp [h]
theorem sum_ln_next (ls : List (List Ln)) (j n : Nat) (h : j < ls.length) (hn : (ls.getD j []).length = n) : sum_ln ls (j + 1) = sum_ln ls j + n := by
  unfold sum_ln; rw [take_ln_next ls j h, List.length_append, hn]
theorem sum_ln_le (ls : List (List Ln)) (j : Nat) : sum_ln ls j ≤ ls.flatten.length := by
  unfold sum_ln
  have : ls.flatten.length = ((ls.take j).flatten).length + ((ls.drop j).flatten).length := by
    rw [← List.length_append, ← List.flatten_append, List.take_append_drop]
  omega
theorem sum_ln_all (ls : List (List Ln)) (j : Nat) (h : ls.length ≤ j) : sum_ln ls j = ls.flatten.length := by
  unfold sum_ln; rw [List.take_of_length_le h]
def Parts_ln (w : World) (g : Nat) (ls : List (List Ln)) : Prop := ∀ j, j < ls.length → ∃ a n c, w.cell? ⟨g, j, none⟩ = some (.slice a n c) ∧ AtG lnK w a n c (ls.getD j [])
theorem Parts_ln.below {w w' : World} {g : Nat} {ls : List (List Ln)} (h : Parts_ln w g ls) (hb : Below w.heap.size w w') : Parts_ln w' g ls := fun j hj => by
  obtain ⟨a, n, c, h1, h2⟩ := h j hj
  exact ⟨a, n, c, (hb.cell (World.block_lt_of_cell? _ _ h1)).trans h1, h2.below hb⟩
def Made_ln (w : World) (L : List Ln) (e : Ending) (w' : World) : Prop := ∃ a n c, e = .returned (.slice a n c) ∧ OwnG lnK 9 w' w.heap.size (.slice a n c) L ∧ Below w.heap.size w w'
set_option maxRecDepth 100000 in
set_option maxHeartbeats 1000000 in
theorem concat_ln (g k : Nat) (ls : List (List Ln)) (w : World) (hk : ls.length = k) (hk63 : k ≤ 1000000) (hp : Parts_ln w g ls) (ht : ls.flatten.length ≤ 1000000) :
    Calls Tryd.prog 26 #[.slice (some ⟨g, 0, none⟩) k k] w (Made_ln w ls.flatten) := by
  have HK := Lib.hid hk
  clear hk
  obtain ⟨T, hT⟩ : ∃ T, T = ls.flatten.length := ⟨_, rfl⟩
  rw [← hT] at ht
  have HT := Lib.hid hT
  have HPP := Lib.hid hp
  clear hT hp
  go_enter Tryd.func26, Tryd.ntmps26
  go_wp2
  go_loopg [3, 11] k (fun gh v3 v11 W => ∃ j s : Nat, w = W ∧ gh + j = k ∧ Hid (s = sum_ln ls j) ∧ v11 = .int .i64 j ∧ v3 = .int .i64 s)
  case atStart => exact ⟨0, 0, rfl, rfl, Lib.hid rfl, rfl, rfl⟩
  case round =>
    obtain ⟨j, s, rfl, hg, hs, rfl, rfl⟩ := hrel
    have HG := Lib.hid hg
    have hjk : j ≤ k := by omega
    clear hg
    have hsT : s ≤ T := by rw [hs.out, HT.out]; exact sum_ln_le _ _
    by_cases hj : j < k
    · obtain ⟨a, n, c, hcell, hB⟩ := HPP.out j (by have := HK.out; omega)
      have hnx := sum_ln_next ls j n (by have := HK.out; omega) hB.1
      have hnT : s + n ≤ T := by rw [hs.out, HT.out, ← hnx]; exact sum_ln_le _ _
      have HN := Lib.hid hnx
      clear hnx hB
      go_wp2
      go_roundg (gk - 1)
      case measure => have := HG.out; omega
      case rel => exact ⟨j + 1, s + n, rfl, by have := HG.out; omega, Lib.hid (by rw [hs.out]; exact HN.out.symm), by go_num, by go_num⟩
    · have HSA := Lib.hid (show s = T by rw [hs.out, HT.out]; exact sum_ln_all _ _ (by have := HK.out; omega))
      go_wp2_with (go_at_call 45; go_must (refine (grow_ln s _ (by omega)).mono ?_); rintro e w1 ⟨a1, c1, rfl, hown, hbel⟩)
      have HOW := Lib.hid hown
      have HBL := Lib.hid hbel
      clear hown hbel
      go_loopg [6, 27] k (fun gh v6 v27 W => ∃ (j r : Nat) (a1 : Option Addr) (c1 : Nat), gh + j = k ∧ v27 = .int .i64 j ∧ v6 = .slice a1 r c1 ∧ Hid (r = sum_ln ls j) ∧ Hid (OwnG lnK 9 W w.heap.size (.slice a1 r c1) ((ls.take j).flatten)) ∧ Below w.heap.size w W)
      case atStart => exact ⟨0, 0, a1, c1, rfl, rfl, rfl, Lib.hid rfl, HOW, HBL.out⟩
      case round =>
        clear HOW HBL
        obtain ⟨j', r, a2, c2, hg', rfl, rfl, HR, HOW, hbel'⟩ := hrel
        have HG' := Lib.hid hg'
        have hjk' : j' ≤ k := by omega
        clear hg'
        by_cases hj' : j' < k
        · obtain ⟨a, n, c, hcell, hB⟩ := (HPP.out.below hbel') j' (by have := HK.out; omega)
          have HNX := Lib.hid (sum_ln_next ls j' n (by have := HK.out; omega) hB.1)
          have H48 := Lib.hid (show (((ls.take j').flatten).length + n) * (16 + 1) ≤ 140737488355328 by
            have h1 := sum_ln_le ls (j' + 1)
            have h2 := HT.out
            have h3 := HNX.out
            unfold sum_ln at h1 h3
            omega)
          have HRR := Lib.hid (show r + n = ((ls.take j').flatten).length + n by rw [HR.out]; rfl)
          have HB := Lib.hid hB
          have HT' := Lib.hid (take_ln_next ls j' (by have := HK.out; omega))
          have HSZ := Lib.hid hbel'.size
          clear hB
          go_wp2_with (at_builtin; go_must (refine appG lnK Tryd.underlying32 infoStH (by kernel_rfl) rfl (.tmp 31) (.tmp 32) rfl w.heap.size _ _ rfl HOW.out a n c (ls.getD j' []) rfl HB.out H48.out HSZ.out (r + n) HRR.out ?_); intro a3 c3 w2 hown2 hgr2)
          have HB2 := Lib.hid (hbel'.grown hgr2 HSZ.out (fun k hk => (HOW.out.lt k hk).1))
          clear hgr2
          go_roundg (gk - 1)
          case measure => have := HG'.out; omega
          case rel => exact ⟨j' + 1, r + n, a3, c3, by have := HG'.out; omega, by go_num, rfl, Lib.hid (by rw [HNX.out, HR.out]), Lib.hid (by rw [HT'.out]; exact hown2), HB2.out⟩
        · have HA := Lib.hid (show (ls.take j') = ls from List.take_of_length_le (by have := HK.out; omega))
          go_wp2
          go_ret
          exact ⟨_, _, _, rfl, by have h := HOW.out; rwa [HA.out] at h, hbel'⟩
#print axioms concat_ln
end Go.Proofs.YtfoalaoanpbmeaaDoor

namespace Go.Proofs.YtfoalaoanpbmeaaDoor
open Go.RowKit Go.Lib Go.Maps

theorem keys_byAt {w : World} {kb : Nat} {h : List FileL} (H : ByAt w kb h) (hnd : (h.map (·.1)).Nodup) : ∃ D, w.ownsMap Tryd.prog 9 flElem kb h.length D ∧ Maps.size D = h.length ∧ (h.map (·.1)).Perm (strKeys D) := by
  obtain ⟨D, h1, h2, _, h4⟩ := H
  refine ⟨D, h1, h2, ?_⟩
  obtain ⟨es, hD, hpw, _⟩ := h1.entries keyedS
  obtain ⟨es', hD', hko⟩ := h1.keysOf
  obtain rfl : es = es' := by rw [hD] at hD'; simpa using hD'
  subst hD
  exact perm_strKeys hpw (fun p hp => by obtain ⟨v, hv⟩ := hko p hp; obtain ⟨x, _, hx, _⟩ := Maps.keyOf_str (by kernel_rfl) hv; exact ⟨x, hx⟩) hnd (fun x => by rw [(h4 x).1, lookP_some]; simp)
theorem flat_ln (L : List Ln) : flatG lnK L = L.map encStr := by
  unfold flatG
  induction L with
  | nil => rfl
  | cons x L ih => rw [List.flatMap_cons, ih]; rfl
theorem collectH {w : World} {kb : Nat} {h : List FileL} (H : ByAt w kb h) (hnd : (h.map (·.1)).Nodup) (hn : h.length ≤ 1000000) :
    Calls Tryd.prog 27 #[.func (.func 47) #[] #[.pointer (some ⟨w.heap.size, 0, none⟩)]] (w.alloc (.cells #[.map (some kb)] 57)) fun e w' => ∃ a n c ss, e = .returned (.slice a n c) ∧ ss.Perm (h.map (·.1)) ∧ AtG lnK w' a n c ss ∧ Below (w.alloc (.cells #[.map (some kb)] 57)).heap.size (w.alloc (.cells #[.map (some kb)] 57)) w' := by
  obtain ⟨D, h1, h2, h3⟩ := keys_byAt H hnd
  refine (Tryd.slices_CollectF kb h.length D flElem w h1 (by rw [h2]; unfold maxLen; omega) (by rw [h2]; omega)).mono fun e w' ⟨v, ss, he, hp, ho, _, hb⟩ => ?_
  have hO : OwnG lnK 9 w' (w.alloc (.cells #[.map (some kb)] 57)).heap.size v ss := ⟨by rw [flat_ln]; exact ho, fun _ _ => trivial⟩
  obtain ⟨a, c, rfl, hA⟩ := hO.atG_
  exact ⟨a, ss.length, c, ss, he, hp.trans h3.symm, hA, hb⟩
/-- Sorted. -/
def srtF (L : List Ln) : List Ln := L.mergeSort leB
theorem sortH {w : World} {base : Nat} {a : Option Addr} {n c : Nat} {L : List Ln} (H : OwnG lnK 9 w base (.slice a n c) L) (hn : n ≤ 1000000) :
    Calls Tryd.prog 29 #[.slice a n c] w fun e w' => e = .returned (.tuple #[]) ∧ OwnG lnK 9 w' base (.slice a n c) (srtF L) ∧ Below base w w' := by
  have hl := H.len
  subst hl
  rcases H.1.2 with ⟨hnil, _⟩ | ⟨g, cap, cur, hv, hbase, hb, h1, h2, h3, h4⟩
  · injection hnil with e1 e2 e3
    have hL : L = [] := List.length_eq_zero_iff.1 e2
    subst hL
    refine (Tryd.slices_Sort_string_none a c w).mono fun e w' ⟨he, hw⟩ => ?_
    subst hw
    refine ⟨he, ?_, Below.refl _ _⟩
    show OwnG lnK 9 w' base (.slice a 0 c) ([].mergeSort leB)
    rw [List.mergeSort_nil]; exact H
  · injection hv with e1 e2 e3
    subst e1; subst e3
    have h4' : cur.toList.take L.length = L.map encStr := by rw [← flat_ln]; have h5 := h4; rw [show lnK.k = 1 from rfl, Nat.mul_one] at h5; exact h5
    refine (Tryd.slices_Sort_string g 0 c L w (holds_of_block hb h4') (Array.getElem?_eq_some_iff.1 hb).1 (by omega)).mono fun e w' ⟨he, m, os, hw⟩ => ?_
    subst hw
    refine ⟨he, ⟨?_, fun _ _ => trivial⟩, (Below.refl base w).grown (grownBy_sorted _) (by have := (Array.getElem?_eq_some_iff.1 hb).1; omega) (fun k hk => by cases hk; exact hbase)⟩
    have hln : (srtF L).length = L.length := by unfold srtF; rw [List.length_mergeSort]
    rw [flat_ln, hln]
    exact ownsRow_sorted (ts := srtF L) hln hbase hb h1 h2 h3
theorem compactH {w : World} {base : Nat} {a : Option Addr} {n c : Nat} {L : List Ln} (H : OwnG lnK 9 w base (.slice a n c) L) (hn : n ≤ 1000000) :
    Calls Tryd.prog 30 #[.slice a n c] w fun e w' => ∃ n', e = .returned (.slice a n' c) ∧ AtG lnK w' a n' c (Lib.compact L) ∧ Below base w w' := by
  have hl := H.len
  have hA := H.atG
  subst hl
  by_cases h0 : L.length = 0
  · have hL : L = [] := List.length_eq_zero_iff.1 h0
    subst hL
    exact (Tryd.slices_Compact_string_empty a c w).mono fun e w' ⟨he, hw⟩ => ⟨0, he, by subst hw; exact hA, by subst hw; exact Below.refl _ _⟩
  · obtain ⟨g, rfl, hbase, hlt, hfz⟩ := H.row (by omega)
    have hcell : ∀ i, i < L.length → w.cell? ⟨g, 0 + i, none⟩ = some (.string ((fun i => strB (L.getD i [])) i)) := fun i hi => ln_cell hA i hi
    have hstr : Lib.strsOf (fun i => strB (L.getD i [])) L.length = L := by
      unfold Lib.strsOf
      apply List.ext_getElem (by simp)
      intro i h1 h2
      simp [strB_list, List.getD_eq_getElem?_getD, List.getElem?_eq_getElem h2]
    refine (Tryd.slices_Compact_string_cells g 0 L.length c (fun i => strB (L.getD i [])) w (by omega) hA.2.1 hcell (fun j _ => hfz (0 + j))).mono fun e w' ⟨he, q, hw⟩ => ?_
    rw [hstr] at he hw
    have hle := Lib.compact_length_le L
    subst hw
    refine ⟨_, he, ln_mk rfl (by have := hA.2.1; omega) hA.2.2.1 (fun j hj => ?_), Go.below_setCells hbase _ _ _ ⟨rfl, rfl, rfl, Nat.le_refl _, fun _ _ => rfl⟩⟩
    rw [World.cell?_setCells_in g _ 0 _ (fun j hj => ?_) j (by simp; omega)]
    · simp only [List.getElem_map]
      rw [List.getElem_append_left (by omega), List.getD_eq_getElem?_getD, List.getElem?_eq_getElem (by omega)]
      rfl
    · have hj' : j < L.length := by simp at hj; omega
      have := hcell j hj'
      show (w.cell? ⟨g, 0 + j, none⟩).isSome = true
      rw [this]; rfl
#print axioms collectH
#print axioms sortH
#print axioms compactH
end Go.Proofs.YtfoalaoanpbmeaaDoor

namespace Go.Proofs.YtfoalaoanpbmeaaDoor
open Go.RowKit Go.Lib

def pathsF (a b : List FileL) : List Ln := Lib.compact (srtF ((byF a).map (·.1) ++ (byF b).map (·.1)))
def headL (p : Ln) (had has : Bool) : Ln := ([102, 105, 108, 101, 32] ++ p) ++ (if had then (if has then [] else [32, 103, 111, 110, 101]) else [32, 97, 100, 100, 101, 100])
def toldF (V : List HkV) : List Ln := V.flatMap fun h => tellF h.f h.t h.ls
def fileT (x y : Option FileL) (p : Ln) : List Ln × Nat :=
  if x.isSome && y.isSome && ((x.getD ([], [])).2 == (y.getD ([], [])).2) then ([], 0)
  else if (topF (x.getD ([], [])).2 (y.getD ([], [])).2).2 = 0 then (headL p x.isSome y.isSome :: toldF (topF (x.getD ([], [])).2 (y.getD ([], [])).2).1, 0)
  else ([], (topF (x.getD ([], [])).2 (y.getD ([], [])).2).2)
def goL (one other : List FileL) : List Ln → List Ln → List Ln × Nat
  | A, [] => (A, 0)
  | A, p :: r => if (fileT (lookP one p) (lookP other p) p).2 = 0 then goL one other (A ++ (fileT (lookP one p) (lookP other p) p).1) r else ([], (fileT (lookP one p) (lookP other p) p).2)
def linesT (a b : List FileL) : List Ln × Nat := goL (byF a) (byF b) [] (pathsF a b)

/-- Hunks that are not too long. -/
def Gd (K B : Nat) (H : List HkV) : Prop := H.length ≤ K ∧ ∀ x ∈ H, x.f ≤ K ∧ x.t ≤ K ∧ x.ls.length ≤ K ∧ ∀ s ∈ x.ls, s.length ≤ B + 1
theorem Gd.mono {K K' B : Nat} {H : List HkV} (h : Gd K B H) (hk : K ≤ K') : Gd K' B H := ⟨Nat.le_trans h.1 hk, fun x hx => by obtain ⟨h1, h2, h3, h4⟩ := h.2 x hx; exact ⟨by omega, by omega, by omega, h4⟩⟩
theorem lastD_mem {H : List HkV} : H.getLastD default = default ∨ H.getLastD default ∈ H := by
  cases H with
  | nil => exact .inl rfl
  | cons x r => exact .inr (by rw [List.getLastD_cons, ← List.getLast_eq_getLastD (by simp)]; exact List.getLast_mem _)
theorem Gd.put {K B : Nat} {H : List HkV} (h : Gd K B H) (op : Bool) {i j : Nat} (hi : i ≤ K) (hj : j ≤ K) {x : Ln} (hx : x.length ≤ B + 1) : Gd (K + 1) B (putF H op i j x) := by
  unfold putF
  have hm := h.mono (Nat.le_succ K)
  cases op with
  | true =>
    rw [if_pos rfl]
    refine ⟨by rw [List.length_append, List.length_dropLast]; have := h.1; simp; omega, fun y hy => ?_⟩
    rcases List.mem_append.1 hy with hy | hy
    · exact hm.2 y ((List.dropLast_sublist H).subset hy)
    · rw [List.mem_singleton.1 hy]
      have hl : (H.getLastD default).f ≤ K ∧ (H.getLastD default).t ≤ K ∧ (H.getLastD default).ls.length ≤ K ∧ ∀ s ∈ (H.getLastD default).ls, s.length ≤ B + 1 := by
        rcases lastD_mem (H := H) with e | e
        · rw [e]; exact ⟨Nat.zero_le _, Nat.zero_le _, Nat.zero_le _, fun s hs => by cases hs⟩
        · exact h.2 _ e
      refine ⟨by show (H.getLastD default).f ≤ _; omega, by show (H.getLastD default).t ≤ _; omega, by show ((H.getLastD default).ls ++ [x]).length ≤ _; rw [List.length_append, List.length_singleton]; omega, fun s hs => ?_⟩
      rcases List.mem_append.1 hs with hs | hs
      · exact hl.2.2.2 s hs
      · rw [List.mem_singleton.1 hs]; exact hx
  | false =>
    rw [if_neg (by decide)]
    refine ⟨by rw [List.length_append]; have := h.1; simp; omega, fun y hy => ?_⟩
    rcases List.mem_append.1 hy with hy | hy
    · exact hm.2 y hy
    · rw [List.mem_singleton.1 hy]
      exact ⟨by show i ≤ _; omega, by show j ≤ _; omega, by show 1 ≤ _; omega, fun s hs => by rw [List.mem_singleton.1 hs]; exact hx⟩
theorem getD_le {A : List Ln} {B : Nat} (h : ∀ s ∈ A, s.length ≤ B) (i : Nat) : (A.getD i []).length ≤ B := by
  by_cases hi : i < A.length
  · exact h _ (getD_mem hi)
  · rw [List.getD_eq_getElem?_getD, List.getElem?_eq_none (by omega)]; exact Nat.zero_le _
theorem go_small (ms : List Int) (a b : List Ln) (B : Nat) (ha : ∀ s ∈ a, s.length ≤ B) (hb : ∀ s ∈ b, s.length ≤ B) : ∀ (r : List Int) (K i j : Nat) (op : Bool) (H : List HkV), i ≤ K → j ≤ K → Gd K B H → Gd (K + r.length) B (hkGo ms a b r K i j op H)
  | [], _, _, _, _, _, _, _, h => h
  | m :: r, K, i, j, op, H, hi, hj, h => by
    have e : K + (m :: r).length = (K + 1) + r.length := by rw [List.length_cons]; omega
    rw [go_cons, e]
    have ga := getD_le ha i
    have gb := getD_le hb j
    split
    · split
      · exact go_small ms a b B ha hb r (K + 1) (i + 1) (j + 1) true _ (by omega) (by omega) (h.put op hi hj (by rw [List.length_cons]; omega))
      · split
        · exact go_small ms a b B ha hb r (K + 1) (i + 1) j true _ (by omega) (by omega) (h.put op hi hj (by rw [List.length_cons]; omega))
        · exact go_small ms a b B ha hb r (K + 1) i (j + 1) true _ (by omega) (by omega) (h.put op hi hj (by rw [List.length_cons]; omega))
    · exact go_small ms a b B ha hb r (K + 1) (i + 1) (j + 1) false H (by omega) (by omega) (h.mono (Nat.le_succ K))
theorem hunks_small (a b : List Ln) (B : Nat) (ha : ∀ s ∈ a, s.length ≤ B) (hb : ∀ s ∈ b, s.length ≤ B) : Gd (a.length + b.length) B (hunksF a b) := by
  have h := go_small (scrL a b) a b B ha hb (scrL a b) 0 0 0 false [] (Nat.le_refl _) (Nat.le_refl _) ⟨Nat.le_refl _, fun x hx => by cases hx⟩
  exact h.mono (by rw [Nat.zero_add]; exact fit_len (fit_scr a b))
theorem top_small (s t : Ln) (B : Nat) (hs : s.length ≤ B) (ht : t.length ≤ B) : Gd 8192 B (topF s t).1 := by
  unfold topF
  have h0 : Gd 8192 B [] := ⟨Nat.zero_le _, fun x hx => by cases hx⟩
  split
  · split
    · exact h0
    · rename_i h
      exact (hunks_small _ _ B (fun x hx => Nat.le_trans (lines_small s x hx) hs) (fun x hx => Nat.le_trans (lines_small t x hx) ht)).mono (by omega)
  · exact h0
theorem told_len (K B : Nat) : ∀ V : List HkV, (∀ x ∈ V, x.ls.length ≤ K) → (toldF V).length ≤ V.length * (K + 1)
  | [], _ => Nat.zero_le _
  | x :: V, h => by
    have h1 := told_len K B V (fun y hy => h y (List.mem_cons_of_mem _ hy))
    have h2 := h x (List.mem_cons_self ..)
    show (tellF x.f x.t x.ls ++ toldF V).length ≤ (V.length + 1) * (K + 1)
    rw [List.length_append, Nat.succ_mul]
    have : (tellF x.f x.t x.ls).length = x.ls.length + 1 := by unfold tellF; rw [List.length_cons, List.length_map]
    omega
theorem gd_told {B : Nat} {V : List HkV} (h : Gd 8192 B V) : (toldF V).length ≤ 67117056 := by
  have h1 := told_len 8192 B V (fun x hx => (h.2 x hx).2.2.1)
  have h2 : V.length * (8192 + 1) ≤ 8192 * (8192 + 1) := Nat.mul_le_mul_right _ h.1
  omega
theorem file_len (x y : Option FileL) (p : Ln) (B : Nat) (hx : (x.getD ([], [])).2.length ≤ B) (hy : (y.getD ([], [])).2.length ≤ B) : (fileT x y p).1.length ≤ 67117057 := by
  unfold fileT
  split
  · exact Nat.zero_le _
  · split
    · have := gd_told (top_small _ _ B hx hy)
      simp only [List.length_cons]; omega
    · exact Nat.zero_le _
theorem told_snoc (V : List HkV) (k : Nat) (hk : k < V.length) : toldF (V.take (k + 1)) = toldF (V.take k) ++ tellF (V.getD k default).f (V.getD k default).t (V.getD k default).ls := by
  rw [take_snoc V k default hk]
  unfold toldF
  rw [List.flatMap_append]; simp
theorem paths_perm {a b : List FileL} {s1 s2 : List Ln} (h1 : s1.Perm ((byF a).map (·.1))) (h2 : s2.Perm ((byF b).map (·.1))) : Lib.compact (srtF (s1 ++ s2)) = pathsF a b := by
  unfold pathsF
  have e : srtF (s1 ++ s2) = srtF ((byF a).map (·.1) ++ (byF b).map (·.1)) := mergeSort_of_perm (h1.append h2)
  rw [e]
theorem seeP_nodup {h : List FileL} (hn : (h.map (·.1)).Nodup) (x : FileL) : ((seeP h x).map (·.1)).Nodup := by
  unfold seeP
  split
  · exact hn
  · rename_i hx
    rw [List.map_append]
    exact List.nodup_append.2 ⟨hn, by simp, fun u hu v hv e => hx (by have h1 : v = x.1 := List.mem_singleton.1 hv; rw [← h1, ← e]; exact hu)⟩
theorem byF_nodup (l : List FileL) : ((byF l).map (·.1)).Nodup := by
  unfold byF
  have : ∀ (l h : List FileL), (h.map (·.1)).Nodup → ((l.foldl seeP h).map (·.1)).Nodup := by
    intro l
    induction l with
    | nil => exact fun h hn => hn
    | cons x l ih => exact fun h hn => ih _ (seeP_nodup hn x)
  exact this l [] List.nodup_nil
theorem byF_sub (l : List FileL) : ∀ f ∈ byF l, f ∈ l := by
  unfold byF
  have : ∀ (l h : List FileL), ∀ f ∈ l.foldl seeP h, f ∈ h ∨ f ∈ l := by
    intro l
    induction l with
    | nil => exact fun h f hf => .inl hf
    | cons x l ih =>
      intro h f hf
      rcases ih _ f hf with h1 | h1
      · unfold seeP at h1
        split at h1
        · exact .inl h1
        · rcases List.mem_append.1 h1 with h2 | h2
          · exact .inl h2
          · exact .inr (by rw [List.mem_singleton.1 h2]; exact List.mem_cons_self ..)
      · exact .inr (List.mem_cons_of_mem _ h1)
  exact fun f hf => by rcases this l [] f hf with h1 | h1; cases h1; exact h1
theorem look_small {l : List FileL} {B : Nat} (h : ∀ f ∈ l, f.2.length ≤ B) (p : Ln) : ((lookP (byF l) p).getD ([], [])).2.length ≤ B := by
  cases hl : lookP (byF l) p with
  | none => exact Nat.zero_le _
  | some f => exact h f (byF_sub l f (List.mem_of_find?_eq_some hl))
theorem srt_mem {L : List Ln} {x : Ln} : x ∈ srtF L ↔ x ∈ L := (List.mergeSort_perm L leB).mem_iff
end Go.Proofs.YtfoalaoanpbmeaaDoor

namespace Go.Proofs.YtfoalaoanpbmeaaDoor
open Go.RowKit Go.Lib

def HkB (W : World) (base : Nat) (a : Option Addr) (c : Nat) (V : List (HkV × Value)) (v : Value) (acc : List Ln) : Prop := Holds W base (hG lnK 9 v acc :: rowH a c V :: V.reverse.map lnH) ∧ ∀ x ∈ V, x.2.oneCell' = true
section
variable {W W' : World} {base b : Nat} {a : Option Addr} {c : Nat} {V : List (HkV × Value)} {v v' : Value} {acc acc' : List Ln}
theorem HkB.of (h : HkH W b a c V) (ho : OwnG lnK 9 W base v acc) (hb : base ≤ b) (hk : ∀ k, v.ownBlock = some k → k < b) : HkB W base a c V v acc := by
  refine ⟨⟨fun x hx => ?_, List.pairwise_cons.2 ⟨fun x hx k hv hxk => ?_, h.1.two⟩⟩, h.2⟩
  · rcases List.mem_cons.1 hx with rfl | hx
    · exact ho.1
    · exact (h.1.mono hb).own x hx
  · have h1 := (h.1.lt hx k hxk).1
    have h2 := hk k hv
    omega
theorem HkB.below (h : HkB W base a c V v acc) (hb : Below W.heap.size W W') : HkB W' base a c V v acc := ⟨h.1.below hb, h.2⟩
theorem HkB.own_ (h : HkB W base a c V v acc) : OwnG lnK 9 W base v acc := ⟨h.1.own (hG lnK 9 v acc) (List.mem_cons_self ..), fun _ _ => trivial⟩
theorem HkB.hk (h : HkB W base a c V v acc) : HkH W base a c V := ⟨h.1.sub (List.sublist_cons_self _ _), h.2⟩
theorem HkB.grow (h : HkB W base a c V v acc) (ho : OwnG lnK 9 W' base v' acc') (hg : W.grownBy W' v.ownBlock) (ht : Told W v v') : HkB W' base a c V v' acc' := ⟨h.1.put hg (h' := hG lnK 9 v' acc') ho.1 ht, h.2⟩
/-- The hunk at k: its cells, its lines. -/
theorem HkB.at_ (h : HkB W base a c V v acc) {k : Nat} (hk : k < V.length) : ∃ g n a2 c2, a = some ⟨g, 0, none⟩ ∧ W.cell? ⟨g, k * 3, none⟩ = some (.int .i64 ((gd V k).1.f : Nat)) ∧ W.cell? ⟨g, k * 3 + 1, none⟩ = some (.int .i64 ((gd V k).1.t : Nat)) ∧ W.cell? ⟨g, k * 3 + 2, none⟩ = some (.slice a2 n c2) ∧ AtG lnK W a2 n c2 (gd V k).1.ls := by
  have hr := h.hk.row
  obtain ⟨g, rfl, _, _, _⟩ := hr.row (by omega)
  have hA := hr.atG
  obtain ⟨a2, c2, h1, h2⟩ := (h.hk.ln (gd_mem hk)).atG_
  have e : ∀ i, 0 + k * hkK.k + i = k * 3 + i := fun i => by rw [Nat.zero_add]; rfl
  have c0 := hA.cell k hk 0 _ rfl
  have c1 := hA.cell k hk 1 _ rfl
  have c3 := hA.cell k hk 2 _ rfl
  rw [e] at c0 c1 c3
  rw [h1] at c3
  exact ⟨g, _, a2, c2, rfl, c0, c1, c3, h2⟩
end
theorem parts2 (w : World) {a a' : Option Addr} {n c n' c' : Nat} {s1 s2 : List Ln} (h1 : AtG lnK w a n c s1) (h2 : AtG lnK w a' n' c' s2) : Parts_ln (w.alloc (.cells #[.slice a n c, .slice a' n' c'] 32)) w.heap.size [s1, s2] := by
  have hb : Below w.heap.size w (w.alloc (.cells #[.slice a n c, .slice a' n' c'] 32)) := (Below.refl _ _).alloc (Nat.le_refl _) _
  have e := heap_alloc_new w (.cells #[.slice a n c, .slice a' n' c'] 32)
  intro j hj
  have hj2 : j = 0 ∨ j = 1 := by simp at hj; omega
  rcases hj2 with rfl | rfl
  · exact ⟨a, n, c, by rw [cell_of_row _ _ _ _ _ _ e]; rfl, h1.below hb⟩
  · exact ⟨a', n', c', by rw [cell_of_row _ _ _ _ _ _ e]; rfl, h2.below hb⟩
/-- What Lines answers. -/
def LinesIs (R : List Ln × Nat) (w : World) (e : Ending) (w' : World) : Prop := ∃ a n c, e = .returned (.tuple #[.slice a n c, .int .i64 (R.2 : Nat)]) ∧ AtG lnK w' a n c R.1 ∧ Below w.heap.size w w'
theorem ByAt.low {w w' : World} {kb s : Nat} {h : List FileL} (H : ByAt w kb h) (hb : Below s w w') (hk : kb < s) : ByAt w' kb h := by
  obtain ⟨D, ⟨es, cl, h1, h2⟩, h3⟩ := H
  exact ⟨D, ⟨es, cl, (hb.block kb hk).trans h1, h2⟩, h3⟩
theorem compact_mem (zs : List Ln) : ∀ x ∈ Lib.compact zs, x ∈ zs := by
  have : ∀ m, m ≤ zs.length → ∀ x ∈ compactUpTo zs.toArray m, x ∈ zs := by
    intro m
    induction m with
    | zero => intro _ x hx; exact absurd hx (by simp [compactUpTo])
    | succ m ih =>
      intro hm x hx
      rw [compactUpTo_succ] at hx
      rcases List.mem_append.1 hx with hx | hx
      · exact ih (by omega) x hx
      · split at hx
        · have h1 : x = zs.toArray[m]! := List.mem_singleton.1 hx
          have h2 : m < zs.length := by omega
          rw [h1]; simp [h2]
        · cases hx
  exact this zs.length (Nat.le_refl _)
theorem paths_small {L L' : List FileL} {B : Nat} (h1 : ∀ f ∈ L, f.1.length ≤ B) (h2 : ∀ f ∈ L', f.1.length ≤ B) : ∀ p ∈ pathsF L L', p.length ≤ B := fun p hp => by
  have h3 := srt_mem.1 (compact_mem _ p hp)
  rcases List.mem_append.1 h3 with h4 | h4
  · obtain ⟨f, hf, rfl⟩ := List.mem_map.1 h4; exact h1 f (byF_sub L f hf)
  · obtain ⟨f, hf, rfl⟩ := List.mem_map.1 h4; exact h2 f (byF_sub L' f hf)
theorem top0 {s t : Ln} {Z : List HkV} (h : topF s t = (Z, 0)) (w : World) (hs : s.length ≤ 4000000000) (ht : t.length ≤ 4000000000) (hT : Tabs w) :
    Calls Tryd.prog 8 #[.string (strB s), .string (strB t)] w fun e w' => ∃ a c base V, e = .returned (.tuple #[.slice a V.length c, .int .i64 0]) ∧ V.map (·.1) = Z ∧ HkH w' base a c V ∧ w.heap.size ≤ base ∧ Below w.heap.size w w' := by
  have h1 := top_any (strB s) (strB t) w (by rw [strB_size]; exact hs) (by rw [strB_size]; exact ht) hT
  rw [strB_list, strB_list, h] at h1
  exact h1
theorem topN {s t : Ln} {Z : List HkV} {r : Nat} (h : topF s t = (Z, r)) (w : World) (hs : s.length ≤ 4000000000) (ht : t.length ≤ 4000000000) (hT : Tabs w) :
    Calls Tryd.prog 8 #[.string (strB s), .string (strB t)] w fun e w' => ∃ a c base V, e = .returned (.tuple #[.slice a V.length c, .int .i64 (r : Nat)]) ∧ V.map (·.1) = Z ∧ HkH w' base a c V ∧ w.heap.size ≤ base ∧ Below w.heap.size w w' := by
  have h1 := top_any (strB s) (strB t) w (by rw [strB_size]; exact hs) (by rw [strB_size]; exact ht) hT
  rw [strB_list, strB_list, h] at h1
  exact h1
theorem file_eq {x y : Option FileL} {p p1 b1 p2 : Ln} (h1 : x.isSome = true) (h2 : y.isSome = true) (h3 : x.getD ([], []) = (p1, b1)) (h4 : y.getD ([], []) = (p2, b1)) : fileT x y p = ([], 0) := by
  unfold fileT; rw [h1, h2, h3, h4]; simp
theorem file_ne {x y : Option FileL} {p p1 b1 p2 b2 : Ln} {q1 q2 : Bool} {Z : List HkV} {r : Nat} (h1 : x.isSome = q1) (h2 : y.isSome = q2) (h3 : x.getD ([], []) = (p1, b1)) (h4 : y.getD ([], []) = (p2, b2)) (hne : (q1 && q2 && (b1 == b2)) = false) (ht : topF b1 b2 = (Z, r)) : fileT x y p = if r = 0 then (headL p q1 q2 :: toldF Z, 0) else ([], r) := by
  unfold fileT; rw [h1, h2, h3, h4]; simp only [hne, ht, if_false, Bool.false_eq_true]
theorem goL_cons (one other : List FileL) (A : List Ln) (p : Ln) (r : List Ln) : goL one other A (p :: r) = if (fileT (lookP one p) (lookP other p) p).2 = 0 then goL one other (A ++ (fileT (lookP one p) (lookP other p) p).1) r else ([], (fileT (lookP one p) (lookP other p) p).2) := rfl
theorem look_two {l : List FileL} {p : Ln} {x : FileL} : ∃ f, (lookP l p).getD x = f := ⟨_, rfl⟩
end Go.Proofs.YtfoalaoanpbmeaaDoor
