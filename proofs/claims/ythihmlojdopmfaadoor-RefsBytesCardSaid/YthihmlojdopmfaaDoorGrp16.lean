/-
  Merged: Number, Concat, Put, PutId, Text.
-/
import Derived.Test.YthihmlojdopmfaaDoorGrp15
import Derived.Test.YthihmlojdopmfaaDoorGrp1
import Derived.Deep.LoopGhost
import Derived.Test.YthihmlojdopmfaaDoorGrp8
import Derived.Test.YthihmlojdopmfaaDoorGrp2
import Derived.Deep.AppendSrc
namespace Go.Proofs.YthihmlojdopmfaaDoor
open Go.RowKit

theorem byte_more (g : Nat) : bits .or .u8 ((g : Int) % 128) 128 = ((UInt8.ofNat (g % 128 + 128)).toNat : Int) := by
 rw [u8_or128_right _ (by omega) (by omega)]
 have : (UInt8.ofNat (g % 128 + 128)).toNat = g % 128 + 128 := by simp; omega
 rw [this]; omega

theorem byte_last (g : Nat) (h : g < 128) : (g : Int) = ((UInt8.ofNat g).toNat : Int) := by
 have : (UInt8.ofNat g).toNat = g := by simp; omega
 rw [this]

set_option maxRecDepth 100000 in
set_option maxHeartbeats 400000 in
theorem number_any (n : Nat) (w : World) (hn : n < 9223372036854775808) :
  Calls Tryd.prog 60 #[.int .i64 n] w (Made w (numF n)) := by
 go_enter Tryd.func60, Tryd.ntmps60
 go_wp2
 go_loopg [0, 3] n (fun g v0 v3 wr => ∃ done : List UInt8, g ≤ n ∧ v0 = .int .i64 (g : Int) ∧ Hid (numF n = done ++ numF g ∧ done.length + (numF g).length ≤ 9) ∧ Own wr w.heap.size v3 done ∧ Below w.heap.size w wr)
 case atStart => exact ⟨[], Nat.le_refl _, rfl, ⟨rfl, by have := numF_length_le9 n (by omega); simpa using this⟩, Own.nil _ _, Below.refl _ _⟩
 case round =>
  obtain ⟨done, hg, rfl, hd, hown, hbel⟩ := hrel
  have hB := Lib.hid (byte_more gk)
  have hsz := hbel.size
  by_cases h128 : 128 ≤ gk
  ·go_wp2_with (at_builtin; go_must (refine app_bytes rfl (.tmp 8) (.tmp 13) rfl w.heap.size _ done rfl (hown.alloc _) (some ⟨wr.heap.size, 0, none⟩) 1 1 [UInt8.ofNat (gk % 128 + 128)] rfl (by rw [hB.out]; exact bytes_one _ _) (by have := hd.out.2; omega) (by simp; omega) ?_); intro v' w1 hown1 hgr1)
   go_roundg (gk / 128)
   case measure => omega
   case rel =>
    have hd := hd.out
    have hn7 := numF_ge gk (by omega)
    refine ⟨done ++ [UInt8.ofNat (gk % 128 + 128)], by omega, by go_num, ⟨by rw [hd.1, hn7]; simp, ?_⟩, hown1, ((hbel.alloc hsz _).grown hgr1 (by simp; omega) hown.grown)⟩
    rw [hn7] at hd
    simp at hd ⊢
    omega
  ·have hlt : gk < 128 := by omega
   have hL := Lib.hid (byte_last gk hlt)
   go_wp2_with (at_builtin; go_must (refine app_bytes rfl (.tmp 15) (.tmp 18) rfl w.heap.size _ done rfl (hown.alloc _) (some ⟨wr.heap.size, 0, none⟩) 1 1 [UInt8.ofNat gk] rfl (by rw [hL.out]; exact bytes_one _ _) (by have := hd.out.2; omega) (by simp; omega) ?_); intro v' w1 hown1 hgr1)
   go_ret
   refine Made.of ?_ ((hbel.alloc hsz _).grown hgr1 (by simp; omega) hown.grown)
   rw [hd.out.1, numF_lt _ hlt]
   exact hown1
end Go.Proofs.YthihmlojdopmfaaDoor

namespace Go.Proofs.YthihmlojdopmfaaDoor
open Go.RowKit

def Grown (w : World) (n : Nat) (e : Ending) (w' : World) : Prop := ∃ v, e = .returned v ∧ Own w' w.heap.size v [] ∧ Room v n ∧ Below w.heap.size w w'

theorem zeros_own (w : World) (n cap : Nat) (hn : n ≤ cap) (hc : cap ≤ maxLen) (base : Nat) (hb : base ≤ w.heap.size) :
  Own (w.drew.alloc (.cells (Builtin.zeroCells (Value.int .u8 0).cells n ++ Builtin.zeroCells (Value.int .u8 0).cells (cap - n)) 5)) base (.slice (some ⟨w.heap.size, 0, none⟩) 0 cap) [] := by
 refine ⟨rfl, .inr ⟨w.heap.size, cap, _, rfl, hb, heap_alloc_new w.drew _, Nat.zero_le _, hc, ?_, by simp⟩⟩
 have h1 : (Value.int IntKind.u8 0).cells.size = 1 := rfl
 simp only [Array.size_append, size_zeroCells, h1]
 omega

set_option maxRecDepth 100000 in
set_option maxHeartbeats 400000 in
theorem grow_nil (n : Nat) (w : World) (hn : n ≤ 281474976710656) :
  Calls Tryd.prog 84 #[.slice none 0 0, .int .i64 n] w (Grown w n) := by
 obtain ⟨i0, hi, hz0, hz1, hz2⟩ := info_parts Tryd.info5
 rcases Nat.eq_zero_or_pos n with h0 | h0
 ·subst h0
  go_enter Tryd.func84, Tryd.ntmps84
  go_wp2
  go_ret
  exact ⟨_, rfl, Own.nil _ _, ⟨_, _, _, rfl, Nat.le_refl _⟩, Below.refl _ _⟩
 ·have hrz : ∀ ty, (Builtin.append_ #[28, 3] ty #[.slice none 0 0, .int .i64 n]).run Tryd.prog w =
    .ok (.slice (some ⟨w.heap.size, 0, none⟩) n (grownCap w n 0 5)) (w.drew.alloc (.cells (Builtin.zeroCells (Value.int .u8 0).cells n ++ Builtin.zeroCells (Value.int .u8 0).cells (grownCap w n 0 5 - n)) 5)) := fun ty =>
   Lib.run_append_nil_zeros w 28 3 ty 5 i0 (.int .u8 0) .i64 .i64 Tryd.underlying28 Tryd.underlying3 hi hz0 n h0 (by omega) (by omega) (by rw [hz2]; omega)
  have hge := grownCap_ge w n 0 5
  have hle := grownCap_le_maxLen w n 0 5 (by unfold maxLen; omega)
  generalize grownCap w n 0 5 = G at hrz hge hle
  have hG : G ≤ 9223372036854775807 := by unfold maxLen at hle; omega
  have hOwn := zeros_own w n G hge hle w.heap.size (Nat.le_refl _)
  have HO := Lib.hid hOwn
  clear hOwn hi hz0 hz1 hz2 hle
  go_enter Tryd.func84, Tryd.ntmps84
  go_wp2_with (at_builtin; go_must (refine Lib.wpList_append_run _ rfl _ _ _ _ rfl _ _ rfl rfl _ _ (hrz _) ?_))
  go_ret
  exact ⟨_, rfl, HO.out, ⟨_, _, _, rfl, hge⟩, (Below.refl _ _).drew.alloc (Nat.le_refl _) _⟩

def sumTo (ls : List (List UInt8)) (j : Nat) : Nat := ((ls.take j).flatten).length

theorem take_next (ls : List (List UInt8)) (j : Nat) (h : j < ls.length) : (ls.take (j + 1)).flatten = (ls.take j).flatten ++ ls.getD j [] := by
 rw [List.take_succ_eq_append_getElem h, List.flatten_append]; simp [h]

theorem sumTo_next (ls : List (List UInt8)) (j n : Nat) (h : j < ls.length) (hn : (ls.getD j []).length = n) : sumTo ls (j + 1) = sumTo ls j + n := by
 unfold sumTo; rw [take_next ls j h, List.length_append, hn]

theorem sumTo_le (ls : List (List UInt8)) (j : Nat) : sumTo ls j ≤ ls.flatten.length := by
 unfold sumTo
 have : ls.flatten.length = ((ls.take j).flatten).length + ((ls.drop j).flatten).length := by
  rw [← List.length_append, ← List.flatten_append, List.take_append_drop]
 omega

theorem sumTo_all (ls : List (List UInt8)) (j : Nat) (h : ls.length ≤ j) : sumTo ls j = ls.flatten.length := by
 unfold sumTo; rw [List.take_of_length_le h]

def Parts (w : World) (g : Nat) (ls : List (List UInt8)) : Prop := ∀ j, j < ls.length → ∃ a n c, w.cell? ⟨g, j, none⟩ = some (.slice a n c) ∧ Bytes w a n c (ls.getD j [])

theorem Parts.below {w w' : World} {g : Nat} {ls : List (List UInt8)} (h : Parts w g ls) (hb : Below w.heap.size w w') : Parts w' g ls := fun j hj => by
 obtain ⟨a, n, c, h1, h2⟩ := h j hj
 exact ⟨a, n, c, (hb.cell (World.block_lt_of_cell? _ _ h1)).trans h1, h2.below hb⟩

set_option maxRecDepth 100000 in
set_option maxHeartbeats 400000 in
theorem concat_any (g k : Nat) (ls : List (List UInt8)) (w : World) (hk : ls.length = k) (hk63 : k ≤ 1000000) (hp : Parts w g ls) (ht : ls.flatten.length ≤ 281474976710656) :
  Calls Tryd.prog 59 #[.slice (some ⟨g, 0, none⟩) k k] w (Made w ls.flatten) := by
 have HK := Lib.hid hk
 clear hk
 obtain ⟨T, hT⟩ : ∃ T, T = ls.flatten.length := ⟨_, rfl⟩
 rw [← hT] at ht
 have HT := Lib.hid hT
 clear hT
 go_enter Tryd.func59, Tryd.ntmps59
 go_wp2
 go_loopg [3, 11] k (fun gh v3 v11 W => ∃ j s : Nat, w = W ∧ gh + j = k ∧ Hid (s = sumTo ls j) ∧ v11 = .int .i64 j ∧ v3 = .int .i64 s)
 case atStart => exact ⟨0, 0, rfl, rfl, rfl, rfl, rfl⟩
 case round =>
  obtain ⟨j, s, rfl, hg, hs, rfl, rfl⟩ := hrel
  have HG := Lib.hid hg
  have hjk : j ≤ k := by omega
  clear hg
  have hsT : s ≤ T := by rw [hs.out, HT.out]; exact sumTo_le _ _
  by_cases hj : j < k
  ·obtain ⟨a, n, c, hcell, hB⟩ := hp j (by have := HK.out; omega)
   have hnx := sumTo_next ls j n (by have := HK.out; omega) hB.1
   have hnT : s + n ≤ T := by rw [hs.out, HT.out, ← hnx]; exact sumTo_le _ _
   have HN := Lib.hid hnx
   clear hnx hB
   go_wp2
   go_roundg (gk - 1)
   case measure => have := HG.out; omega
   case rel => exact ⟨j + 1, s + n, rfl, by have := HG.out; omega, by rw [hs.out]; exact HN.out.symm, by go_num, by go_num⟩
  ·have hsall : s = T := by rw [hs.out, HT.out]; exact sumTo_all _ _ (by have := HK.out; omega)
   subst hsall
   go_wp2_with (go_at_call 84; refine (grow_nil _ _ (by omega)).mono ?_; rintro e w1 ⟨v, rfl, hown, hroom, hbel⟩)
   go_loopg [6, 27] k (fun gh v6 v27 W => ∃ j : Nat, gh + j = k ∧ v27 = .int .i64 j ∧ Own W w.heap.size v6 ((ls.take j).flatten) ∧ Room v6 s ∧ Below w.heap.size w W)
   case atStart => exact ⟨0, rfl, rfl, hown, hroom, hbel⟩
   case round =>
    obtain ⟨j', hg', rfl, hown', hroom', hbel'⟩ := hrel
    have HG' := Lib.hid hg'
    have hjk' : j' ≤ k := by omega
    clear hg' hown hroom hbel
    have hsz := hbel'.size
    by_cases hj' : j' < k
    ·obtain ⟨a, n, c, hcell, hB⟩ := (hp.below hbel') j' (by have := HK.out; omega)
     have hnx := sumTo_next ls j' n (by have := HK.out; omega) hB.1
     have hnT : ((ls.take j').flatten).length + n ≤ s := by
      have := sumTo_le ls (j' + 1)
      have := HT.out
      unfold sumTo at *
      omega
     have HB := Lib.hid hB
     have HT' := Lib.hid (take_next ls j' (by have := HK.out; omega))
     clear hnx hB
     go_wp2_with (at_builtin; go_must (refine app_room rfl (.tmp 31) (.tmp 32) rfl w.heap.size _ _ rfl hown' s hroom' a n c (ls.getD j' []) rfl HB.out hnT ?_); intro v' w2 hown2 hroom2 hgr2)
     go_roundg (gk - 1)
     case measure => have := HG'.out; omega
     case rel => exact ⟨j' + 1, by have := HG'.out; omega, by go_num, by rw [HT'.out]; exact hown2, hroom2, hbel'.grown hgr2 hsz hown'.grown⟩
    ·have hall : (ls.take j') = ls := List.take_of_length_le (by have := HK.out; omega)
     have HA := Lib.hid hall
     clear hall
     go_wp2
     go_ret
     exact Made.of (by rw [HA.out] at hown'; exact hown') hbel'
end Go.Proofs.YthihmlojdopmfaaDoor

namespace Go.Proofs.YthihmlojdopmfaaDoor
open Go.RowKit

def MadePair (w : World) (l : List UInt8) (er : Int) (e : Ending) (w' : World) : Prop := ∃ a n c, e = .returned (.tuple #[.slice a n c, .int .i64 er]) ∧ Own w' w.heap.size (.slice a n c) l ∧ Below w.heap.size w w'

theorem parts_two {w : World} {a1 a2 : Option Addr} {n1 c1 n2 c2 : Nat} {l1 l2 : List UInt8} (h1 : Bytes w a1 n1 c1 l1) (h2 : Bytes w a2 n2 c2 l2) :
  Parts (w.alloc (.cells #[.slice a1 n1 c1, .slice a2 n2 c2] 28)) w.heap.size [l1, l2] := by
 have hb : Below w.heap.size w (w.alloc (.cells #[.slice a1 n1 c1, .slice a2 n2 c2] 28)) := (Below.refl _ _).alloc (Nat.le_refl _) _
 intro j hj
 rcases (by simp at hj; omega : j = 0 ∨ j = 1) with rfl | rfl
 ·exact ⟨a1, n1, c1, by simp, h1.below hb⟩
 ·exact ⟨a2, n2, c2, by simp, h2.below hb⟩

set_option maxRecDepth 100000 in
set_option maxHeartbeats 400000 in
theorem put_any (a : Option Addr) (n c m : Nat) (l : List UInt8) (w : World) (hb : Bytes w a n c l) (hm : m < 9223372036854775808) (hl : l.length ≤ 281474976710000) :
  Calls Tryd.prog 30 #[.slice a n c, .int .i64 m] w (MadePair w (l ++ numF m) 0) := by
 have h9 := numF_length_le9 m (by omega)
 have HB := Lib.hid hb
 clear hb
 go_enter Tryd.func30, Tryd.ntmps30
 go_wp2_with (go_at_call 60; refine (number_any _ _ hm).mono ?_; rintro e w1 ⟨a1, n1, c1, rfl, hown1, hbel1⟩)
 have hb1 := hown1.isBytes
 have hP := parts_two (HB.out.below hbel1) hb1
 have HP := Lib.hid hP
 have hsz := hbel1.size
 clear hP hb1 hown1
 go_wp2_with (go_at_call 59; go_must (refine (concat_any _ 2 [l, numF m] _ rfl (by omega) HP.out (by simp; omega)).mono ?_); rintro e w2 ⟨a2, n2, c2, rfl, hown2, hbel2⟩)
 go_ret2
 have hz : w1.heap.size ≤ (w1.alloc (.cells #[.slice a n c, .slice a1 n1 c1] 28)).heap.size := by simp
 exact ⟨_, _, _, rfl, by have := hown2.mono (Nat.le_trans hsz hz); simpa using this, (hbel1.trans ((Below.refl _ _).alloc hsz _)).trans (hbel2.mono (Nat.le_trans hsz hz))⟩

end Go.Proofs.YthihmlojdopmfaaDoor

namespace Go.Proofs.YthihmlojdopmfaaDoor
open Go.RowKit

end Go.Proofs.YthihmlojdopmfaaDoor

namespace Go.Proofs.YthihmlojdopmfaaDoor
open Go.RowKit

theorem below_setCells {k g : Nat} {w0 : World} (hk : k ≤ g) : ∀ (vs : List Value) (o : Nat) (w : World), Below k w0 w → Below k w0 (w.setCells g o vs)
 | [], _, _, h => h
 | v :: r, o, w, h => by
  rw [World.setCells]
  exact below_setCells hk r (o + 1) _ (h.setCell hk v)

def MadeB (w : World) (l : List UInt8) (e : Ending) (w' : World) : Prop := ∃ a n c, e = .returned (.slice a n c) ∧ Bytes w' a n c l ∧ Below w.heap.size w w'

theorem byteCells_map (s : ByteArray) : byteCells s = s.data.toList.map B := rfl

theorem own_some {w : World} {base : Nat} {v : Value} {l : List UInt8} (h : Own w base v l) (hl : 0 < l.length) :
  ∃ g cap cur, v = .slice (some ⟨g, 0, none⟩) l.length cap ∧ base ≤ g ∧ w.heap[g]? = some (.cells cur 5 (0, 0)) ∧ l.length ≤ cap ∧ cap ≤ maxLen ∧ cur.size = cap := by
 rcases h.2 with ⟨_, hn⟩ | ⟨g, cap, cur, hv, hb, hg, hn, hm, hsz, _⟩
 ·omega
 ·exact ⟨g, cap, cur, hv, hb, hg, hn, hm, by omega⟩

theorem bytes_of_row {w : World} {g c : Nat} {cs : Array Value} {t : TypeId} {fr : Nat × Nat} {l : List UInt8} (hg : w.heap[g]? = some (.cells cs t fr)) (hc : l.length ≤ c) (hc63 : c ≤ 9223372036854775807)
  (hcs : ∀ j, j < l.length → cs[j]? = some (B (l.getD j 0))) : Bytes w (some ⟨g, 0, none⟩) l.length c l :=
 ⟨rfl, hc, hc63, .inr ⟨g, 0, rfl, fun j hj => by rw [Nat.zero_add, cell_of_row w g j cs t fr hg, hcs j hj]; rfl⟩⟩

theorem run_app_str {w : World} (base : Nat) (v : Value) (l : List UInt8) (hown : Own w base v l) (hl : 0 < l.length) (s : ByteArray) (ty : TypeId)
  (h48 : l.length + s.size ≤ 140737488355328) (hbase : base ≤ w.heap.size) :
  ∃ a n c w', (Builtin.append_ #[28, 9] ty #[v, .string s]).run Tryd.prog w = .ok (.slice a n c) w' ∧ Bytes w' a n c (l ++ s.data.toList) ∧ Below base w w' := by
 obtain ⟨i0, hi, hz0, hz1, hz2⟩ := info_parts Tryd.info5
 have hown0 := hown
 obtain ⟨g, cap, cur, rfl, hbg, hg, hn, hm, hsz⟩ := own_some hown hl
 have hsl : s.data.toList.length = s.size := by simp
 have hsrc : Src Tryd.prog i0.size 9 (.string s) s.size (byteCells s) w := by rw [hz1]; exact Src.ofString w Tryd.underlying9 s
 have hm63 : cap ≤ 9223372036854775807 := by unfold maxLen at hm; omega
 by_cases hroom : l.length + s.size ≤ cap
 ·have hlen : (byteCells s).length = s.size := byteCells_length s
  have hr := run_append_room_src (P := Tryd.prog) w 28 9 ty 5 i0 Tryd.underlying28 hi g 0 l.length cap (.string s) s.size (byteCells s) hsrc hroom
   (fun j hj => by rw [hz1, cell_of_row w g _ cur 5 (0, 0) hg]; simp; omega) (fun j _ => frozen_of_row w g _ cur 5 hg)
  refine ⟨_, _, _, _, hr, ⟨by simp, hroom, hm63, .inr ⟨g, 0, rfl, fun j hj => ?_⟩⟩, below_setCells hbg _ _ _ (Below.refl _ _)⟩
  rw [hz1]
  by_cases hjl : j < l.length
  ·rw [World.cell?_setCells_out g (byteCells s) _ w ⟨g, 0 + j, none⟩ (fun _ _ => .inl (by simp; omega))]
   have := hown0.isBytes.cells j hjl
   rw [this]
   simp [hjl, List.getElem?_append_left]
  ·have hin := World.cell?_setCells_in g (byteCells s) (0 + l.length * 1) w (fun i hi => by rw [cell_of_row w g _ cur 5 (0, 0) hg]; simp; omega) (j - l.length) (by omega)
   rw [show 0 + l.length * 1 + (j - l.length) = 0 + j from by omega] at hin
   rw [hin]
   have hj2 : j - l.length < s.data.toList.length := by omega
   simp only [byteCells_map, List.getElem_map, B]
   rw [List.getD_eq_getElem?_getD, List.getElem?_append_right (by omega), List.getElem?_eq_getElem hj2]
   rfl
 ·have hold : (Builtin.firstCells i0.size l.length (.slice (some ⟨g, 0, none⟩) l.length cap)).run Tryd.prog w.drew = .ok (l.map B).toArray w.drew := by
   rw [hz1]
   refine run_firstCells_some w.drew 1 l.length ⟨g, 0, none⟩ l.length cap (l.map B) (by simp) (fun j u hj => ?_)
   exact hown0.cells (g := g) rfl j u hj
  have hfit : Builtin.nextslicecap (l.length + s.size) cap * i0.bytes ≤ 281474976710656 := by rw [hz2]; exact growslice_fits (by omega) (by omega)
  have hr := run_append_grow_src (P := Tryd.prog) w 28 9 ty 5 i0 (.int .u8 0) Tryd.underlying28 hi hz0 (some ⟨g, 0, none⟩) l.length cap (l.map B) hold (.string s) s.size (byteCells s) hsrc (by omega) (by omega) hfit
  have hge := grownCap_ge w (l.length + s.size) cap 5
  have hle := grownCap_le_maxLen w (l.length + s.size) cap 5 (by unfold maxLen; omega)
  generalize grownCap w (l.length + s.size) cap 5 = G at hr hge hle
  have hG : G ≤ 9223372036854775807 := by unfold maxLen at hle; omega
  have hB := bytes_of_row (w := w.drew.alloc (.cells ((l.map B ++ byteCells s).toArray ++ Builtin.zeroCells (Value.int .u8 0).cells (G - (l.length + s.size))) 5)) (c := G) (l := l ++ s.data.toList)
   (heap_alloc_new w.drew _) (by simp; omega) hG (fun j hj => by
    rw [byteCells_map, ← List.map_append, Array.getElem?_append_left (by simpa using hj), List.getElem?_toArray, List.getElem?_map, List.getElem?_eq_getElem hj]
    simp [List.getD_eq_getElem?_getD, List.getElem?_eq_getElem hj])
  rw [show (l ++ s.data.toList).length = l.length + s.size from by simp] at hB
  exact ⟨_, _, _, _, hr, hB, (Below.refl _ _).drew.alloc hbase _⟩

theorem conv_bytes {w : World} {ops : Array Oper} {rest : List Oper} {o : Oper} {a : Act} {Q : Exit → Act → World → Prop} (hgd : o.guard = none) (x : Operand) (ho : o.op = .convert 9 28 x)
  (s : ByteArray) (hx : a.eval x = .string s) (hs : s.size ≤ 9223372036854775807)
  (h : ∀ c w1, Bytes w1 (some ⟨w.heap.size, 0, none⟩) s.size c s.data.toList → Below w.heap.size w w1 → w1.heap.size = w.heap.size + 1 → wpList Tryd.prog ops Q rest (a.put o.dst (.slice (some ⟨w.heap.size, 0, none⟩) s.size c)) w1) :
  wpList Tryd.prog ops Q (o :: rest) a w := by
 have hr := run_bytes_of_string (P := Tryd.prog) w 9 28 5 s Tryd.underlying9 Tryd.underlying28 Tryd.underlying5
 have hge := grownCap_ge w s.size 0 5
 have hle := grownCap_le_maxLen w s.size 0 5 (by unfold maxLen; omega)
 generalize grownCap w s.size 0 5 = G at hr hge hle
 have hG : G ≤ 9223372036854775807 := by unfold maxLen at hle; omega
 have hB := bytes_of_row (w := w.drew.alloc (.cells (bytesRow s G) 5 ((bytesRow s G).size, (bytesRow s G).size + 1))) (c := G) (l := s.data.toList) (heap_alloc_new w.drew _) (by simpa using hge) hG (fun j hj => by
  unfold bytesRow
  rw [Array.getElem?_append_left (by simpa using hj)]
  simp only [← Array.getElem?_toList]
  simp [B, List.getD_eq_getElem?_getD, List.getElem?_eq_getElem hj])
 rw [show s.data.toList.length = s.size from by simp] at hB
 refine wpList_ok hgd ?_ (h G _ hB ((Below.refl _ _).drew.alloc (Nat.le_refl _) _) (by simp))
 unfold execOp
 simp only [ho, hx, Sem.run_bind, hr, Result.andThen_ok, Sem.run_pure]

theorem app_str {w : World} {ops : Array Oper} {rest : List Oper} {o : Oper} {a : Act} {Q : Exit → Act → World → Prop} (hgd : o.guard = none) (x y : Operand)
  (ho : o.op = .call { callee := .builtin .append, args := #[x, y], argTypes := #[28, 9] })
  (base : Nat) (v : Value) (l : List UInt8) (hx : a.eval x = v) (hown : Own w base v l) (hl : 0 < l.length) (s : ByteArray) (hy : a.eval y = .string s)
  (h48 : l.length + s.size ≤ 140737488355328) (hbase : base ≤ w.heap.size)
  (h : ∀ a' n c w', Bytes w' a' n c (l ++ s.data.toList) → Below base w w' → wpList Tryd.prog ops Q rest (a.put o.dst (.slice a' n c)) w') : wpList Tryd.prog ops Q (o :: rest) a w := by
 obtain ⟨a', n, c, w', hr, hb, hbel⟩ := run_app_str base v l hown hl s o.type h48 hbase
 exact Lib.wpList_append_run w hgd x y 28 9 ho _ _ hx hy _ _ hr (h _ _ _ _ hb hbel)

theorem byte_more_ref' (g : Nat) : 128 + (g : Int) % 128 = ((UInt8.ofNat (g % 128 + 128)).toNat : Int) := by
 have : (UInt8.ofNat (g % 128 + 128)).toNat = g % 128 + 128 := by simp; omega
 rw [this]; omega

set_option maxRecDepth 100000 in
set_option maxHeartbeats 400000 in
theorem refNumber_any (n : Nat) (w : World) (hn : n < 9223372036854775808) :
  Calls Tryd.prog 39 #[.int .i64 n] w (Made w (numF n)) := by
 go_enter Tryd.func39, Tryd.ntmps39
 go_wp2
 go_loopg [0, 3] n (fun g v0 v3 wr => ∃ done : List UInt8, g ≤ n ∧ v0 = .int .i64 (g : Int) ∧ Hid (numF n = done ++ numF g ∧ done.length + (numF g).length ≤ 9) ∧ Own wr w.heap.size v3 done ∧ Below w.heap.size w wr)
 case atStart => exact ⟨[], Nat.le_refl _, rfl, ⟨rfl, by have := numF_length_le9 n (by omega); simpa using this⟩, Own.nil _ _, Below.refl _ _⟩
 case round =>
  obtain ⟨done, hg, rfl, hd, hown, hbel⟩ := hrel
  have hB := Lib.hid (byte_more_ref' gk)
  have hsz := hbel.size
  by_cases h128 : 128 ≤ gk
  ·go_wp2_with (at_builtin; go_must (refine app_bytes rfl (.tmp 6) (.tmp 11) rfl w.heap.size _ done rfl (hown.alloc _) (some ⟨wr.heap.size, 0, none⟩) 1 1 [UInt8.ofNat (gk % 128 + 128)] rfl (by rw [hB.out]; exact bytes_one _ _) (by have := hd.out.2; omega) (by simp; omega) ?_); intro v' w1 hown1 hgr1)
   go_roundg (gk / 128)
   case measure => omega
   case rel =>
    have hd := hd.out
    have hn7 := numF_ge gk (by omega)
    refine ⟨done ++ [UInt8.ofNat (gk % 128 + 128)], by omega, by go_num, ⟨by rw [hd.1, hn7]; simp, ?_⟩, hown1, ((hbel.alloc hsz _).grown hgr1 (by simp; omega) hown.grown)⟩
    rw [hn7] at hd
    simp at hd ⊢
    omega
  ·have hlt : gk < 128 := by omega
   have hL := Lib.hid (byte_last gk hlt)
   go_wp2_with (at_builtin; go_must (refine app_bytes rfl (.tmp 15) (.tmp 18) rfl w.heap.size _ done rfl (hown.alloc _) (some ⟨wr.heap.size, 0, none⟩) 1 1 [UInt8.ofNat gk] rfl (by rw [hL.out]; exact bytes_one _ _) (by have := hd.out.2; omega) (by simp; omega) ?_); intro v' w1 hown1 hgr1)
   go_ret
   refine Made.of ?_ ((hbel.alloc hsz _).grown hgr1 (by simp; omega) hown.grown)
   rw [hd.out.1, numF_lt _ hlt]
   exact hown1

set_option maxRecDepth 100000 in
set_option maxHeartbeats 400000 in
theorem refText_any (s : ByteArray) (w : World) (hs : s.size ≤ 140737488351232) :
  Calls Tryd.prog 40 #[.string s] w (MadeB w (numF s.size ++ s.data.toList)) := by
 have h9 := Lib.hid (numF_length_le9 s.size (by omega))
 have hp := Lib.hid (numF_length_pos s.size)
 go_enter Tryd.func40, Tryd.ntmps40
 go_wp2_with (first
  | (go_at_call 39; go_must (refine (refNumber_any _ _ (by omega)).mono ?_); rintro e w1 ⟨a1, n1, c1, rfl, hown1, hbel1⟩; have hsz1 := hbel1.size; have HO := Lib.hid hown1; clear hown1)
  | ((with_reducible refine atS 7 ?_); refine app_str rfl (.tmp 5) (.tmp 6) rfl w.heap.size _ _ rfl HO.out hp.out s rfl (by have := h9.out; omega) hsz1 ?_; intro a2 n2 c2 w2 hb2 hbel2))
 go_ret
 exact ⟨_, _, _, rfl, hb2, hbel1.trans hbel2⟩

theorem parts_three {w : World} {a1 a2 a3 : Option Addr} {n1 c1 n2 c2 n3 c3 : Nat} {l1 l2 l3 : List UInt8} (h1 : Bytes w a1 n1 c1 l1) (h2 : Bytes w a2 n2 c2 l2) (h3 : Bytes w a3 n3 c3 l3) :
  Parts (w.alloc (.cells #[.slice a1 n1 c1, .slice a2 n2 c2, .slice a3 n3 c3] 28)) w.heap.size [l1, l2, l3] := by
 have hb : Below w.heap.size w (w.alloc (.cells #[.slice a1 n1 c1, .slice a2 n2 c2, .slice a3 n3 c3] 28)) := (Below.refl _ _).alloc (Nat.le_refl _) _
 intro j hj
 rcases (by simp at hj; omega : j = 0 ∨ j = 1 ∨ j = 2) with rfl | rfl | rfl
 ·exact ⟨a1, n1, c1, by simp, h1.below hb⟩
 ·exact ⟨a2, n2, c2, by simp, h2.below hb⟩
 ·exact ⟨a3, n3, c3, by simp, h3.below hb⟩

set_option maxRecDepth 100000 in
set_option maxHeartbeats 400000 in
theorem putText_any (a : Option Addr) (n c : Nat) (l : List UInt8) (s : ByteArray) (w : World) (hb : Bytes w a n c l) (hs : s.size ≤ 140737488351232) (hl : l.length + s.size ≤ 281474976710000) :
  Calls Tryd.prog 32 #[.slice a n c, .string s] w (Made w (l ++ (numF s.size ++ s.data.toList))) := by
 have h9 := numF_length_le9 s.size (by omega)
 have HB := Lib.hid hb
 have H9 := Lib.hid h9
 clear hb h9
 go_enter Tryd.func32, Tryd.ntmps32
 go_wp2_with (first
  | (go_at_call 60; go_must (refine (number_any _ _ (by omega)).mono ?_); rintro e w1 ⟨a1, n1, c1, rfl, hown1, hbel1⟩; have hsz := hbel1.size; have HB1 := Lib.hid hown1.isBytes; clear hown1)
  | ((with_reducible refine atS 10 ?_); refine conv_bytes rfl (.tmp 9) rfl s rfl (by omega) ?_; intro c2 w2 hb2 hbel2 hsz2; have HB2 := Lib.hid hb2; have HS2 := Lib.hid hsz2; clear hb2 hsz2))
 have hbel12 := hbel1.trans (hbel2.mono hsz)
 have hP := parts_three (HB.out.below hbel12) (HB1.out.below hbel2) HB2.out
 have HP := Lib.hid hP
 have hsz2 := hbel12.size
 clear hP
 go_wp2_with (go_at_call 59; go_must (refine (concat_any _ 3 [l, numF s.size, s.data.toList] _ rfl (by omega) HP.out (by have := H9.out; simp; omega)).mono ?_); rintro e w3 ⟨a3, n3, c3, rfl, hown3, hbel3⟩)
 go_ret
 refine Made.of (by have := hown3.mono (base' := w.heap.size) (by simp; omega); simpa using this) ((hbel12.alloc hsz2 _).trans (hbel3.mono (by simp; omega)))
end Go.Proofs.YthihmlojdopmfaaDoor
