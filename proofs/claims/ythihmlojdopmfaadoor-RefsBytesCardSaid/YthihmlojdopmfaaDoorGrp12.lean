/-
  Merged: HexMath, HexFns, Unhex.
-/
import Derived.Below
import Derived.Test.YthihmlojdopmfaaDoorGrp1
import Derived.Test.YthihmlojdopmfaaDoorGrp2
import Derived.Lib.Bytealg
import Derived.Deep.LoopGhost
namespace Go.Proofs.YthihmlojdopmfaaDoor

def dg (v : Nat) : UInt8 := if v < 10 then UInt8.ofNat (48 + v) else UInt8.ofNat (87 + v)
def digV (c : UInt8) : Int := if 48 ≤ c.toNat ∧ c.toNat ≤ 57 then (c.toNat : Int) - 48 else if 97 ≤ c.toNat ∧ c.toNat ≤ 102 then (c.toNat : Int) - 87 else -1

theorem digV_range (c : UInt8) : digV c = -1 ∨ (0 ≤ digV c ∧ digV c < 16) := by
 unfold digV
 repeat' split
 all_goals omega

def hexF (l : List UInt8) : List UInt8 := l.flatMap fun c => [dg (c.toNat / 16), dg (c.toNat % 16)]

def allD (s : List UInt8) (k : Nat) : Prop := ∀ j, j < k → 0 ≤ digV (s.getD j 0)

def byteD (s : List UInt8) (i : Nat) : UInt8 := UInt8.ofNat (16 * (digV (s.getD (2 * i) 0)).toNat + (digV (s.getD (2 * i + 1) 0)).toNat)

def fillD (s : List UInt8) (i : Nat) : List UInt8 := (List.range i).map (byteD s) ++ List.replicate (32 - i) 0

theorem fillD_length (s : List UInt8) (i : Nat) (h : i ≤ 32) : (fillD s i).length = 32 := by simp [fillD]; omega
theorem fillD_get (s : List UInt8) (i : Nat) (h : i < 32) : (fillD s i).getD i 0 = 0 := by
 unfold fillD
 rw [List.getD_eq_getElem?_getD, List.getElem?_append_right (by simp)]
 simp [show 0 < 32 - i by omega]
theorem fillD_next (s : List UInt8) (i : Nat) (h : i < 32) : (fillD s i).set i (byteD s i) = fillD s (i + 1) := by
 unfold fillD
 rw [List.set_append_right _ _ (by simp), List.range_succ, List.map_append, List.append_assoc, show 32 - i = (32 - (i + 1)) + 1 from by omega, List.replicate_succ]
 simp

open Classical in
noncomputable def unhexV (s : List UInt8) : List UInt8 := if s.length = 64 ∧ allD s 64 then fillD s 32 else List.replicate 32 0
open Classical in
noncomputable def unhexB (s : List UInt8) : Bool := decide (s.length = 64 ∧ allD s 64)

theorem unhex_yes {s : List UInt8} (h1 : s.length = 64) (h2 : allD s 64) : unhexV s = fillD s 32 ∧ unhexB s = true := by
 unfold unhexV unhexB; simp [h1, h2]
theorem unhex_no {s : List UInt8} (h : ¬ (s.length = 64 ∧ allD s 64)) : unhexV s = List.replicate 32 0 ∧ unhexB s = false := by
 unfold unhexV unhexB; simp only [if_neg h, true_and, decide_eq_false_iff_not]; exact h
theorem unhexV_length (s : List UInt8) : (unhexV s).length = 32 := by
 by_cases h : s.length = 64 ∧ allD s 64
 ·rw [(unhex_yes h.1 h.2).1]; exact fillD_length s 32 (by omega)
 ·rw [(unhex_no h).1]; simp

theorem not_allD {s : List UInt8} {j k : Nat} (hj : j < k) (h : digV (s.getD j 0) < 0) : ¬ allD s k := fun ha => by have := ha j hj; omega

open Classical in
noncomputable def startsB (l s : List UInt8) : Bool := decide (s ≠ [] ∧ s <+: hexF l)
end Go.Proofs.YthihmlojdopmfaaDoor

namespace Go.Proofs.YthihmlojdopmfaaDoor
open Go.RowKit

theorem retI {a b : Int} (h : a = b) : Ending.returned (.int .i64 a) = .returned (.int .i64 b) := by rw [h]

theorem indexByte_digits (c : UInt8) : Lib.indexByte [48, 49, 50, 51, 52, 53, 54, 55, 56, 57, 97, 98, 99, 100, 101, 102] c = digV c := by
 have h : ∀ n, n < 256 → Lib.indexByte [48, 49, 50, 51, 52, 53, 54, 55, 56, 57, 97, 98, 99, 100, 101, 102] (UInt8.ofNat n) = digV (UInt8.ofNat n) := by decide +kernel
 have := h c.toNat c.toNat_lt
 simpa using this

def digitsS : ByteArray := ⟨#[48, 49, 50, 51, 52, 53, 54, 55, 56, 57, 97, 98, 99, 100, 101, 102]⟩

set_option maxRecDepth 100000 in
set_option maxHeartbeats 1000000 in
theorem liteIndex_any (s : ByteArray) (c : UInt8) (w : World) :
  Calls Tryd.prog 89 #[.string s, .int .u8 (c.toNat : Int)] w fun e w' => e = .returned (.int .i64 (Lib.indexByte s.data.toList c)) ∧ w = w' := by
 go_enter Tryd.func89, Tryd.ntmps89
 go_wp2
 rw [run_callFunc_extern Tryd.func94 (by kernel_rfl) (by kernel_rfl) (by kernel_rfl) (e := Extern.BytealgIndexByte.indexByte) (by kernel_rfl), Lib.run_indexByteString]
 simp only [Result.andThen]
 rw [Oper.upon_value]
 go_wp2
 go_ret
 exact ⟨retI (by congr 1), rfl⟩

set_option maxRecDepth 100000 in
set_option maxHeartbeats 400000 in
theorem index_any (c : UInt8) (w : World) :
  Calls Tryd.prog 81 #[.string digitsS, .int .u8 (c.toNat : Int)] w fun e w' => e = .returned (.int .i64 (digV c)) ∧ w = w' := by
 go_enter Tryd.func81, Tryd.ntmps81
 go_wp2_with (go_at_call 89; go_must (refine (liteIndex_any _ c _).mono ?_); rintro e w1 ⟨rfl, rfl⟩)
 go_ret
 exact ⟨retI (indexByte_digits c), rfl⟩

def dAt (l : List UInt8) (k : Nat) : Int := if k < l.length then digV (l.getD k 0) else -1

set_option maxRecDepth 100000 in
set_option maxHeartbeats 400000 in
theorem digit_at (g k : Nat) (s : ByteArray) (w : World) (hc : w.cell? ⟨g, 0, none⟩ = some (.string s)) :
  Calls Tryd.prog 80 #[.int .i64 (k : Int), .pointer (some ⟨g, 0, none⟩)] w fun e w' => e = .returned (.int .i64 (dAt s.data.toList k)) ∧ w = w' := by
 by_cases hk : k < s.size
 ·have HD := Lib.hid (show dAt s.data.toList k = digV (s.data[k]'hk) by unfold dAt; rw [if_pos (by simpa using hk)]; simp only [List.getD_eq_getElem?_getD, Array.getElem?_toList]; rw [Array.getElem?_eq_getElem hk]; rfl)
  go_enter Tryd.func80, Tryd.ntmps80
  go_wp2_with (go_at_call 81; go_must (refine (index_any _ _).mono ?_); rintro e w1 ⟨rfl, rfl⟩)
  go_ret
  exact ⟨retI HD.out.symm, rfl⟩
 ·have hd : dAt s.data.toList k = -1 := by unfold dAt; rw [if_neg (by simpa using hk)]
  have HD := Lib.hid hd
  clear hd
  go_enter Tryd.func80, Tryd.ntmps80
  go_wp2
  go_ret
  exact ⟨retI HD.out.symm, rfl⟩

end Go.Proofs.YthihmlojdopmfaaDoor

namespace Go.Proofs.YthihmlojdopmfaaDoor
open Go.RowKit

def UnhexIs (s : List UInt8) (w : World) (e : Ending) (w' : World) : Prop :=
 e = .returned (.tuple #[.agg (idCells (unhexV s)), .bool (unhexB s)]) ∧ Below w.heap.size w w'

def pv (s : List UInt8) (i j : Nat) : Nat :=
 if j = 0 then 0 else if j = 1 then (digV (s.getD (2 * i) 0)).toNat else 16 * (digV (s.getD (2 * i) 0)).toNat + (digV (s.getD (2 * i + 1) 0)).toNat

theorem pv_lt (s : List UInt8) (i j : Nat) (hj : j < 2) : pv s i j < 16 := by
 have := digV_range (s.getD (2 * i) 0)
 unfold pv
 rcases (by omega : j = 0 ∨ j = 1) with rfl | rfl
 ·rw [if_pos rfl]; omega
 ·rw [if_neg (by omega), if_pos rfl]; omega

theorem pv_next (s : List UInt8) (i j : Nat) (hj : j < 2) : pv s i (j + 1) = 16 * pv s i j + (digV (s.getD (2 * i + j) 0)).toNat := by
 rcases (by omega : j = 0 ∨ j = 1) with rfl | rfl
 ·simp [pv]
 ·simp [pv]

theorem pv_two (s : List UInt8) (i : Nat) : UInt8.ofNat (pv s i 2) = byteD s i := rfl

theorem fill_same (s : List UInt8) (i : Nat) (hi : i < 32) : (fillD s i).set i (UInt8.ofNat (pv s i 0)) = fillD s i := by
 have hl := fillD_length s i (by omega)
 have h := fillD_get s i hi
 apply List.ext_getElem
 ·simp
 ·intro j h1 h2
  by_cases hj : j = i
  ·subst hj
   have : (fillD s j)[j] = 0 := by simpa [h2] using h
   simp [this, pv]
  ·simp [show ¬ i = j from fun e => hj e.symm]

theorem set_getD (l : List UInt8) (i : Nat) (x : UInt8) (h : i < l.length) : (l.set i x).getD i 0 = x := by simp [h]

theorem or_digit (x d : Nat) (hx : x < 16) (hd : d < 16) : bits .or .u8 ((x : Int) * 16) (d : Int) = (((UInt8.ofNat (16 * x + d)).toNat : Nat) : Int) := by
 have h : ∀ x : Nat, x < 16 → ∀ d : Nat, d < 16 → bits .or .u8 ((x : Int) * 16) (d : Int) = (((UInt8.ofNat (16 * x + d)).toNat : Nat) : Int) := by decide +kernel
 exact h x hx d hd

theorem allD_next {s : List UInt8} {k : Nat} (h : allD s k) (h2 : 0 ≤ digV (s.getD k 0)) : allD s (k + 1) := by
 intro j hj
 by_cases e : j = k
 ·subst e; exact h2
 ·exact h j (by omega)

theorem unhex_break {s : List UInt8} {k : Nat} (hk : k < 64) (hd : dAt s k < 0) : ¬ (s.length = 64 ∧ allD s 64) := by
 rintro ⟨h1, h2⟩
 unfold dAt at hd
 rw [if_pos (by omega)] at hd
 exact not_allD hk hd h2

theorem dAt_ok {s : List UInt8} {k : Nat} (hd : ¬ dAt s k < 0) : k < s.length ∧ dAt s k = digV (s.getD k 0) := by
 unfold dAt at hd ⊢
 by_cases h : k < s.length
 ·exact ⟨h, if_pos h⟩
 ·rw [if_neg h] at hd; omega

set_option maxRecDepth 100000 in
set_option maxHeartbeats 2000000 in
theorem unhex_any (s : ByteArray) (w : World) (hs : s.size ≤ 9223372036854775807) :
  Calls Tryd.prog 56 #[.string s] w (UnhexIs s.data.toList w) := by
 obtain ⟨sl, hsl⟩ : ∃ sl, sl = s.data.toList := ⟨_, rfl⟩
 rw [← hsl]
 have HSL := Lib.hid hsl
 have hsz : s.size = sl.length := by rw [hsl]; simp
 have HSZ := Lib.hid hsz
 clear hsl hsz
 go_enter Tryd.func56, Tryd.ntmps56
 go_wp2_with ((with_reducible refine atS 2 ?_); refine alloc_id rfl rfl ?_; intro w2 hid2 hbel2 hsz2; have HS2 := Lib.hid hsz2; clear hsz2)
 go_step3
 go_wp2_with ((with_reducible refine atS 5 ?_); refine alloc_id rfl rfl ?_; intro w5 hid5 hbel5 hsz5; have HS5 := Lib.hid hsz5; clear hsz5)
 go_step3
 have hx2 : w2.heap.size = w.heap.size + 2 := by have := HS2.out; simp at this; omega
 have hid2' : IdAt w2 (w.heap.size + 1) idZero := by simpa using hid2
 have e2 : IdAt w5 (w.heap.size + 1) idZero := hid2'.below hbel5
 have hb5 : Below w.heap.size w w5 := (((Below.refl _ _).alloc (Nat.le_refl _) _).trans (hbel2.mono (by simp))).trans (hbel5.mono (by omega))
 have c5 : w5.cell? ⟨w.heap.size, 0, none⟩ = some (.string s) := by
  have h1 : (w.alloc (.cells #[.string s] 9)).cell? ⟨w.heap.size, 0, none⟩ = some (.string s) := by simp
  exact (hbel5.cell (p := ⟨w.heap.size, 0, none⟩) (by show w.heap.size < _; omega)).trans ((hbel2.cell (p := ⟨w.heap.size, 0, none⟩) (by show w.heap.size < _; simp)).trans h1)
 obtain ⟨g5, hg5⟩ : ∃ g, g = w2.heap.size := ⟨_, rfl⟩
 rw [← hg5] at hid5
 have HG5 := Lib.hid (show g5 = w.heap.size + 2 by omega)
 clear hid2 hid2' hbel2 hbel5 HS2 HS5 hx2
 go_wp2
 rw [← hg5]
 clear hg5
 go_loopg [6, 10] 32 (fun gh v6 v10 W => ∃ i : Nat, gh + i = 32 ∧ v6 = .int .i64 (2 * (i : Int)) ∧ v10 = .int .i64 i ∧ Hid (allD sl (2 * i)) ∧ Hid (2 * i ≤ sl.length) ∧ IdAt W g5 (fillD sl i) ∧ IdAt W (w.heap.size + 1) idZero ∧ W.cell? ⟨w.heap.size, 0, none⟩ = some (.string s) ∧ Below w.heap.size w W)
 case atStart => exact ⟨0, rfl, rfl, rfl, (fun j hj => by omega), (Nat.zero_le _), hid5, e2, c5, hb5⟩
 case round =>
  obtain ⟨i, hg, rfl, rfl, hall, hlen, hr5, hr2, hc, hbel⟩ := hrel
  have HG := Lib.hid hg
  have hi32 : i ≤ 32 := by omega
  obtain ⟨go, hgo⟩ : ∃ go, go = gk := ⟨_, rfl⟩
  clear hg hid5 e2 c5 hb5
  by_cases hi : i < 32
  ·have hib : decide ((i : Int) < 32) = true := by simp; omega
   go_wp2
   go_loopg [6, 13] 2 (fun gh v6 v13 W => ∃ j : Nat, gh + j = 2 ∧ v6 = .int .i64 (2 * (i : Int) + j) ∧ v13 = .int .i64 j ∧ Hid (allD sl (2 * i + j)) ∧ Hid (2 * i + j ≤ sl.length) ∧ IdAt W g5 ((fillD sl i).set i (UInt8.ofNat (pv sl i j))) ∧ IdAt W (w.heap.size + 1) idZero ∧ W.cell? ⟨w.heap.size, 0, none⟩ = some (.string s) ∧ Below w.heap.size w W)
   case atStart => exact ⟨0, rfl, by simp, rfl, hall, hlen, by rw [fill_same sl i hi]; exact hr5, hr2, hc, hbel⟩
   case round =>
    obtain ⟨j, hg, rfl, rfl, hall, hlen, hr5, hr2, hc, hbel⟩ := hrel
    have HJ := Lib.hid hg
    have hj2 : j ≤ 2 := by omega
    clear hg
    by_cases hj : j < 2
    ·by_cases hd : dAt sl (2 * i + j) < 0
     ·have HNO := Lib.hid (unhex_no (unhex_break (by omega) hd))
      obtain ⟨dv, hdv⟩ : ∃ dv, dv = dAt sl (2 * i + j) := ⟨_, rfl⟩
      rw [← hdv] at hd
      have HDV := Lib.hid hdv
      clear hdv
      have hlt : decide (2 * (i : Int) + j < 64) = true := by simp; omega
      go_wp2_with (first
       | (go_at_call 80; go_must (refine (digit_at w.heap.size (2 * i + j) s _ hc).mono ?_); rintro e w7 ⟨rfl, rfl⟩; rw [← HSL.out, ← HDV.out])
       | ((with_reducible refine atS 41 ?_); refine build_id rfl rfl ?_)
       | ((with_reducible show wpList _ _ _ (⟨none, .store 24 _ _, _, _, _, _⟩ :: _) _ _); refine store_id rfl (.tmp 2) (.tmp 41) rfl _ _ idZero rfl rfl hr2 idZero_length ?_; intro w9 hid9 hgr9 hsz9))
      rw [Exit.noGoto_ret]
      exact bodyPost_ret (results_id2 rfl _ _ (w.heap.size + 1) idZero rfl hid9) rfl ⟨by rw [HNO.out.1, HNO.out.2]; rfl, hbel.grown hgr9 hbel.size (fun k hk => by simp at hk; omega)⟩
     ·obtain ⟨hlt, hdd⟩ := dAt_ok hd
      have hrg := digV_range (sl.getD (2 * i + j) 0)
      obtain ⟨d, hdn⟩ : ∃ d : Nat, dAt sl (2 * i + j) = (d : Int) := ⟨(dAt sl (2 * i + j)).toNat, by omega⟩
      have hd16 : d < 16 := by omega
      obtain ⟨pp, hpp⟩ : ∃ pp, pp = pv sl i j := ⟨_, rfl⟩
      have hp16 : pp < 16 := by rw [hpp]; exact pv_lt sl i j hj
      have hnx : UInt8.ofNat (pv sl i (j + 1)) = UInt8.ofNat (16 * pp + d) := by rw [pv_next sl i j hj, ← hpp]; congr 2; omega
      have hcell : wr.cell? ⟨g5, i, none⟩ = some (.int .u8 (pp : Int)) := by
       have := hr5.cell i hi
       rw [set_getD _ _ _ (by rw [fillD_length sl i hi32]; exact hi), ← hpp] at this
       rw [this]
       unfold B
       congr 2
       simp
       omega
      have hfree := hr5.free i
      have HALL := Lib.hid (allD_next hall.out (by omega))
      have HLT := Lib.hid hlt
      have HDN := Lib.hid hdn
      have HNX := Lib.hid hnx
      have HOR := Lib.hid (or_digit pp d hp16 hd16)
      clear hdd hrg hpp hnx hd hall hlen hlt hdn
      go_wp2_with (go_at_call 80; go_must (refine (digit_at w.heap.size (2 * i + j) s _ hc).mono ?_); rintro e w7 ⟨rfl, rfl⟩; rw [← HSL.out, HDN.out])
      go_roundg (gk - 1)
      case measure => have := HJ.out; omega
      case rel =>
       refine ⟨j + 1, by have := HJ.out; omega, by go_num, by go_num, HALL.out, HLT.out, ?_, hr2.other (by have := HG5.out; show _ ≠ g5; omega) _, ?_, hbel.setCell (by have := HG5.out; show _ ≤ g5; omega) _⟩
       ·have h1 := hr5.set i (UInt8.ofNat (16 * pp + d))
        rw [List.set_set, ← HNX.out] at h1
        unfold B at h1
        rw [HNX.out, ← HOR.out, ← HNX.out] at h1
        exact h1
       ·rw [World.cell?_setCell_other _ _ _ _ (fun h => by simp only [Addr.mk.injEq] at h; have := HG5.out; omega)]
        exact hc
    ·obtain rfl : j = 2 := by omega
     rw [pv_two, fillD_next sl i hi] at hr5
     go_wp2
     go_roundg (go - 1)
     case measure => have := HG.out; omega
     case rel => exact ⟨i + 1, by have := HG.out; omega, by go_num, by go_num, hall, hlen, hr5, hr2, hc, hbel⟩
  ·obtain rfl : i = 32 := by omega
   by_cases h64 : sl.length = 64
   ·have HY := Lib.hid (unhex_yes h64 hall.out)
    have hf : decide ((64 : Int) < s.size) = false := by have := HSZ.out; simp; omega
    have hl32 := Lib.hid (fillD_length sl 32 (Nat.le_refl _))
    have H64 := Lib.hid h64
    clear h64 hall hlen hi
    go_wp2_with (first
     | ((with_reducible refine atS 41 ?_); refine build_id rfl rfl ?_)
     | ((with_reducible refine atS 42 ?_); refine load_id rfl (.tmp 5) rfl _ _ rfl hr5 ?_)
     | ((with_reducible show wpList _ _ _ (⟨none, .store 24 _ _, _, _, _, _⟩ :: _) _ _); refine store_id rfl (.tmp 2) (.tmp 42) rfl _ _ (fillD sl 32) rfl rfl hr2 hl32.out ?_; intro w9 hid9 hgr9 hsz9))
    rw [Exit.noGoto_ret]
    exact bodyPost_ret (results_id2 rfl _ _ (w.heap.size + 1) _ rfl hid9) rfl ⟨by rw [HY.out.1, HY.out.2]; rfl, hbel.grown hgr9 hbel.size (fun k hk => by simp at hk; omega)⟩
   ·have HN := Lib.hid (unhex_no (s := sl) (fun h => h64 h.1))
    have hf : decide ((64 : Int) < s.size) = true := by have := HSZ.out; have := hlen.out; simp; omega
    clear h64 hall hlen hi
    go_wp2_with (first
     | ((with_reducible refine atS 41 ?_); refine build_id rfl rfl ?_)
     | ((with_reducible show wpList _ _ _ (⟨none, .store 24 _ _, _, _, _, _⟩ :: _) _ _); refine store_id rfl (.tmp 2) (.tmp 41) rfl _ _ idZero rfl rfl hr2 idZero_length ?_; intro w9 hid9 hgr9 hsz9))
    rw [Exit.noGoto_ret]
    exact bodyPost_ret (results_id2 rfl _ _ (w.heap.size + 1) idZero rfl hid9) rfl ⟨by rw [HN.out.1, HN.out.2]; rfl, hbel.grown hgr9 hbel.size (fun k hk => by simp at hk; omega)⟩
end Go.Proofs.YthihmlojdopmfaaDoor
