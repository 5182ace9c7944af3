/-
  Merged: HexMath, HexFns.
-/
import Derived.Below
import Derived.Test.YtkhcoefcifaaeaaDoorGrp1
import Derived.Lib.Bytealg
namespace Go.Proofs.YtkhcoefcifaaeaaDoor

/-- A number's digit. -/
def dg (v : Nat) : UInt8 := if v < 10 then UInt8.ofNat (48 + v) else UInt8.ofNat (87 + v)
/-- A digit's number; -1: it is none. -/
def digV (c : UInt8) : Int := if 48 ≤ c.toNat ∧ c.toNat ≤ 57 then (c.toNat : Int) - 48 else if 97 ≤ c.toNat ∧ c.toNat ≤ 102 then (c.toNat : Int) - 87 else -1

theorem dg_toNat (v : Nat) (h : v < 16) : (dg v).toNat = if v < 10 then 48 + v else 87 + v := by
  unfold dg
  split
  · simp; omega
  · simp; omega

theorem digV_dg (v : Nat) (h : v < 16) : digV (dg v) = (v : Int) := by
  unfold digV
  rw [dg_toNat v h]
  repeat' split
  all_goals omega

theorem digV_range (c : UInt8) : digV c = -1 ∨ (0 ≤ digV c ∧ digV c < 16) := by
  unfold digV
  repeat' split
  all_goals omega

theorem dg_digV (c : UInt8) (h : 0 ≤ digV c) : dg (digV c).toNat = c := by
  have hlt : (digV c).toNat < 16 := by have := digV_range c; omega
  apply UInt8.toNat_inj.1
  rw [dg_toNat _ hlt]
  unfold digV at h ⊢
  repeat' split
  all_goals (repeat' split at h)
  all_goals omega

/-- An id's digits. -/
def hexF (l : List UInt8) : List UInt8 := l.flatMap fun c => [dg (c.toNat / 16), dg (c.toNat % 16)]

theorem hexF_length (l : List UInt8) : (hexF l).length = 2 * l.length := by
  induction l with
  | nil => rfl
  | cons c r ih => simp only [hexF, List.flatMap_cons, List.length_append, List.length_cons, List.length_nil] at ih ⊢; omega

theorem hexF_next (l : List UInt8) (i : Nat) (h : i < l.length) : hexF (l.take (i + 1)) = hexF (l.take i) ++ [dg ((l.getD i 0).toNat / 16), dg ((l.getD i 0).toNat % 16)] := by
  rw [List.take_succ_eq_append_getElem h]
  unfold hexF
  rw [List.flatMap_append]
  simp [h]

/-- Is each of the first so many a digit? -/
def allD (s : List UInt8) (k : Nat) : Prop := ∀ j, j < k → 0 ≤ digV (s.getD j 0)

/-- Byte number i that the digits make. -/
def byteD (s : List UInt8) (i : Nat) : UInt8 := UInt8.ofNat (16 * (digV (s.getD (2 * i) 0)).toNat + (digV (s.getD (2 * i + 1) 0)).toNat)

/-- The first so many bytes, zeros behind. -/
def fillD (s : List UInt8) (i : Nat) : List UInt8 := (List.range i).map (byteD s) ++ List.replicate (32 - i) 0

theorem fillD_length (s : List UInt8) (i : Nat) (h : i ≤ 32) : (fillD s i).length = 32 := by simp [fillD]; omega
theorem fillD_zero (s : List UInt8) : fillD s 0 = List.replicate 32 0 := rfl
theorem fillD_get (s : List UInt8) (i : Nat) (h : i < 32) : (fillD s i).getD i 0 = 0 := by
  unfold fillD
  rw [List.getD_eq_getElem?_getD, List.getElem?_append_right (by simp)]
  simp [show 0 < 32 - i by omega]
theorem fillD_next (s : List UInt8) (i : Nat) (h : i < 32) : (fillD s i).set i (byteD s i) = fillD s (i + 1) := by
  unfold fillD
  rw [List.set_append_right _ _ (by simp), List.range_succ, List.map_append, List.append_assoc, show 32 - i = (32 - (i + 1)) + 1 from by omega, List.replicate_succ]
  simp

open Classical in
/-- What text's digits are as an id: all zeros, if they are none. -/
noncomputable def unhexV (s : List UInt8) : List UInt8 := if s.length = 64 ∧ allD s 64 then fillD s 32 else List.replicate 32 0
open Classical in
noncomputable def unhexB (s : List UInt8) : Bool := decide (s.length = 64 ∧ allD s 64)

theorem unhex_yes {s : List UInt8} (h1 : s.length = 64) (h2 : allD s 64) : unhexV s = fillD s 32 ∧ unhexB s = true := by
  unfold unhexV unhexB; simp [h1, h2]
theorem unhex_no {s : List UInt8} (h : ¬ (s.length = 64 ∧ allD s 64)) : unhexV s = List.replicate 32 0 ∧ unhexB s = false := by
  unfold unhexV unhexB; simp only [if_neg h, true_and, decide_eq_false_iff_not]; exact h
theorem unhexV_length (s : List UInt8) : (unhexV s).length = 32 := by
  by_cases h : s.length = 64 ∧ allD s 64
  · rw [(unhex_yes h.1 h.2).1]; exact fillD_length s 32 (by omega)
  · rw [(unhex_no h).1]; simp

theorem not_allD {s : List UInt8} {j k : Nat} (hj : j < k) (h : digV (s.getD j 0) < 0) : ¬ allD s k := fun ha => by have := ha j hj; omega

theorem hexF_getD (l : List UInt8) (i : Nat) (h : i < l.length) : (hexF l).getD (2 * i) 0 = dg ((l.getD i 0).toNat / 16) ∧ (hexF l).getD (2 * i + 1) 0 = dg ((l.getD i 0).toNat % 16) := by
  induction l generalizing i with
  | nil => simp at h
  | cons c r ih =>
    cases i with
    | zero => exact ⟨rfl, rfl⟩
    | succ i =>
      have := ih i (by simpa using h)
      exact this

theorem allD_hex (l : List UInt8) (hl : l.length = 32) : allD (hexF l) 64 := by
  intro j hj
  have h := hexF_getD l (j / 2) (by omega)
  have hb := (l.getD (j / 2) 0).toNat_lt
  rcases (by omega : j = 2 * (j / 2) ∨ j = 2 * (j / 2) + 1) with e | e
  · rw [e, h.1, digV_dg _ (by omega)]; omega
  · rw [e, h.2, digV_dg _ (by omega)]; omega

theorem byteD_hex (l : List UInt8) (i : Nat) (h : i < l.length) : byteD (hexF l) i = l.getD i 0 := by
  have hb := (l.getD i 0).toNat_lt
  obtain ⟨h1, h2⟩ := hexF_getD l i h
  unfold byteD
  rw [h1, h2, digV_dg _ (by omega), digV_dg _ (by omega)]
  apply UInt8.toNat_inj.1
  simp only [Int.toNat_natCast, UInt8.toNat_ofNat']
  omega

/-- An id's digits are read as it. -/
theorem unhex_hex (l : List UInt8) (hl : l.length = 32) : unhexV (hexF l) = l ∧ unhexB (hexF l) = true := by
  have h := unhex_yes (s := hexF l) (by rw [hexF_length]; omega) (allD_hex l hl)
  refine ⟨?_, h.2⟩
  rw [h.1]
  unfold fillD
  simp only [Nat.sub_self, List.replicate_zero, List.append_nil]
  apply List.ext_getElem
  · simp [hl]
  · intro i h1 h2
    have := byteD_hex l i h2
    simp only [List.getElem_map, List.getElem_range, this]
    simp [h2]

theorem byteD_split (s : List UInt8) (i : Nat) (h1 : 0 ≤ digV (s.getD (2 * i) 0)) (h2 : 0 ≤ digV (s.getD (2 * i + 1) 0)) :
    dg ((byteD s i).toNat / 16) = s.getD (2 * i) 0 ∧ dg ((byteD s i).toNat % 16) = s.getD (2 * i + 1) 0 := by
  have r1 := digV_range (s.getD (2 * i) 0)
  have r2 := digV_range (s.getD (2 * i + 1) 0)
  have e : (byteD s i).toNat = 16 * (digV (s.getD (2 * i) 0)).toNat + (digV (s.getD (2 * i + 1) 0)).toNat := by
    unfold byteD; simp only [UInt8.toNat_ofNat']; omega
  rw [e, show (16 * (digV (s.getD (2 * i) 0)).toNat + (digV (s.getD (2 * i + 1) 0)).toNat) / 16 = (digV (s.getD (2 * i) 0)).toNat from by omega,
    show (16 * (digV (s.getD (2 * i) 0)).toNat + (digV (s.getD (2 * i + 1) 0)).toNat) % 16 = (digV (s.getD (2 * i + 1) 0)).toNat from by omega]
  exact ⟨dg_digV _ h1, dg_digV _ h2⟩

/-- What is read as an id is that id's digits. -/
theorem hex_unhex (s : List UInt8) (h : unhexB s = true) : hexF (unhexV s) = s := by
  by_cases hc : s.length = 64 ∧ allD s 64
  · rw [(unhex_yes hc.1 hc.2).1]
    have hl := fillD_length s 32 (Nat.le_refl _)
    apply List.ext_getElem
    · rw [hexF_length, hl, hc.1]
    · intro j h1 h2
      have hj : j < 64 := by omega
      have hg : (fillD s 32).getD (j / 2) 0 = byteD s (j / 2) := by
        unfold fillD
        simp only [Nat.sub_self, List.replicate_zero, List.append_nil]
        simp [show j / 2 < 32 by omega]
      have h3 := hexF_getD (fillD s 32) (j / 2) (by omega)
      have h4 := byteD_split s (j / 2) (hc.2 _ (by omega)) (hc.2 _ (by omega))
      rw [hg] at h3
      have e1 : (hexF (fillD s 32)).getD j 0 = s.getD j 0 := by
        rcases (by omega : j = 2 * (j / 2) ∨ j = 2 * (j / 2) + 1) with e | e
        · rw [e, h3.1, h4.1]
        · rw [e, h3.2, h4.2]
      simpa [h1, h2] using e1
  · rw [(unhex_no hc).2] at h; cases h

open Classical in
/-- Do an id's digits begin with some? -/
noncomputable def startsB (l s : List UInt8) : Bool := decide (s ≠ [] ∧ s <+: hexF l)
#print axioms hex_unhex
end Go.Proofs.YtkhcoefcifaaeaaDoor

namespace Go.Proofs.YtkhcoefcifaaeaaDoor
open Go.RowKit

theorem retI {a b : Int} (h : a = b) : Ending.returned (.int .i64 a) = .returned (.int .i64 b) := by rw [h]

theorem indexByte_digits (c : UInt8) : Lib.indexByte [48, 49, 50, 51, 52, 53, 54, 55, 56, 57, 97, 98, 99, 100, 101, 102] c = digV c := by
  have h : ∀ n, n < 256 → Lib.indexByte [48, 49, 50, 51, 52, 53, 54, 55, 56, 57, 97, 98, 99, 100, 101, 102] (UInt8.ofNat n) = digV (UInt8.ofNat n) := by decide +kernel
  have := h c.toNat c.toNat_lt
  simpa using this

/-- The digits, as the program has them. -/
def digitsS : ByteArray := ⟨#[48, 49, 50, 51, 52, 53, 54, 55, 56, 57, 97, 98, 99, 100, 101, 102]⟩

set_option maxRecDepth 100000 in
set_option maxHeartbeats 1000000 in
theorem liteIndex_any (s : ByteArray) (c : UInt8) (w : World) :
    Calls Tryd.prog 56 #[.string s, .int .u8 (c.toNat : Int)] w fun e w' => e = .returned (.int .i64 (Lib.indexByte s.data.toList c)) ∧ w = w' := by
  go_enter Tryd.func56, Tryd.ntmps56
  go_wp2
  rw [run_callFunc_extern Tryd.func66 (by kernel_rfl) (by kernel_rfl) (by kernel_rfl) (e := Extern.BytealgIndexByte.indexByte) (by kernel_rfl), Lib.run_indexByteString]
  simp only [Result.andThen]
  rw [Oper.upon_value]
  go_wp2
  go_ret
  exact ⟨retI (by congr 1), rfl⟩

set_option maxRecDepth 100000 in
set_option maxHeartbeats 400000 in
theorem index_any (c : UInt8) (w : World) :
    Calls Tryd.prog 36 #[.string digitsS, .int .u8 (c.toNat : Int)] w fun e w' => e = .returned (.int .i64 (digV c)) ∧ w = w' := by
  go_enter Tryd.func36, Tryd.ntmps36
  go_wp2_with (go_at_call 56; go_must (refine (liteIndex_any _ c _).mono ?_); rintro e w1 ⟨rfl, rfl⟩)
  go_ret
  exact ⟨retI (indexByte_digits c), rfl⟩

/-- A digit's number at a place of a text. -/
def dAt (l : List UInt8) (k : Nat) : Int := if k < l.length then digV (l.getD k 0) else -1

set_option maxRecDepth 100000 in
set_option maxHeartbeats 400000 in
theorem digit_at (g k : Nat) (s : ByteArray) (w : World) (hc : w.cell? ⟨g, 0, none⟩ = some (.string s)) :
    Calls Tryd.prog 35 #[.int .i64 (k : Int), .pointer (some ⟨g, 0, none⟩)] w fun e w' => e = .returned (.int .i64 (dAt s.data.toList k)) ∧ w = w' := by
  by_cases hk : k < s.size
  · have HD := Lib.hid (show dAt s.data.toList k = digV (s.data[k]'hk) by unfold dAt; rw [if_pos (by simpa using hk)]; simp only [List.getD_eq_getElem?_getD, Array.getElem?_toList]; rw [Array.getElem?_eq_getElem hk]; rfl)
    go_enter Tryd.func35, Tryd.ntmps35
    go_wp2_with (go_at_call 36; go_must (refine (index_any _ _).mono ?_); rintro e w1 ⟨rfl, rfl⟩)
    go_ret
    exact ⟨retI HD.out.symm, rfl⟩
  · have hd : dAt s.data.toList k = -1 := by unfold dAt; rw [if_neg (by simpa using hk)]
    have HD := Lib.hid hd
    clear hd
    go_enter Tryd.func35, Tryd.ntmps35
    go_wp2
    go_ret
    exact ⟨retI HD.out.symm, rfl⟩

set_option maxRecDepth 100000 in
set_option maxHeartbeats 400000 in
theorem refDigit_any (c : UInt8) (w : World) :
    Calls Tryd.prog 40 #[.int .u8 (c.toNat : Int)] w fun e w' => e = .returned (.int .i64 (digV c)) ∧ w = w' := by
  have hc := c.toNat_lt
  obtain ⟨d, hd⟩ : ∃ d, d = digV c := ⟨_, rfl⟩
  have HD := Lib.hid hd
  unfold digV at hd
  by_cases h1 : 48 ≤ c.toNat
  · by_cases h2 : c.toNat ≤ 57
    · rw [if_pos ⟨h1, h2⟩] at hd
      have HE := Lib.hid hd
      rw [← HD.out]
      clear hd
      go_enter Tryd.func40, Tryd.ntmps40
      go_wp2
      go_ret
      exact ⟨retI (by rw [HE.out]), rfl⟩
    · rw [if_neg (by omega)] at hd
      by_cases h3 : 97 ≤ c.toNat
      · by_cases h4 : c.toNat ≤ 102
        · rw [if_pos ⟨h3, h4⟩] at hd
          have HE := Lib.hid hd
          rw [← HD.out]
          clear hd
          go_enter Tryd.func40, Tryd.ntmps40
          go_wp2
          go_ret
          exact ⟨retI (by rw [HE.out]; omega), rfl⟩
        · rw [if_neg (by omega)] at hd
          have HE := Lib.hid hd
          rw [← HD.out]
          clear hd
          go_enter Tryd.func40, Tryd.ntmps40
          go_wp2
          go_ret
          exact ⟨retI (by rw [HE.out]), rfl⟩
      · rw [if_neg (by omega)] at hd
        have HE := Lib.hid hd
        rw [← HD.out]
        clear hd
        go_enter Tryd.func40, Tryd.ntmps40
        go_wp2
        go_ret
        exact ⟨retI (by rw [HE.out]), rfl⟩
  · rw [if_neg (by omega), if_neg (by omega)] at hd
    have HE := Lib.hid hd
    rw [← HD.out]
    clear hd
    go_enter Tryd.func40, Tryd.ntmps40
    go_wp2
    go_ret
    exact ⟨retI (by rw [HE.out]), rfl⟩
#print axioms refDigit_any
end Go.Proofs.YtkhcoefcifaaeaaDoor
