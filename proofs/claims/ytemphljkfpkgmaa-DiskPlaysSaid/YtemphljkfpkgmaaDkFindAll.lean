/-
  Merged: DiskFind, DiskFind2.
-/
import Derived.Test.YtemphljkfpkgmaaDiskMem
import Derived.WalkMore
import Derived.Lib.Strings
namespace Go.Proofs.Ytemphljkfpkgmaa
open Go.RowKit

theorem retBl {a b : Bool} (h : a = b) : Ending.returned (.bool a) = .returned (.bool b) := by rw [h]
theorem b_len (s : ByteArray) : s.data.toList.length = s.size := by simp
theorem b_nil {s : ByteArray} (h : s.size = 0) : s = ByteArray.empty := by
  obtain ⟨d⟩ := s
  have : d = #[] := Array.size_eq_zero_iff.1 h
  rw [this]; rfl

set_option maxRecDepth 100000 in
set_option maxHeartbeats 400000 in
theorem wrong_any (s : ByteArray) (w : World) :
    Calls Try.prog 52 #[.string s] w fun e w' => e = .returned (.bool (!mayN s.data.toList)) ∧ w = w' := by
  obtain ⟨c, hc⟩ : ∃ c, (!mayN s.data.toList) = c := ⟨_, rfl⟩
  rw [hc]
  have HC := Lib.hid hc
  clear hc
  by_cases h0 : s.size = 0
  · obtain rfl := b_nil h0
    clear h0
    have E := Lib.hid (show c = true by rw [← HC.out]; rfl)
    go_enter Try.func52, Try.ntmps52
    go_wp2
    go_ret
    exact ⟨retBl E.out.symm, rfl⟩
  · have h1 : s.toList.isEmpty = false := by
      rw [Lib.toList_data]
      cases h : s.data.toList with
      | nil => exact absurd (show s.size = 0 by rw [← b_len, h]; rfl) h0
      | cons => rfl
    have h2 : (s.toList == []) = false := by
      cases h : s.toList with
      | nil => rw [h] at h1; cases h1
      | cons => rfl
    have h3 : ¬ s.toList = [] := by intro e; rw [e] at h1; cases h1
    have H0 := Lib.hid h0
    clear h0
    by_cases h80 : (80 : Int) < (s.size : Int)
    · have E := Lib.hid (show c = true by
        rw [← HC.out]; unfold mayN; rw [b_len, decide_eq_false (p := s.size ≤ 80) (by omega)]; simp)
      go_enter Try.func52, Try.ntmps52
      go_wp2
      all_goals (go_ret; exact ⟨retBl E.out.symm, rfl⟩)
    · have E := Lib.hid (show c = false by
        rw [← HC.out]; unfold mayN; rw [b_len, decide_eq_true (p := s.size ≤ 80) (by omega), decide_eq_true (p := 1 ≤ s.size) (by have := H0.out; omega)]; rfl)
      go_enter Try.func52, Try.ntmps52
      go_wp2
      all_goals (go_ret; exact ⟨retBl E.out.symm, rfl⟩)

/-- Some number that is below 0 just if all names may be. -/
def IdxIs (L : List Nm) (z : Int) : Prop := -1 ≤ z ∧ z ≤ 9223372036854775807 ∧ (z < 0 ↔ L.all mayN = true)
def IdxEnd (L : List Nm) (w : World) (e : Ending) (w' : World) : Prop := ∃ z : Int, e = .returned (.int .i64 z) ∧ IdxIs L z ∧ w = w'

set_option maxRecDepth 100000 in
set_option maxHeartbeats 1000000 in
theorem index_any (a : Option Addr) (n c : Nat) (L : List Nm) (w : World) (hA : At1 St w a n c L) (hn : n ≤ 1000) :
    Calls Try.prog 60 #[.slice a n c, .func (.func 52) #[] #[]] w (IdxEnd L w) := by
  have HA := Lib.hid hA
  have HL := Lib.hid hA.1
  have HN := Lib.hid hn
  clear hA
  have H0 := Lib.hid (show ∀ j, j < 0 → mayN (L.getD j default) = true from fun j hj => by omega)
  go_enter Try.func60, Try.ntmps60
  go_wp2
  go_loopg [8] n (fun g v8 W => ∃ i : Nat, W = w ∧ v8 = .int .i64 i ∧ g + i = n ∧ Hid (∀ j, j < i → mayN (L.getD j default) = true))
  case atStart => exact ⟨0, rfl, rfl, rfl, H0⟩
  case round =>
    obtain ⟨i, rfl, rfl, hg, hall⟩ := hrel
    have HG := Lib.hid hg
    have hi0 : (0 : Int) ≤ (i : Int) := by omega
    have hiI : (i : Int) ≤ (n : Int) := by omega
    clear hg
    by_cases hi : (i : Int) < (n : Int)
    · have hin : i < n := by omega
      obtain ⟨b, o, rfl⟩ := HA.out.some_ (by omega)
      have hc1 := HA.out.cell i hin
      obtain ⟨x, hx⟩ : ∃ x, strB (L.getD i default) = x := ⟨_, rfl⟩
      unfold St at hc1
      rw [hx] at hc1
      obtain ⟨f, hf⟩ : ∃ f, (!mayN x.data.toList) = f := ⟨_, rfl⟩
      have P := Lib.hid (fun W => by have := wrong_any x W; rw [hf] at this; exact this)
      have HX := Lib.hid (show (!mayN (L.getD i default)) = f by rw [← hf, ← hx, strB_list])
      have HIN := Lib.hid hin
      clear hx hf
      rcases f
      · have HN2 := Lib.hid (show ∀ j, j < i + 1 → mayN (L.getD j default) = true from fun j hj => by
          rcases Nat.lt_or_ge j i with h | h
          · exact hall.out j h
          · obtain rfl : j = i := by omega
            simpa using HX.out)
        go_wp2_with (first | (go_at_call 52; (with_reducible refine (P.out _).mono ?_); rintro e w5 ⟨rfl, rfl⟩))
        go_roundg (gk - 1)
        case measure => have := HG.out; have := HIN.out; omega
        case rel => exact ⟨i + 1, rfl, by go_num, by have := HG.out; have := HIN.out; omega, HN2⟩
      · have HE := Lib.hid (show IdxIs L (i : Int) from ⟨by omega, by have := HN.out; omega, by
          constructor
          · intro h; omega
          · intro h
            have h1 := List.all_eq_true.1 h (L.getD i default) (by
              rw [List.getD_eq_getElem?_getD, List.getElem?_eq_getElem (by rw [HL.out]; exact HIN.out)]
              exact List.getElem_mem _)
            have h2 := HX.out
            rw [h1] at h2
            cases h2⟩)
        go_wp2_with (first | (go_at_call 52; (with_reducible refine (P.out _).mono ?_); rintro e w5 ⟨rfl, rfl⟩))
        go_ret
        exact ⟨_, rfl, HE.out, rfl⟩
    · have HE := Lib.hid (show IdxIs L (-1) from ⟨by omega, by omega, by
        constructor
        · intro _
          refine List.all_eq_true.2 fun x hx => ?_
          obtain ⟨j, hj, rfl⟩ := List.mem_iff_getElem.1 hx
          have := hall.out j (by have := HL.out; omega)
          rwa [List.getD_eq_getElem?_getD, List.getElem?_eq_getElem hj] at this
        · intro _; omega⟩)
      go_wp2
      go_ret
      exact ⟨_, rfl, HE.out, rfl⟩

set_option maxRecDepth 100000 in
set_option maxHeartbeats 400000 in
theorem contains_any (a : Option Addr) (n c : Nat) (L : List Nm) (w : World) (hA : At1 St w a n c L) (hn : n ≤ 1000) :
    Calls Try.prog 53 #[.slice a n c, .func (.func 52) #[] #[]] w fun e w' => e = .returned (.bool (!L.all mayN)) ∧ w = w' := by
  have HI := Lib.hid (index_any a n c L w hA hn)
  clear hA
  go_enter Try.func53, Try.ntmps53
  go_wp2_with (first | (go_at_call 60; (with_reducible refine HI.out.mono ?_); rintro e w5 ⟨z, rfl, hz, rfl⟩; have HZ := Lib.hid hz; clear hz))
  go_ret
  refine ⟨retBl ?_, rfl⟩
  obtain ⟨_, _, h3⟩ := HZ.out
  cases h : L.all mayN with
  | true => have := h3.2 h; simp; omega
  | false =>
    have : ¬ z < 0 := fun h4 => by rw [h3.1 h4] at h; cases h
    simp; omega
#print axioms contains_any
end Go.Proofs.Ytemphljkfpkgmaa

namespace Go.Proofs.Ytemphljkfpkgmaa
open Go.RowKit Go.Maps

theorem dir_look {w : World} {b n : Nat} {bl : List Nat} {g : Nm → Option Nat} (h : DirAt w b bl n g) (s : ByteArray) (hs : s.size ≤ 1000000) :
    (Instr.lookup 47 (.map (some b)) (.string s) false).run Try.prog w = .ok (ptrOf bl (g s.data.toList)) w := by
  obtain ⟨D, h1, h2, _⟩ := h
  obtain ⟨v, ps, hrun, hv⟩ := h1.lookup (t := 47) (e := 68) lawS Try.underlying47 (zeroP w) (z := .pointer none) (zd := .nil) (zp := []) rfl (keyS (s := s) (by unfold maxLen; omega))
  rw [h2] at hv
  obtain rfl := ptrOf_elem hv
  exact hrun
theorem dir_lookN {w : World} {b n : Nat} {bl : List Nat} {g : Nm → Option Nat} (h : DirAt w b bl n g) (s : ByteArray) (hs : s.size ≤ 1000000) :
    ∀ q, (Instr.lookup 47 (.map (some b)) (.string s) false).run Try.prog (w.drewN q) = .ok (ptrOf bl (g s.data.toList)) (w.drewN q) := fun q =>
  dir_look (w := w.drewN q) (by obtain ⟨D, ⟨es, clock, h1⟩, h2⟩ := h; exact ⟨D, ⟨es, clock, by simpa using h1⟩, h2⟩) s hs

set_option maxRecDepth 100000 in
set_option maxHeartbeats 400000 in
theorem find_nil (v : Value) (w : World) :
    Calls Try.prog 29 #[.pointer none, v] w fun e w' => e = .returned (.tuple #[.pointer none, .int .i64 1]) ∧ w = w' := by
  go_enter Try.func29, Try.ntmps29
  go_wp2
  go_ret2
  exact ⟨rfl, rfl⟩
set_option maxRecDepth 100000 in
set_option maxHeartbeats 400000 in
theorem find_down (db : Nat) (v : Value) (w : World) (c7 : w.cell? ⟨db, 7, none⟩ = some (.bool true)) :
    Calls Try.prog 29 #[.pointer (some ⟨db, 0, none⟩), v] w fun e w' => e = .returned (.tuple #[.pointer none, .int .i64 9]) ∧ w = w' := by
  go_enter Try.func29, Try.ntmps29
  go_wp2
  go_ret2
  exact ⟨rfl, rfl⟩
set_option maxRecDepth 100000 in
set_option maxHeartbeats 400000 in
theorem find_name (db : Nat) (a : Option Addr) (n c : Nat) (L : List Nm) (w : World) (c7 : w.cell? ⟨db, 7, none⟩ = some (.bool false)) (hA : At1 St w a n c L) (hn : n ≤ 1000) (hm : L.all mayN = false) :
    Calls Try.prog 29 #[.pointer (some ⟨db, 0, none⟩), .slice a n c] w fun e w' => e = .returned (.tuple #[.pointer none, .int .i64 10]) ∧ w = w' := by
  have HC := Lib.hid (contains_any a n c L w hA hn)
  rw [hm] at HC
  clear hA hm
  go_enter Try.func29, Try.ntmps29
  go_wp2_with (first | (go_at_call 53; (with_reducible refine HC.out.mono ?_); rintro e w5 ⟨rfl, rfl⟩))
  go_ret2
  exact ⟨rfl, rfl⟩
set_option maxRecDepth 100000 in
set_option maxHeartbeats 1000000 in
theorem find_any (db bf m : Nat) (bl : List Nat) (g : Nm → Option Nat) (a : Option Addr) (n c : Nat) (L : List Nm) (w : World) (c1 : w.cell? ⟨db, 1, none⟩ = some (.map (some bf))) (c7 : w.cell? ⟨db, 7, none⟩ = some (.bool false))
    (hD : DirAt w bf bl m g) (hA : At1 St w a n c L) (hn : n ≤ 1000) (h0 : 0 < n) (hm : L.all mayN = true) (o : Option Nat) (ho : g (L.getD 0 default) = o) :
    Calls Try.prog 29 #[.pointer (some ⟨db, 0, none⟩), .slice a n c] w fun e w' => e = .returned (.tuple #[ptrOf bl o, .int .i64 (if o.isNone then 4 else 0)]) ∧ ∃ q, w' = w.drewN q := by
  have HC := Lib.hid (contains_any a n c L w hA hn)
  rw [hm] at HC
  obtain ⟨b, off, rfl⟩ := hA.some_ h0
  have hc := hA.cell 0 h0
  rw [Nat.add_zero] at hc
  have hz : (L.getD 0 default).length ≤ 80 := may_le (List.all_eq_true.1 hm _ (by
    rw [List.getD_eq_getElem?_getD, List.getElem?_eq_getElem (by rw [hA.1]; exact h0)]
    exact List.getElem_mem _))
  unfold St at hc
  obtain ⟨x, hx⟩ : ∃ x, strB (L.getD 0 default) = x := ⟨_, rfl⟩
  have hlk := dir_lookN hD x (by rw [← hx, strB_size]; omega)
  rw [show x.data.toList = L.getD 0 default from by rw [← hx, strB_list], ho] at hlk
  rw [hx] at hc
  have hnI : (0 : Int) < (n : Int) := by omega
  clear hA hm hx hz hD ho
  cases o with
  | none =>
    simp only [ptrOf] at hlk ⊢
    go_enter Try.func29, Try.ntmps29
    go_wp2_with (first | (go_at_call 53; (with_reducible refine HC.out.mono ?_); rintro e w5 ⟨rfl, rfl⟩))
    go_quiet (fail)
    go_wp2
    go_ret2
    exact ⟨rfl, _, rfl⟩
  | some k =>
    simp only [ptrOf] at hlk ⊢
    go_enter Try.func29, Try.ntmps29
    go_wp2_with (first | (go_at_call 53; (with_reducible refine HC.out.mono ?_); rintro e w5 ⟨rfl, rfl⟩))
    go_quiet (fail)
    go_wp2
    go_ret2
    exact ⟨rfl, _, rfl⟩
#print axioms find_any
end Go.Proofs.Ytemphljkfpkgmaa
