/-
  The walk of find.
-/
import Derived.Test.YtcnhifkpflaibaaDoorDiskFind
namespace Go.Proofs.YtcnhifkpflaibaaDoor
open Go.RowKit Go.Maps

theorem dir_look {w : World} {b n : Nat} {bl : List Nat} {g : Nm → Option Nat} (h : DirAt w b bl n g) (s : ByteArray) (hs : s.size ≤ 1000000) :
    (Instr.lookup 52 (.map (some b)) (.string s) false).run Tryd.prog w = .ok (ptrOf bl (g s.data.toList)) w := by
  obtain ⟨D, h1, h2, _⟩ := h
  obtain ⟨v, ps, hrun, hv⟩ := h1.lookup (t := 52) (e := 60) lawS Tryd.underlying52 (zeroP w) (z := .pointer none) (zd := .nil) (zp := []) rfl (keyS (s := s) (by unfold maxLen; omega))
  rw [h2] at hv
  obtain rfl := ptrOf_elem hv
  exact hrun
theorem dir_lookN {w : World} {b n : Nat} {bl : List Nat} {g : Nm → Option Nat} (h : DirAt w b bl n g) (s : ByteArray) (hs : s.size ≤ 1000000) :
    ∀ q, (Instr.lookup 52 (.map (some b)) (.string s) false).run Tryd.prog (w.drewN q) = .ok (ptrOf bl (g s.data.toList)) (w.drewN q) := fun q =>
  dir_look (w := w.drewN q) (by obtain ⟨D, ⟨es, clock, h1⟩, h2⟩ := h; exact ⟨D, ⟨es, clock, by simpa using h1⟩, h2⟩) s hs

set_option maxRecDepth 100000 in
set_option maxHeartbeats 400000 in
theorem find_nil (v : Value) (w : World) :
    Calls Tryd.prog 33 #[.pointer none, v] w fun e w' => e = .returned (.tuple #[.pointer none, .int .i64 1]) ∧ w = w' := by
  go_enter Tryd.func33, Tryd.ntmps33
  go_wp2
  go_ret2
  exact ⟨rfl, rfl⟩
set_option maxRecDepth 100000 in
set_option maxHeartbeats 400000 in
theorem find_down (db : Nat) (v : Value) (w : World) (c7 : w.cell? ⟨db, 7, none⟩ = some (.bool true)) :
    Calls Tryd.prog 33 #[.pointer (some ⟨db, 0, none⟩), v] w fun e w' => e = .returned (.tuple #[.pointer none, .int .i64 9]) ∧ w = w' := by
  go_enter Tryd.func33, Tryd.ntmps33
  go_wp2
  go_ret2
  exact ⟨rfl, rfl⟩
set_option maxRecDepth 100000 in
set_option maxHeartbeats 400000 in
theorem find_name (db : Nat) (a : Option Addr) (n c : Nat) (L : List Nm) (w : World) (c7 : w.cell? ⟨db, 7, none⟩ = some (.bool false)) (hA : At1 St w a n c L) (hn : n ≤ 1000) (hm : L.all mayN = false) :
    Calls Tryd.prog 33 #[.pointer (some ⟨db, 0, none⟩), .slice a n c] w fun e w' => e = .returned (.tuple #[.pointer none, .int .i64 10]) ∧ w = w' := by
  have HC := Lib.hid (contains_any a n c L w hA hn)
  rw [hm] at HC
  clear hA hm
  go_enter Tryd.func33, Tryd.ntmps33
  go_wp2_with (first | (go_at_call 59; (with_reducible refine HC.out.mono ?_); rintro e w5 ⟨rfl, rfl⟩))
  go_ret2
  exact ⟨rfl, rfl⟩
set_option maxRecDepth 100000 in
set_option maxHeartbeats 1000000 in
theorem find_any (db bf m : Nat) (bl : List Nat) (g : Nm → Option Nat) (a : Option Addr) (n c : Nat) (L : List Nm) (w : World) (c1 : w.cell? ⟨db, 1, none⟩ = some (.map (some bf))) (c7 : w.cell? ⟨db, 7, none⟩ = some (.bool false))
    (hD : DirAt w bf bl m g) (hA : At1 St w a n c L) (hn : n ≤ 1000) (h0 : 0 < n) (hm : L.all mayN = true) (o : Option Nat) (ho : g (L.getD 0 default) = o) :
    Calls Tryd.prog 33 #[.pointer (some ⟨db, 0, none⟩), .slice a n c] w fun e w' => e = .returned (.tuple #[ptrOf bl o, .int .i64 (if o.isNone then 4 else 0)]) ∧ ∃ q, w' = w.drewN q := by
  have HC := Lib.hid (contains_any a n c L w hA hn)
  rw [hm] at HC
  obtain ⟨b, off, rfl⟩ := hA.some_ h0
  have hc := hA.cell 0 h0
  rw [Nat.add_zero] at hc
  have hz : (L.getD 0 default).length ≤ 80 := may_le (List.all_eq_true.1 hm _ (by
    rw [List.getD_eq_getElem?_getD, List.getElem?_eq_getElem (by rw [hA.1]; exact h0)]
    exact List.getElem_mem _))
  unfold St at hc
  obtain ⟨x, hx⟩ : ∃ x, strB (L.getD 0 default) = x := ⟨_, rfl⟩
  have hlk := dir_lookN hD x (by rw [← hx, strB_size]; omega)
  rw [show x.data.toList = L.getD 0 default from by rw [← hx, strB_list], ho] at hlk
  rw [hx] at hc
  have hnI : (0 : Int) < (n : Int) := by omega
  clear hA hm hx hz hD ho
  cases o with
  | none =>
    simp only [ptrOf] at hlk ⊢
    go_enter Tryd.func33, Tryd.ntmps33
    go_wp2_with (first | (go_at_call 59; (with_reducible refine HC.out.mono ?_); rintro e w5 ⟨rfl, rfl⟩))
    go_quiet (fail)
    go_wp2
    go_ret2
    exact ⟨rfl, _, rfl⟩
  | some k =>
    simp only [ptrOf] at hlk ⊢
    go_enter Tryd.func33, Tryd.ntmps33
    go_wp2_with (first | (go_at_call 59; (with_reducible refine HC.out.mono ?_); rintro e w5 ⟨rfl, rfl⟩))
    go_quiet (fail)
    go_wp2
    go_ret2
    exact ⟨rfl, _, rfl⟩
#print axioms find_any
end Go.Proofs.YtcnhifkpflaibaaDoor
