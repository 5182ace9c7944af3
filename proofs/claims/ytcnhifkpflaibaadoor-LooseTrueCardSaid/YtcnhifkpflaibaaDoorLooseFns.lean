/-
  The walks of what loose calls of the library, of file, Get and Has.
-/
import Derived.Test.YtcnhifkpflaibaaDoorLooseBeg
import Derived.Test.YtcnhifkpflaibaaDoorHexAll
import Derived.Test.YtcnhifkpflaibaaDoorIdAll
import Derived.Test.YtcnhifkpflaibaaDoorShaAll
import Derived.Laws.Cover1
namespace Go.Proofs.YtcnhifkpflaibaaDoor
open Go.RowKit Go.Maps

theorem sum_id (l : List UInt8) : (bytesV (sumF l)).toArray = idCells (sumF l) := rfl
theorem parts_one {W : World} {a : Option Addr} {n c g : Nat} {l : List UInt8} (h : Bytes W a n c l) (hg : g = W.heap.size) :
    Parts (W.alloc (.cells #[.slice a n c] 23)) (some ⟨g, 0, none⟩) 1 [l] := by
  subst hg
  refine ⟨rfl, by omega, .inr ⟨_, _, rfl, fun j hj => ?_⟩⟩
  obtain rfl : j = 0 := by omega
  refine ⟨a, n, c, ?_, h.below ((Below.refl _ _).alloc (Nat.le_refl _) _)⟩
  rw [Nat.zero_add, World.cell?_alloc_new]
  rfl
/-- The sum of one row of bytes, behind the slice literal that holds it. -/
theorem sum_box {W : World} {a : Option Addr} {n c : Nat} {l : List UInt8} (h : Bytes W a n c l) (ht : Tables W) (hl : l.length ≤ 10000000000) {id : List UInt8} (hid : sumF l = id) :
    Calls Tryd.prog 13 #[.slice (some ⟨W.heap.size, 0, none⟩) 1 1] (W.alloc (.cells #[.slice a n c] 23)) fun e w' => e = .returned (.agg (idCells id)) ∧ Below W.heap.size W w' := by
  subst hid
  have hb : Below W.heap.size W (W.alloc (.cells #[.slice a n c] 23)) := (Below.refl _ _).alloc (Nat.le_refl _) _
  refine (sum_any _ 1 1 [l] _ (parts_one h rfl) (ht.below hb) (by simp; omega)).mono ?_
  rintro e w' ⟨he, hb2⟩
  refine ⟨?_, hb.trans (hb2.mono hb.size)⟩
  rw [he, ← sum_id]
  simp

theorem str_eq (x y : List UInt8) : ((strB x).toList == (strB y).toList) = decide (x = y) := by
  rw [ByteArray.toList_eq, ByteArray.toList_eq, strB_list, strB_list]
  by_cases h : x = y <;> simp [h]
set_option maxRecDepth 100000 in
set_option maxHeartbeats 400000 in
theorem equal_any {W : World} {a b : Option Addr} {n c m d : Nat} {x y : List UInt8} (hx : Bytes W a n c x) (hy : Bytes W b m d y) {q : Bool} (hq : decide (x = y) = q) :
    Calls Tryd.prog 50 #[.slice a n c, .slice b m d] W fun e w' => e = .returned (.bool q) ∧ W = w' := by
  have h1 := run_str hx 9 Tryd.underlying9
  have h2 := run_str hy 9 Tryd.underlying9
  have h3 := (str_eq x y).trans hq
  go_enter Tryd.func50, Tryd.ntmps50
  go_wp2
  go_ret
  exact ⟨rfl, rfl⟩

set_option maxRecDepth 100000 in
set_option maxHeartbeats 400000 in
theorem file_any (l : List UInt8) (hl : l.length = 32) (w : World) {s : ByteArray} (hs : strB (fileN l) = s) :
    Calls Tryd.prog 31 #[.agg (idCells l)] w fun e w' => e = .returned (.string s) ∧ Below w.heap.size w w' := by
  subst hs
  have hi0 := idAt_box w l hl
  have HX := Lib.hid (hex_any l hl (w.alloc (.cells (idCells l) 35)))
  have HE := Lib.hid (show strB [111, 45] ++ strB (hexF l) = strB (fileN l) by
    apply ByteArray.ext
    simp [strB, fileN])
  have hz : (strB (hexF l)).size = 64 := by rw [strB_size, hexF_length, hl]
  have HZ := Lib.hid hz
  clear hl hz
  go_enter Tryd.func31, Tryd.ntmps31
  go_wp2_with (first
    | (refine load_id rfl (.tmp 1) rfl _ _ rfl hi0 ?_)
    | (go_at_call 54; (with_reducible refine HX.out.mono ?_); rintro e w1 ⟨rfl, hb1⟩; have HB := Lib.hid hb1; have hz := HZ.out; clear hb1))
  go_ret
  exact ⟨by rw [← HE.out]; rfl, ((Below.refl w.heap.size w).alloc (Nat.le_refl _) _).trans (HB.out.mono (by simp))⟩

theorem pre_eq (s : ByteArray) : ((s.extract 0 2).toList == [111, 45]) = decide ([111, 45] <+: s.data.toList) := by
  rw [ByteArray.toList_eq]
  have e : (s.extract 0 2).data.toList = s.data.toList.take 2 := by simp [ByteArray.data_extract, Array.toList_extract, List.extract]
  rw [e, Bool.eq_iff_iff, decide_eq_true_iff, List.prefix_iff_eq_take, beq_iff_eq]
  exact eq_comm
set_option maxRecDepth 100000 in
set_option maxHeartbeats 400000 in
theorem litePrefix_any (s : ByteArray) (w : World) {q : Bool} (hq : decide ([111, 45] <+: s.data.toList) = q) :
    Calls Tryd.prog 75 #[.string s, .string ⟨#[111, 45]⟩] w fun e w' => e = .returned (.bool q) ∧ w = w' := by
  by_cases h2 : (2 : Int) ≤ (s.size : Int)
  · have hp := (pre_eq s).trans hq
    go_enter Tryd.func75, Tryd.ntmps75
    go_wp2
    go_ret
    exact ⟨by rw [← hp]; rfl, rfl⟩
  · have HQ := Lib.hid (show q = false by
      rw [← hq, decide_eq_false_iff_not]
      intro h
      have h3 := h.length_le
      simp at h3
      omega)
    clear hq
    go_enter Tryd.func75, Tryd.ntmps75
    go_wp2
    go_ret
    exact ⟨by rw [HQ.out]; rfl, rfl⟩
/-- What stands behind the mark, and whether it is there. -/
def CutIs (s : ByteArray) (q : Bool) (w : World) (e : Ending) (w' : World) : Prop := ∃ x : ByteArray, e = .returned (.tuple #[.string x, .bool q]) ∧ (q = true → x.data.toList = s.data.toList.drop 2) ∧ x.size ≤ s.size ∧ w = w'
set_option maxRecDepth 100000 in
set_option maxHeartbeats 400000 in
theorem liteCut_any (s : ByteArray) (w : World) {q : Bool} (hq : decide ([111, 45] <+: s.data.toList) = q) :
    Calls Tryd.prog 60 #[.string s, .string ⟨#[111, 45]⟩] w (CutIs s q w) := by
  have P := Lib.hid (litePrefix_any s w hq)
  cases q with
  | true =>
    have h2 : (2 : Int) ≤ (s.size : Int) := by
      rw [decide_eq_true_iff] at hq
      have h3 := hq.length_le
      simp at h3
      omega
    clear hq
    go_enter Tryd.func60, Tryd.ntmps60
    go_wp2_with (go_at_call 75; (with_reducible refine P.out.mono ?_); rintro e w1 ⟨rfl, rfl⟩)
    go_ret2
    refine ⟨_, rfl, fun _ => ?_, ?_, rfl⟩
    · simp [ByteArray.data_extract, Array.toList_extract, List.extract]
      exact List.take_of_length_le (by simp)
    · simp
  | false =>
    clear hq
    go_enter Tryd.func60, Tryd.ntmps60
    go_wp2_with (go_at_call 75; (with_reducible refine P.out.mono ?_); rintro e w1 ⟨rfl, rfl⟩)
    go_ret2
    exact ⟨s, rfl, fun h => (by cases h), Nat.le_refl _, rfl⟩
set_option maxRecDepth 100000 in
set_option maxHeartbeats 400000 in
theorem cut_any (s : ByteArray) (w : World) {q : Bool} (hq : decide ([111, 45] <+: s.data.toList) = q) :
    Calls Tryd.prog 39 #[.string s, .string ⟨#[111, 45]⟩] w (CutIs s q w) := by
  have P := Lib.hid (liteCut_any s w hq)
  clear hq
  go_enter Tryd.func39, Tryd.ntmps39
  go_wp2_with (go_at_call 60; (with_reducible refine P.out.mono ?_); rintro e w1 ⟨x, rfl, hx, hz, rfl⟩; have HX := Lib.hid hx; have HZ := Lib.hid hz; clear hx hz)
  go_ret2
  exact ⟨x, rfl, HX.out, HZ.out, rfl⟩
#print axioms cut_any
end Go.Proofs.YtcnhifkpflaibaaDoor
