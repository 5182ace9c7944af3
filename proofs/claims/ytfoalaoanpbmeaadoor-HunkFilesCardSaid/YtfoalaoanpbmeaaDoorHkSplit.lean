/-
  The walk of Split: a text's lines.
-/
import Derived.Test.YtfoalaoanpbmeaaDoorHkMath
import Derived.Test.YtfoalaoanpbmeaaDoorHkShelf
import Derived.Test.YtfoalaoanpbmeaaDoorSliceG
import Derived.Test.YtfoalaoanpbmeaaDoorBytes
namespace Go.Proofs.YtfoalaoanpbmeaaDoor
open Go.RowKit Go.Lib

/-- Lines, as elements of a slice of texts. -/
def lnC (s : List UInt8) : List Value := [.string (strB s)]
def lnK : Kind (List UInt8) := ⟨lnC, 1, fun _ => True, by decide, fun _ _ => rfl, fun s _ v hv => by rw [List.mem_singleton.1 hv]; rfl⟩
theorem ln_cell {w : World} {b off n c : Nat} {L : List (List UInt8)} (h : AtG lnK w (some ⟨b, off, none⟩) n c L) (j : Nat) (hj : j < n) : w.cell? ⟨b, off + j, none⟩ = some (.string (strB (L.getD j []))) := by
  have := h.cell j hj 0 (.string (strB (gd L j))) rfl
  rw [show off + j * lnK.k + 0 = off + j by show off + j * 1 + 0 = off + j; omega] at this
  exact this
theorem ln_mk {w : World} {b off n c : Nat} {L : List (List UInt8)} (hl : L.length = n) (hnc : n ≤ c) (hc : c ≤ 9223372036854775807) (h : ∀ j, j < n → w.cell? ⟨b, off + j, none⟩ = some (.string (strB (L.getD j [])))) : AtG lnK w (some ⟨b, off, none⟩) n c L := by
  refine ⟨hl, hnc, hc, fun _ _ => trivial, .inr ⟨b, off, rfl, fun j hj i v hv => ?_⟩⟩
  have hv' : ([.string (strB (L.getD j []))] : List Value)[i]? = some v := hv
  have hi : i = 0 := by
    rcases i with _ | i
    · rfl
    · simp at hv'
  subst hi
  obtain rfl : Value.string (strB (L.getD j [])) = v := by simpa using hv'
  rw [show off + j * lnK.k + 0 = off + j by show off + j * 1 + 0 = off + j; omega]
  exact h j hj
theorem count_le_len (l : List UInt8) : l.count 10 ≤ l.length := List.count_le_length
theorem genSplit_ten (s : ByteArray) (w : World) (hs : s.size ≤ 4000000000) :
    Calls Tryd.prog 44 #[.string s, .string ⟨#[10]⟩, .int .i64 1, .int .i64 (-1)] w fun e w' => e = .returned (.slice (some ⟨w.heap.size, 0, none⟩) (splitA s.data.toList).length (splitA s.data.toList).length) ∧ w' = w.alloc (.cells ((splitA s.data.toList).map fun x => Value.string (strB x)).toArray 9) := by
  have hcb : Lib.countB s ⟨#[10]⟩ = s.data.toList.count 10 := count_one 10 s.data.toList
  have hcl := count_le_len s.data.toList
  rw [← Lib.size_eq] at hcl
  have h := Any.strings_genSplit_core Tryd.lays221 (by kernel_rfl) s ⟨#[10]⟩ 1 (-1) (s.data.toList.count 10 + 1) w (by omega) (by decide) (by decide)
    (fun x c _ => by
      have h1 := Tryd.strings_Index_one x 10 (w.alloc (.cells c 9))
      rw [← index_one] at h1
      exact h1)
    (by
      have h1 := Tryd.strings_Count_one s 10 w
      rw [hcb]
      exact h1) (by decide) (by decide) (by rw [if_pos (by decide), hcb]; omega)
  rw [Nat.add_sub_cancel] at h
  have e1 : splitB ⟨#[10]⟩ 1 (s.data.toList.count 10) s = (splitA s.data.toList).map strB := by
    rw [← splitB_ten, List.map_map]
    conv => lhs; rw [← List.map_id (splitB ⟨#[10]⟩ 1 (s.data.toList.count 10) s)]
    exact List.map_congr_left fun x _ => (strB_of x).symm
  rw [e1] at h
  have e2 : Lib.cellsOf ((splitA s.data.toList).map strB) (s.data.toList.count 10 + 1) = ((splitA s.data.toList).map fun x => Value.string (strB x)).toArray := by
    have h3 := Lib.cellsOf_full ((splitA s.data.toList).map strB)
    rw [List.length_map, splitA_count, List.map_map] at h3
    exact h3
  rw [e2, List.length_map, ← splitA_count] at h
  exact h
set_option maxRecDepth 100000 in
theorem splitAfter_any (s : ByteArray) (w : World) (hs : s.size ≤ 4000000000) :
    Calls Tryd.prog 24 #[.string s, .string ⟨#[10]⟩] w fun e w' => e = .returned (.slice (some ⟨w.heap.size, 0, none⟩) (splitA s.data.toList).length (splitA s.data.toList).length) ∧ w' = w.alloc (.cells ((splitA s.data.toList).map fun x => Value.string (strB x)).toArray 9) := by
  have HG := Lib.hid (genSplit_ten s w hs)
  generalize (splitA s.data.toList).length = n at HG ⊢
  generalize w.alloc (.cells ((splitA s.data.toList).map fun x => Value.string (strB x)).toArray 9) = w1 at HG ⊢
  go_enter Tryd.func24, Tryd.ntmps24
  go_wp2_with (go_at_call 44; go_must (refine HG.out.mono ?_); rintro e w2 ⟨rfl, rfl⟩)
  go_ret
  exact ⟨rfl, rfl⟩
/-- A slice of lines, told; what was there stands. -/
def LnsIs (L : List (List UInt8)) (w : World) (e : Ending) (w' : World) : Prop := ∃ a n c, e = .returned (.slice a n c) ∧ AtG lnK w' a n c L ∧ Below w.heap.size w w'
set_option maxRecDepth 100000 in
set_option maxHeartbeats 1000000 in
theorem split_any (s : ByteArray) (w : World) (hs : s.size ≤ 4000000000) : Calls Tryd.prog 13 #[.string s] w (LnsIs (linesF s.data.toList) w) := by
  obtain ⟨L, hL⟩ : ∃ L, splitA s.data.toList = L := ⟨_, rfl⟩
  have hne : L ≠ [] := hL ▸ splitA_ne _
  obtain ⟨N, hn⟩ : ∃ N, L.length = N := ⟨_, rfl⟩
  obtain ⟨n, hnN⟩ : ∃ n, N = n + 1 := ⟨N - 1, by have := List.length_pos_iff.2 hne; omega⟩
  have hnb : n ≤ 4000000000 := by have h1 := splitA_count s.data.toList; have h2 := count_le_len s.data.toList; rw [← Lib.size_eq] at h2; rw [hL] at h1; omega
  have hch := chop_split s.data.toList
  rw [hL] at hch
  have HG := Lib.hid (splitAfter_any s w hs)
  rw [hL, hn] at HG
  obtain ⟨w1, hw1⟩ : ∃ W, w.alloc (.cells (L.map fun x => Value.string (strB x)).toArray 9) = W := ⟨_, rfl⟩
  rw [hw1] at HG
  have HB : Hid (Below w.heap.size w w1) := Lib.hid (hw1 ▸ (Below.refl _ _).alloc (Nat.le_refl _) _)
  have hcell : ∀ j, j < N → w1.cell? ⟨w.heap.size, j, none⟩ = some (.string (strB (L.getD j []))) := fun j hj => by
    rw [← hw1, cell_of_row _ _ _ _ _ _ (heap_alloc_new w _)]
    simp [hn, hj]
  obtain ⟨x, hx⟩ : ∃ x, L.getD n [] = x := ⟨_, rfl⟩
  have hlast := hcell n (by omega)
  rw [hx] at hlast
  have hgl : L.getLast? = some x := by
    rw [List.getLast?_eq_getElem?, hn, hnN, Nat.add_sub_cancel, ← hx, List.getD_eq_getElem?_getD, List.getElem?_eq_getElem (by omega)]
    rfl
  have HC := Lib.hid hcell
  have W1 : IntKind.i64.wrap ((N : Int) - 1) = (n : Int) := by rw [IntWalk.i64_in _ (by omega)]; omega
  have hn0 : (0 : Int) ≤ (n : Int) := by omega
  have hn1 : (n : Int) < (N : Int) := by omega
  have hn2 : n ≤ N := by omega
  have hnc : ¬ N = n := by omega
  have hnc' : ¬ n = N := by omega
  have HNN := Lib.hid hnN
  have HN := Lib.hid hn
  have HNB := Lib.hid hnb
  by_cases h0 : x = []
  · have HE : Hid (linesF s.data.toList = L.dropLast) := Lib.hid (by rw [← hch]; unfold chopF; rw [hgl, h0, if_pos rfl])
    have hq : ((strB x).toList == []) = true := by rw [h0, Lib.toList_data]; rfl
    have hc0 : ¬ N = 0 := by omega
    clear hL hne hn hnN hnb hch hw1 hcell hx hgl h0 hs
    go_enter Tryd.func13, Tryd.ntmps13
    go_wp2_with (go_at_call 24; (with_reducible refine HG.out.mono ?_); rintro e w2 ⟨rfl, rfl⟩)
    go_ret
    refine ⟨_, _, _, rfl, ?_, HB.out⟩
    rw [HE.out]
    refine ln_mk (by rw [List.length_dropLast, HN.out, HNN.out]; omega) hn2 (by have := HNB.out; have := HNN.out; omega) (fun j hj => ?_)
    rw [Nat.zero_add, HC.out j (by omega), List.dropLast_eq_take, HN.out, HNN.out, Nat.add_sub_cancel, List.getD_eq_getElem?_getD, List.getD_eq_getElem?_getD, List.getElem?_take_of_lt hj]
  · have HE : Hid (linesF s.data.toList = L) := Lib.hid (by rw [← hch]; unfold chopF; rw [hgl, if_neg (by simpa using h0)])
    have hq : ((strB x).toList == []) = false := by rw [Lib.toList_data]; simp [strB, h0]
    clear hL hne hn hnN hnb hch hw1 hcell hx hgl h0 hs
    go_enter Tryd.func13, Tryd.ntmps13
    go_wp2_with (go_at_call 24; (with_reducible refine HG.out.mono ?_); rintro e w2 ⟨rfl, rfl⟩)
    go_ret
    refine ⟨_, _, _, rfl, ?_, HB.out⟩
    rw [HE.out]
    exact ln_mk HN.out (Nat.le_refl _) (by have := HNB.out; have := HNN.out; omega) (fun j hj => by rw [Nat.zero_add]; exact HC.out j hj)
#print axioms split_any
end Go.Proofs.YtfoalaoanpbmeaaDoor
