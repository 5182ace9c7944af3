/-
  Merged: HkTexts, HkEg, HkAwake.
-/
import Derived.Test.YtfoalaoanpbmeaaDoorHkLines
namespace Go.Proofs.YtfoalaoanpbmeaaDoor
open Go.RowKit

theorem ent_eqH (a b : Ln) : ((strB a).toList == (strB b).toList) = decide (a = b) := by
  rw [ByteArray.toList_eq, ByteArray.toList_eq, strB_list, strB_list]
  by_cases h : a = b <;> simp [h]
theorem below_drewH {base : Nat} {w w' : World} (h : Below base w w') (n : Nat) : Below base w (w'.drewN n) := ⟨h.os, h.tape, h.output, h.size, h.block⟩

theorem drop_sameH {L M : List Ln} {i : Nat} (hi : i < L.length) (hj : i < M.length) : decide (L.drop i = M.drop i) = (decide (L.getD i [] = M.getD i []) && decide (L.drop (i + 1) = M.drop (i + 1))) := by
  rw [List.drop_eq_getElem_cons hi, List.drop_eq_getElem_cons hj]
  have e1 : L.getD i [] = L[i] := by simp [hi]
  have e2 : M.getD i [] = M[i] := by simp [hj]
  rw [e1, e2]
  simp only [List.cons.injEq, Bool.decide_and]
set_option maxRecDepth 100000 in
set_option maxHeartbeats 1000000 in
theorem texts_any (a : Option Addr) (n c : Nat) (L : List Ln) (b : Option Addr) (m d : Nat) (M : List Ln) (w : World) (h : AtG lnK w a n c L) (h2 : AtG lnK w b m d M) :
    Calls Tryd.prog 12 #[.slice a n c, .slice b m d] w fun e w' => e = .returned (.bool (decide (L = M))) ∧ Below w.heap.size w w' := by
  have HA := Lib.hid h
  have HB := Lib.hid h2
  have hnI : (n : Int) ≤ 9223372036854775807 := by have := h.2.1; have := h.2.2.1; omega
  by_cases hnm : n = m
  · subst hnm
    clear h h2
    go_enter Tryd.func12, Tryd.ntmps12
    go_wp2
    go_loopg [5] n (fun g v5 W => ∃ i : Nat, Below w.heap.size w W ∧ v5 = .int .i64 i ∧ g + i = n ∧ Hid (decide (L = M) = decide (L.drop i = M.drop i)))
    case atStart => exact ⟨0, Below.refl _ _, rfl, rfl, Lib.hid rfl⟩
    case round =>
      obtain ⟨i, hbw, rfl, hg, HE⟩ := hrel
      have HG := Lib.hid hg
      have HBw := Lib.hid hbw
      have hi0 : (0 : Int) ≤ (i : Int) := by omega
      have hiI : (i : Int) ≤ (n : Int) := by omega
      by_cases hi : (i : Int) < (n : Int)
      · have hin : i < n := by omega
        have HI := Lib.hid hin
        obtain ⟨ab, ao, rfl⟩ := HA.out.some_ (by omega)
        obtain ⟨bb, bo, rfl⟩ := HB.out.some_ (by omega)
        have c0 := ln_cell (HA.out.below hbw) i hin
        have c1 := ln_cell (HB.out.below hbw) i hin
        have HS := Lib.hid (drop_sameH (L := L) (M := M) (i := i) (by rw [HA.out.1]; exact hin) (by rw [HB.out.1]; exact hin))
        obtain ⟨x, hx⟩ : ∃ x, L.getD i [] = x := ⟨_, rfl⟩
        obtain ⟨y, hy⟩ : ∃ y, M.getD i [] = y := ⟨_, rfl⟩
        rw [hx] at c0 HS
        rw [hy] at c1 HS
        replace c0 : wr.cell? ⟨ab, ao + i, none⟩ = some (.string (strB x)) := c0
        replace c1 : wr.cell? ⟨bb, bo + i, none⟩ = some (.string (strB y)) := c1
        have ee := ent_eqH x y
        clear hg hin hx hy
        by_cases hxy : x = y
        · have e1 : ((strB x).toList == (strB y).toList) = true := by rw [ee]; simp [hxy]
          have e2 : ((strB x).toList != (strB y).toList) = false := by simp [bne, e1]
          have HE2 := Lib.hid (show decide (L = M) = decide (L.drop (i + 1) = M.drop (i + 1)) by rw [HE.out, HS.out, decide_eq_true hxy, Bool.true_and])
          clear ee hxy
          go_wp2
          go_quiet (fail)
          have HBq := Lib.hid (below_drewH HBw.out nq)
          generalize wr.drewN nq = wq at HBq ⊢
          clear c0 c1
          go_wp2
          go_roundg (n - (i + 1))
          case measure => have := HG.out; have := HI.out; omega
          case rel => exact ⟨i + 1, HBq.out, by go_num, by have := HG.out; have := HI.out; omega, HE2⟩
        · have e1 : ((strB x).toList == (strB y).toList) = false := by rw [ee]; simp [hxy]
          have e2 : ((strB x).toList != (strB y).toList) = true := by simp [bne, e1]
          have HE2 := Lib.hid (show decide (L = M) = false by rw [HE.out, HS.out, decide_eq_false hxy, Bool.false_and])
          clear ee hxy
          go_wp2
          go_quiet (fail)
          have HBq := Lib.hid (below_drewH HBw.out nq)
          generalize wr.drewN nq = wq at HBq ⊢
          clear c0 c1
          go_wp2
          go_ret
          exact ⟨by rw [HE2.out]; rfl, HBq.out⟩
      · have HE2 := Lib.hid (show decide (L = M) = true by
          rw [HE.out, List.drop_eq_nil_of_le (by rw [HA.out.1]; omega), List.drop_eq_nil_of_le (by rw [HB.out.1]; omega)]
          rfl)
        clear hg
        go_wp2
        go_ret
        exact ⟨by rw [HE2.out]; rfl, HBw.out⟩
  · have HE2 := Lib.hid (show decide (L = M) = false from decide_eq_false (fun e => hnm (by rw [← HA.out.1, ← HB.out.1, e])))
    have e0 : ((n : Int) == (m : Int)) = false := by simp; omega
    have e1 : ((n : Int) != (m : Int)) = true := by simp; omega
    clear h h2 hnm
    go_enter Tryd.func12, Tryd.ntmps12
    go_wp2
    go_ret
    exact ⟨by rw [HE2.out]; rfl, Below.refl _ _⟩
#print axioms texts_any
end Go.Proofs.YtfoalaoanpbmeaaDoor

namespace Go.Proofs.YtfoalaoanpbmeaaDoor
open Go.RowKit Go.Lib My
theorem eg_lines : linesF [97, 10, 98, 10] = [[97, 10], [98, 10]] := by kernel_rfl
theorem eg_lines2 : linesF [97, 10, 99, 10] = [[97, 10], [99, 10]] := by kernel_rfl
theorem eg_txt : txtF [97, 10, 98, 10] = true := by kernel_rfl
theorem eg_scr : scrL [[97, 10], [98, 10]] [[97, 10], [99, 10]] = [1, 2, 3] := by kernel_rfl
theorem eg_hk : topF [97, 10, 98, 10] [97, 10, 99, 10] = ([⟨0, 0, [[32, 97, 10], [45, 98, 10], [43, 99, 10]]⟩], 0) := by kernel_rfl
theorem eg_files : linesT [] [([120], [104, 105])] = ([[102, 105, 108, 101, 32, 120, 32, 97, 100, 100, 101, 100], [64, 32, 48, 32, 48], [43, 104, 105, 92]], 0) := by kernel_rfl
end Go.Proofs.YtfoalaoanpbmeaaDoor

namespace Go.Proofs.YtfoalaoanpbmeaaDoor
open Go.RowKit Go.Lib

theorem eg_top (w : World) (hT : Tabs w) : Calls Tryd.prog 8 #[.string ⟨#[97, 10, 98, 10]⟩, .string ⟨#[97, 10, 99, 10]⟩] w fun e w' => ∃ g c a2 n2 c2, e = .returned (.tuple #[.slice (some ⟨g, 0, none⟩) 1 c, .int .i64 0]) ∧ w'.cell? ⟨g, 2, none⟩ = some (.slice a2 n2 c2) ∧ AtG lnK w' a2 n2 c2 [[32, 97, 10], [45, 98, 10], [43, 99, 10]] ∧ Below w.heap.size w w' := by
  refine (top0 eg_hk w (by decide) (by decide) hT).mono fun e w' ⟨a, c, base, V, he, hv, hh, _, hb⟩ => ?_
  obtain ⟨⟨y, v⟩, rfl⟩ : ∃ x, V = [x] := List.length_eq_one_iff.1 (by have := congrArg List.length hv; simpa using this)
  have hy : y = ⟨0, 0, [[32, 97, 10], [45, 98, 10], [43, 99, 10]]⟩ := by simpa using hv
  subst hy
  obtain ⟨g, rfl, _, _, _⟩ := hh.row.row (by simp)
  have hc := hh.slot0 (V := [])
  obtain ⟨a2, c2, h1, h2⟩ := (hh.ln (List.mem_singleton.2 rfl)).atG_
  have h1' : v = .slice a2 3 c2 := h1
  rw [h1'] at hc
  exact ⟨g, c, a2, 3, c2, he, hc, h2, hb⟩
theorem file1 (w : World) : FilesAt (w.alloc (.cells #[.string ⟨#[120]⟩, .string ⟨#[104, 105]⟩] 38)) (some ⟨w.heap.size, 0, none⟩) 1 1 [([120], [104, 105])] := by
  have e := heap_alloc_new w (.cells #[.string ⟨#[120]⟩, .string ⟨#[104, 105]⟩] 38)
  refine ⟨rfl, Nat.le_refl _, by decide, .inr ⟨_, _, rfl, fun j hj => ?_⟩⟩
  obtain rfl : j = 0 := by omega
  exact ⟨by rw [cell_of_row _ _ _ _ _ _ e]; rfl, by rw [cell_of_row _ _ _ _ _ _ e]; rfl⟩
theorem eg_ls (w : World) (hT : HTabs w) : Calls Tryd.prog 16 #[.slice none 0 0, .slice (some ⟨w.heap.size, 0, none⟩) 1 1] (w.alloc (.cells #[.string ⟨#[120]⟩, .string ⟨#[104, 105]⟩] 38)) fun e w' => ∃ a n c, e = .returned (.tuple #[.slice a n c, .int .i64 0]) ∧ AtG lnK w' a n c [[102, 105, 108, 101, 32, 120, 32, 97, 100, 100, 101, 100], [64, 32, 48, 32, 48], [43, 104, 105, 92]] ∧ Below w.heap.size w w' := by
  have hb : Below w.heap.size w (w.alloc (.cells #[.string ⟨#[120]⟩, .string ⟨#[104, 105]⟩] 38)) := (Below.refl _ _).alloc (Nat.le_refl _) _
  refine (lines_any none (some ⟨w.heap.size, 0, none⟩) 0 0 1 1 [] [([120], [104, 105])] _ FilesAt.nil (file1 w) (fun f hf => by cases hf) (fun f hf => by rw [List.mem_singleton.1 hf]; exact ⟨by decide, by decide⟩) (by decide) (by decide) (hT.below hb)).mono fun e w' ⟨a, n, c, he, ha, hb2⟩ => ?_
  rw [eg_files] at he ha
  exact ⟨a, n, c, he, ha, hb.trans (hb2.mono hb.size)⟩
theorem lit3 (w : World) (x y z : ByteArray) (X : List Ln) (hX : X = [x.data.toList, y.data.toList, z.data.toList]) : AtG lnK (w.alloc (.cells #[.string x, .string y, .string z] 9)) (some ⟨w.heap.size, 0, none⟩) 3 3 X := by
  subst hX
  have e := heap_alloc_new w (.cells #[.string x, .string y, .string z] 9)
  refine ln_mk rfl (Nat.le_refl _) (by decide) (fun j hj => ?_)
  rw [Nat.zero_add, cell_of_row _ _ _ _ _ _ e]
  have hj3 : j = 0 ∨ j = 1 ∨ j = 2 := by omega
  rcases hj3 with rfl | rfl | rfl
  · show some (Value.string x) = some (.string (strB x.data.toList)); rw [strB_of]
  · show some (Value.string y) = some (.string (strB y.data.toList)); rw [strB_of]
  · show some (Value.string z) = some (.string (strB z.data.toList)); rw [strB_of]
theorem txt3 {w : World} {a : Option Addr} {n c : Nat} {X : List Ln} (h : AtG lnK w a n c X) (x y z : ByteArray) (hX : X = [x.data.toList, y.data.toList, z.data.toList]) : Calls Tryd.prog 12 #[.slice a n c, .slice (some ⟨w.heap.size, 0, none⟩) 3 3] (w.alloc (.cells #[.string x, .string y, .string z] 9)) fun e w' => e = .returned (.bool true) ∧ Below w.heap.size w w' := by
  have hb : Below w.heap.size w (w.alloc (.cells #[.string x, .string y, .string z] 9)) := (Below.refl _ _).alloc (Nat.le_refl _) _
  refine (texts_any a n c X _ 3 3 X _ (h.below hb) (lit3 w x y z X hX)).mono fun e w' ⟨he, hb2⟩ => ⟨?_, hb.trans (hb2.mono hb.size)⟩
  rw [he, decide_eq_true rfl]
set_option maxRecDepth 100000 in
set_option maxHeartbeats 1000000 in
theorem awake_any (w : World) (hT : HTabs w) : Calls Tryd.prog 15 #[] w fun e w' => e = .returned (.bool true) ∧ Below w.heap.size w w' := by
  have HT := Lib.hid hT
  have HE := Lib.hid (eg_top w hT.tabs)
  have HT1 := Lib.hid (fun (W : World) {a : Option Addr} {n c : Nat} (h : AtG lnK W a n c [[32, 97, 10], [45, 98, 10], [43, 99, 10]]) => txt3 h ⟨#[32, 97, 10]⟩ ⟨#[45, 98, 10]⟩ ⟨#[43, 99, 10]⟩ rfl)
  have HT2 := Lib.hid (fun (W : World) {a : Option Addr} {n c : Nat} (h : AtG lnK W a n c [[102, 105, 108, 101, 32, 120, 32, 97, 100, 100, 101, 100], [64, 32, 48, 32, 48], [43, 104, 105, 92]]) => txt3 h ⟨#[102, 105, 108, 101, 32, 120, 32, 97, 100, 100, 101, 100]⟩ ⟨#[64, 32, 48, 32, 48]⟩ ⟨#[43, 104, 105, 92]⟩ rfl)
  clear hT
  go_enter Tryd.func15, Tryd.ntmps15
  go_wp2_with (first
    | (go_at_call 8; (with_reducible refine HE.out.mono ?_); rintro e w1 ⟨g, c, a2, n2, c2, rfl, hc, hl, hb⟩; have HC := Lib.hid hc; have HL := Lib.hid hl; have HB := Lib.hid hb; clear hc hl hb)
    | (go_at_call 16; (with_reducible refine (eg_ls w1 (HT.out.below HB.out)).mono ?_); rintro e w2 ⟨a3, n3, c3, rfl, hl, hb⟩; have hc2 := (hb.cell (World.block_lt_of_cell? _ _ HC.out)).trans HC.out; have HL2 := Lib.hid (HL.out.below hb); have HM2 := Lib.hid hl; have HB2 := Lib.hid (HB.out.trans (hb.mono HB.out.size)); clear hl hb)
    | (go_at_call 12; (with_reducible refine (HT1.out w2 HL2.out).mono ?_); rintro e w3 ⟨rfl, hb⟩; have HB3 := Lib.hid (HB2.out.trans (hb.mono HB2.out.size)); have HM3 := Lib.hid (HM2.out.below hb); clear hb)
    | (go_at_call 12; (with_reducible refine (HT2.out w3 HM3.out).mono ?_); rintro e w4 ⟨rfl, hb⟩; have HB4 := Lib.hid (HB3.out.trans (hb.mono HB3.out.size)); clear hb))
  go_ret
  exact ⟨rfl, HB4.out⟩
#print axioms awake_any
end Go.Proofs.YtfoalaoanpbmeaaDoor
