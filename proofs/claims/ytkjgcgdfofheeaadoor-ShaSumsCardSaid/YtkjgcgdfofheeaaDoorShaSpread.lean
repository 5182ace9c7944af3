/-
  The walk of spread: the word of each round, made of a block's 16.
-/
import Derived.Test.YtkjgcgdfofheeaaDoorRow
import Derived.Test.YtkjgcgdfofheeaaDoorBytes
import Derived.Test.YtkjgcgdfofheeaaDoorShaRot
import Derived.Deep.LoopGhost
import Derived.StillTailTactics
import Derived.BigQuiet
namespace Go.Proofs.YtkjgcgdfofheeaaDoor
open Go.RowKit

/-- A word as the model has it. -/
def U (x : UInt32) : Value := .int .u32 (x.toNat : Int)
def wordsV (l : List UInt32) : List Value := l.map U
def bytesV (l : List UInt8) : List Value := l.map B
def zeroW (n : Nat) : List UInt32 := List.replicate n 0

theorem size_byte (W : World) : (sizeOf 5).run Tryd.prog W = .ok 1 W := by kernel_rfl
theorem wordsV_length (l : List UInt32) : (wordsV l).length = l.length := by simp [wordsV]
theorem bytesV_length (l : List UInt8) : (bytesV l).length = l.length := by simp [bytesV]
theorem wordsV_one (l : List UInt32) : ∀ v ∈ wordsV l, v.oneCell' = true := fun v hv => by obtain ⟨x, _, rfl⟩ := List.mem_map.1 hv; rfl
theorem bytesV_one (l : List UInt8) : ∀ v ∈ bytesV l, v.oneCell' = true := fun v hv => by obtain ⟨x, _, rfl⟩ := List.mem_map.1 hv; rfl
theorem info_64w : (Tryd.prog.info? 42).map (·.size) = some 64 := by kernel_rfl
theorem zero_64w (w : World) : (zeroValue 42).run Tryd.prog w = .ok (.agg (wordsV (zeroW 64)).toArray) w := by kernel_rfl

set_option maxRecDepth 100000 in
set_option maxHeartbeats 400000 in
theorem spread_any (b : List UInt8) (hb : b.length = 64) (w : World) :
    Calls Tryd.prog 21 #[.agg (bytesV b).toArray] w fun e w' => e = .returned (.agg (wordsV (sched b 48)).toArray) ∧ Below w.heap.size w w' := by
  have HB := Lib.hid hb
  clear hb
  go_enter Tryd.func21, Tryd.ntmps21
  go_wp2_with (first
    | ((with_reducible show wpList _ _ _ (⟨some 1, _, _, _, _, _⟩ :: _) _ _); refine box_row rfl 46 (.tmp 0) (bytesV b) rfl rfl ?_; intro w1 hr1 hbel1 hsz1; have HS1 := Lib.hid hsz1; clear hsz1)
    | ((with_reducible show wpList _ _ _ (⟨some 2, _, _, _, _, _⟩ :: _) _ _); refine alloc_row rfl 42 (wordsV (zeroW 64)) rfl zero_64w ?_; intro w2 hr2 hbel2 hsz2; have HS2 := Lib.hid hsz2; clear hsz2)
    | ((with_reducible show wpList _ _ _ (⟨some 3, _, _, _, _, _⟩ :: _) _ _); refine alloc_row rfl 42 (wordsV (zeroW 64)) rfl zero_64w ?_; intro w3 hr3 hbel3 hsz3; have HS3 := Lib.hid hsz3; clear hsz3))
  have hb2 := hbel1.trans (hbel2.mono (by have := HS1.out; omega))
  have hb3 := hb2.trans (hbel3.mono (by have := HS1.out; have := HS2.out; omega))
  have hr1' := (hr1.below hbel2).below hbel3
  have hr2' := hr2.below hbel3
  have hl1 := hr1'.lt
  have hl2 := hr2'.lt
  have hl3 := hr3.lt
  have hne12 : w.heap.size ≠ w1.heap.size := by have := HS1.out; omega
  have hne13 : w.heap.size ≠ w2.heap.size := by have := HS1.out; have := HS2.out; omega
  have hne23 : w1.heap.size ≠ w2.heap.size := by have := HS2.out; omega
  have hg1 : w.heap.size ≤ w1.heap.size := by have := HS1.out; omega
  have hg2 : w.heap.size ≤ w2.heap.size := by have := HS1.out; have := HS2.out; omega
  clear hbel1 hbel2 hbel3 hr1 hr2 hb2
  generalize w1.heap.size = g2 at *
  generalize w2.heap.size = g3 at *
  go_loopg [11] 16 (fun gh v W => ∃ (t : Nat) (m : List UInt32), gh + t = 16 ∧ v = .int .i64 t ∧ m.length = 64 ∧ Hid (m.take t = (first16 b).take t) ∧ RowAt W g3 42 (wordsV m) ∧ RowAt W w.heap.size 46 (bytesV b) ∧ RowAt W g2 42 (wordsV (zeroW 64)) ∧ Below w.heap.size w W)
  case atStart => exact ⟨0, zeroW 64, rfl, rfl, by simp [zeroW], rfl, hr3, hr1', hr2', hb3⟩
  case round =>
    obtain ⟨t, m, hg, rfl, hm, htk, hrm, hrb, hrz, hbel⟩ := hrel
    have HG := Lib.hid hg
    have HM := Lib.hid hm
    have ht16 : t ≤ 16 := by omega
    clear hg hm hr3 hr1' hr2' hb3
    by_cases ht : t < 16
    · have hbl := HB.out
      have hbc : ∀ i, i < 64 → wr.cell? ⟨w.heap.size, i, none⟩ = some (.int .u8 ((b.getD i 0).toNat : Int)) := fun i hi => hrb.cell i (by simp [bytesV, B, hbl, hi])
      have c0 := hbc (4 * t) (by omega)
      have c1 := hbc (4 * t + 1) (by omega)
      have c2 := hbc (4 * t + 2) (by omega)
      have c3 := hbc (4 * t + 3) (by omega)
      have hml : t < m.length := by have := HM.out; omega
      have cm : wr.cell? ⟨g3, t, none⟩ = some (.int .u32 ((m.getD t 0).toNat : Int)) := hrm.cell t (by simp [wordsV, U, hml])
      have fm := hrm.free t
      have HW := Lib.hid (first16_getD b t ht)
      clear hbc hbl hml
      generalize b.getD (4 * t) 0 = x0 at *
      generalize b.getD (4 * t + 1) 0 = x1 at *
      generalize b.getD (4 * t + 2) 0 = x2 at *
      generalize b.getD (4 * t + 3) 0 = x3 at *
      generalize m.getD t 0 = xm at *
      have hsl := fun W => run_slice_from Tryd.underlying46 size_byte w.heap.size 0 (4 * (t : Int)) (4 * t) (by omega) (by omega) W
      rw [Nat.zero_add] at hsl
      go_wp2
      go_region
      go_wp2
      go_roundg (gk - 1)
      case measure => have := HG.out; omega
      case rel =>
        have hm := HM.out
        refine ⟨t + 1, m.set t (word4 x0 x1 x2 x3), by have := HG.out; omega, by go_num, by simpa using hm, take_set_one htk.out (by omega) (by simp [first16]; omega) HW.out.symm, ?_, ?_, ?_, ?_⟩
        · rw [word_form]
          have := (hrm.set t (U (word4 x0 x1 x2 x3))).drew
          unfold wordsV at this ⊢
          rw [List.map_set]
          exact this
        · exact (hrb.other (by simpa using hne13) _).drew
        · exact (hrz.other (by simpa using hne23) _).drew
        · exact (hbel.setCell (by simpa using hg2) _).drew
    · obtain rfl : t = 16 := by omega
      have h16 : m.take 16 = sched b 0 := by
        have := htk.out
        rw [List.take_of_length_le (l := first16 b) (by simp [first16])] at this
        exact this
      have H16 := Lib.hid h16
      clear h16 htk
      go_wp2
      go_loopg [6] 48 (fun gh v W => ∃ (k : Nat) (m : List UInt32), gh + k = 48 ∧ v = .int .i64 (16 + (k : Int)) ∧ m.length = 64 ∧ Hid (m.take (16 + k) = sched b k) ∧ RowAt W g3 42 (wordsV m) ∧ RowAt W g2 42 (wordsV (zeroW 64)) ∧ Below w.heap.size w W)
      case atStart => exact ⟨0, m, rfl, rfl, HM.out, H16.out, hrm, hrz, hbel⟩
      case round =>
        obtain ⟨k, m, hg, rfl, hm, htk, hrm, hrz, hbel⟩ := hrel
        have HG := Lib.hid hg
        have HM := Lib.hid hm
        have hk48 : k ≤ 48 := by omega
        clear hg hm
        by_cases hk : k < 48
        · have hcm : ∀ i, i < 64 → wr.cell? ⟨g3, i, none⟩ = some (.int .u32 ((m.getD i 0).toNat : Int)) := fun i hi => hrm.cell i (by have := HM.out; simp [wordsV, U, this, hi])
          have c2 := hcm (14 + k) (by omega)
          have c15 := hcm (1 + k) (by omega)
          have c7 := hcm (9 + k) (by omega)
          have c16 := hcm k (by omega)
          have cm := hcm (16 + k) (by omega)
          have d2 : wr.cell? ⟨g3, 16 + k - 2, none⟩ = some (.int .u32 ((m.getD (14 + k) 0).toNat : Int)) := by rw [show 16 + k - 2 = 14 + k from by omega]; exact c2
          have d15 : wr.cell? ⟨g3, 16 + k - 15, none⟩ = some (.int .u32 ((m.getD (1 + k) 0).toNat : Int)) := by rw [show 16 + k - 15 = 1 + k from by omega]; exact c15
          have d7 : wr.cell? ⟨g3, 16 + k - 7, none⟩ = some (.int .u32 ((m.getD (9 + k) 0).toNat : Int)) := by rw [show 16 + k - 7 = 9 + k from by omega]; exact c7
          have d16 : wr.cell? ⟨g3, 16 + k - 16, none⟩ = some (.int .u32 ((m.getD k 0).toNat : Int)) := by rw [show 16 + k - 16 = k from by omega]; exact c16
          have fm := hrm.free (16 + k)
          have hnx : nextW (sched b k) = ((sig1 (m.getD (14 + k) 0) + m.getD (9 + k) 0) + sig0 (m.getD (1 + k) 0)) + m.getD k 0 := by
            have h := htk.out
            have hl := sched_length b k
            unfold nextW
            rw [hl, getD_of_take h (by omega), getD_of_take h (by omega), getD_of_take h (by omega), getD_of_take h (by omega)]
            rw [show 16 + k - 2 = 14 + k from by omega, show 16 + k - 7 = 9 + k from by omega, show 16 + k - 15 = 1 + k from by omega, show 16 + k - 16 = k from by omega]
          have HN := Lib.hid hnx
          clear hnx hcm
          generalize m.getD (14 + k) 0 = y2 at *
          generalize m.getD (1 + k) 0 = y15 at *
          generalize m.getD (9 + k) 0 = y7 at *
          generalize m.getD k 0 = y16 at *
          generalize m.getD (16 + k) 0 = y0 at *
          go_wp2
          go_region
          all_goals (
            go_wp2_with (go_at_call 22; go_must (refine (right_lit _ _ _ (by omega) (by omega)).mono ?_); rintro e w4 ⟨rfl, rfl⟩)
            go_region
            go_wp2
            go_roundg (gk - 1)
            case measure => have := HG.out; omega
            case rel =>
              have hm := HM.out
              have hl := sched_length b k
              refine ⟨k + 1, m.set (16 + k) (nextW (sched b k)), by have := HG.out; omega, by go_num, by simpa using hm, ?_, ?_, ?_, ?_⟩
              · have := take_set_app (m := m) (l := sched b k) (x := nextW (sched b k)) (by rw [hl]; exact htk.out) (by omega)
                rw [hl] at this
                exact this
              · rw [next_form, ← HN.out]
                have := ((hrm.set (16 + k) (U (nextW (sched b k)))).drew).drew
                unfold wordsV at this ⊢
                rw [List.map_set]
                exact this
              · exact ((hrz.other (by simpa using hne23) _).drew).drew
              · exact ((hbel.setCell (by simpa using hg2) _).drew).drew)
        · obtain rfl : k = 48 := by omega
          have hfin : m = sched b 48 := by
            have h := htk.out
            rw [List.take_of_length_le (by have := HM.out; omega)] at h
            exact h
          obtain ⟨cs, hcs⟩ : ∃ cs, cs = wordsV m := ⟨_, rfl⟩
          rw [← hcs] at hrm
          have hl48 : cs.length = 64 := by rw [hcs, hfin, wordsV_length, sched_length]
          have HL := Lib.hid hl48
          have hone := Lib.hid (show ∀ v ∈ cs, v.oneCell' = true by rw [hcs]; exact wordsV_one m)
          have HCS := Lib.hid (show cs = wordsV (sched b 48) by rw [hcs, hfin])
          clear hl48 htk hfin hcs ht ht16
          go_wp2_with (first
            | ((with_reducible show wpList _ _ _ (⟨some 85, _, _, _, _, _⟩ :: _) _ _); refine load_row rfl 42 (.tmp 3) rfl g3 42 cs _ rfl hrm Tryd.underlying42 rfl (by rw [HL.out]; exact info_64w) ?_)
            | ((with_reducible show wpList _ _ _ (⟨none, .store 42 _ _, _, _, _, _⟩ :: _) _ _); refine store_row rfl 42 (.tmp 2) (.tmp 85) rfl g2 42 (wordsV (zeroW 64)) cs rfl rfl hrz (by rw [HL.out, wordsV_length]; rfl) (by rw [HL.out]; exact info_64w) hone.out ?_; intro w5 hr5 hgr5 hsz5))
          exact bodyPost_ret (results_row rfl _ _ g2 42 cs _ rfl hr5 Tryd.underlying42 rfl (by rw [HL.out]; exact info_64w)) rfl ⟨by rw [HCS.out], hbel.grown hgr5 hbel.size (fun k hk => by simp at hk; omega)⟩
#print axioms spread_any
end Go.Proofs.YtkjgcgdfofheeaaDoor
