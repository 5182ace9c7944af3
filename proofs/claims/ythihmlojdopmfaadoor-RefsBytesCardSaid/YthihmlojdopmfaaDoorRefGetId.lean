/-
 The walk of the document's own GetId.
-/
import Derived.Test.YthihmlojdopmfaaDoorGrp2
import Derived.Test.YthihmlojdopmfaaDoorGrp1
import Derived.Deep.LoopGhost
namespace Go.Proofs.YthihmlojdopmfaaDoor
open Go.RowKit

set_option maxRecDepth 100000 in
set_option maxHeartbeats 400000 in
theorem refGetId_any (a : Option Addr) (n c : Nat) (l : List UInt8) (at_ : Int) (w : World) (hb : Bytes w a n c l) :
  Calls Tryd.prog 49 #[.slice a n c, .int .i64 at_] w (IdIs (getD_ l at_) w) := by
 have HB := Lib.hid hb
 obtain ⟨hl, hnc, hc63, hcell⟩ := hb
 have hcase : (at_ < 0 ∨ (0 ≤ at_ ∧ (n : Int) < at_)) ∨ (0 ≤ at_ ∧ at_ ≤ n ∧ (n : Int) - at_ < 32) ∨ (0 ≤ at_ ∧ at_ ≤ n ∧ ¬ (n : Int) - at_ < 32) := by omega
 rcases hcase with hout | ⟨hk0, hkn, hfew⟩ | ⟨hk0, hkn, hfew⟩
 ·have hR : getD_ l at_ = (idZero, 0, 1) := by unfold getD_; rw [if_pos (by omega)]
  have HR := Lib.hid hR
  clear hR hl hcell
  rcases hout with hneg | ⟨hneg, hbig⟩
  all_goals
   go_enter Tryd.func49, Tryd.ntmps49
   go_wp2_with (first
    | (refine alloc_id (o := ⟨some 4, _, _, _, _, _⟩) rfl rfl ?_; intro w1 hid1 hbel1 hsz1; have HS1 := Lib.hid hsz1; clear hsz1)
    | (refine alloc_id (o := ⟨some 7, _, _, _, _, _⟩) rfl rfl ?_; intro w2 hid2 hbel2 hsz2; have HS2 := Lib.hid hsz2; clear hsz2; have hid1' := hid1.below hbel2)
    | (refine load_id rfl (.tmp 7) rfl _ _ rfl hid2 ?_)
    | (refine store_id rfl (.tmp 4) (.tmp 17) rfl _ _ idZero rfl rfl hid1' idZero_length ?_; intro w3 hid3 hgr3 hsz3))
   have hs1 := HS1.out
   have hs2 := HS2.out
   exact bodyPost_ret (results_id3 rfl _ _ w.heap.size idZero rfl hid3) rfl ⟨by rw [HR.out]; rfl, (hbel1.trans (hbel2.mono (by omega))).grown hgr3 (by omega) (fun k hk => by simp at hk; omega)⟩
 ·have hR : getD_ l at_ = (idZero, 0, 6) := by unfold getD_; rw [if_neg (by omega), if_pos (by omega)]
  have HR := Lib.hid hR
  clear hR hl hcell
  go_enter Tryd.func49, Tryd.ntmps49
  go_wp2_with (first
   | (refine alloc_id (o := ⟨some 4, _, _, _, _, _⟩) rfl rfl ?_; intro w1 hid1 hbel1 hsz1; have HS1 := Lib.hid hsz1; clear hsz1)
   | (refine alloc_id (o := ⟨some 7, _, _, _, _, _⟩) rfl rfl ?_; intro w2 hid2 hbel2 hsz2; have HS2 := Lib.hid hsz2; clear hsz2; have hid1' := hid1.below hbel2)
   | (refine load_id rfl (.tmp 7) rfl _ _ rfl hid2 ?_)
   | (refine store_id rfl (.tmp 4) (.tmp 23) rfl _ _ idZero rfl rfl hid1' idZero_length ?_; intro w3 hid3 hgr3 hsz3))
  have hs1 := HS1.out
  have hs2 := HS2.out
  exact bodyPost_ret (results_id3 rfl _ _ w.heap.size idZero rfl hid3) rfl ⟨by rw [HR.out]; rfl, (hbel1.trans (hbel2.mono (by omega))).grown hgr3 (by omega) (fun k hk => by simp at hk; omega)⟩
 ·obtain ⟨k, rfl⟩ := Int.eq_ofNat_of_zero_le hk0
  have hR : getD_ l k = ((l.drop k).take 32, k + 32, 0) := by unfold getD_; rw [if_neg (by omega), if_neg (by omega)]; simp
  have HR := Lib.hid hR
  obtain ⟨b, off, rfl⟩ : ∃ b off, a = some ⟨b, off, none⟩ := by
   rcases hcell with ⟨h, _⟩ | ⟨b, off, rfl, _⟩
   ·omega
   ·exact ⟨b, off, rfl⟩
  have hk : k + 32 ≤ n := by omega
  have HL := Lib.hid hl
  have t1 : decide (n < k) = false := by simp; omega
  have t2 : decide ((n : Int) - k < 32) = false := by simp; omega
  have t3 : decide ((k : Int) < 0) = false := by simp
  clear hR hcell hfew hk0 hkn hl
  go_enter Tryd.func49, Tryd.ntmps49
  go_wp2_with (first
   | (refine alloc_id (o := ⟨some 4, _, _, _, _, _⟩) rfl rfl ?_; intro w1 hid1 hbel1 hsz1; have HS1 := Lib.hid hsz1; clear hsz1)
   | (refine alloc_id (o := ⟨some 7, _, _, _, _, _⟩) rfl rfl ?_; intro w2 hid2 hbel2 hsz2; have HS2 := Lib.hid hsz2; clear hsz2; have hid1' := hid1.below hbel2))
  have hb2 := hbel1.trans (hbel2.mono (by have := HS1.out; omega))
  obtain ⟨g2, hg2⟩ : ∃ g2, g2 = w1.heap.size := ⟨_, rfl⟩
  rw [← hg2] at hid2 ⊢
  have hg2' : w.heap.size < g2 := by rw [hg2, HS1.out]; omega
  clear hg2
  go_loopg [8] 32 (fun g v8 W => ∃ (j : Nat) (m : List UInt8), g + j = 32 ∧ v8 = .int .i64 j ∧ IdAt W g2 m ∧ Hid (m.take j = (l.drop k).take j) ∧ IdAt W w.heap.size idZero ∧ Below w.heap.size w W)
  case atStart => exact ⟨0, idZero, rfl, rfl, hid2, rfl, hid1', hb2⟩
  case round =>
   obtain ⟨j, m, hg, rfl, hidm, htk, hidz, hbel⟩ := hrel
   have HG := Lib.hid hg
   have hj32 : j ≤ 32 := by omega
   clear hg
   by_cases hj : j < 32
   ·obtain ⟨x, hx0, hcx⟩ : ∃ x : UInt8, x = l.getD (k + j) 0 ∧ wr.cell? ⟨b, off + (k + j), none⟩ = some (.int .u8 (x.toNat : Int)) := ⟨_, rfl, (HB.out.below hbel).cells _ (by omega)⟩
    have hcm := hidm.cell j hj
    have hfm := hidm.free j
    have HX := Lib.hid hx0
    clear hx0
    go_wp2
    go_roundg (gk - 1)
    case measure => have := HG.out; omega
    case rel =>
     have hx := HX.out
     have hl := HL.out
     refine ⟨j + 1, m.set j x, by have := HG.out; omega, by go_num, hidm.set j x, take_set_next htk.out (by rw [hidm.1]; exact hj) (by simp; omega) ?_, hidz.other (by simp; omega) _, hbel.setCell (by simp; omega) _⟩
     rw [hx]; simp
   ·have hm : m = (l.drop k).take 32 := by
     have := htk.out
     obtain rfl : j = 32 := by omega
     rw [List.take_of_length_le (by rw [hidm.1]; omega)] at this
     exact this
    have hm32 := hidm.1
    have HM := Lib.hid hm
    have HM32 := Lib.hid hm32
    clear hm hm32
    go_wp2_with (first
     | (refine load_id rfl (.tmp 7) rfl _ _ rfl hidm ?_)
     | (refine store_id rfl (.tmp 4) (.tmp 36) rfl _ _ m rfl rfl hidz HM32.out ?_; intro w3 hid3 hgr3 hsz3))
    have hsz := hbel.size
    exact bodyPost_ret (results_id3 rfl _ _ w.heap.size _ rfl hid3) rfl ⟨by rw [HR.out, ← HM.out]; rfl, hbel.grown hgr3 hsz (fun k hk => by simp at hk; omega)⟩
end Go.Proofs.YthihmlojdopmfaaDoor
