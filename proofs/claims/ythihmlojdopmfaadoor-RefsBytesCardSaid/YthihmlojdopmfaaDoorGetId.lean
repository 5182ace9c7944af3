/-
 The walk of GetId: what stands at a place of bytes, read as an id.
-/
import Derived.Test.YthihmlojdopmfaaDoorGrp2
import Derived.Test.YthihmlojdopmfaaDoorGrp1
import Derived.Laws.Cover3
namespace Go.Proofs.YthihmlojdopmfaaDoor
open Go.RowKit

set_option maxRecDepth 100000 in
set_option maxHeartbeats 400000 in
theorem getId_any (a : Option Addr) (n c : Nat) (l : List UInt8) (at_ : Int) (w : World) (hb : Bytes w a n c l) :
  Calls Tryd.prog 67 #[.slice a n c, .int .i64 at_] w (IdIs (getD_ l at_) w) := by
 have HB := Lib.hid hb
 obtain ⟨hl, hnc, hc63, hcell⟩ := hb
 by_cases hneg : at_ < 0
 ·have hR : getD_ l at_ = (idZero, 0, 1) := by unfold getD_; rw [if_pos (.inl hneg)]
  have HR := Lib.hid hR
  clear hR hl hcell
  go_enter Tryd.func67, Tryd.ntmps67
  go_wp2_with (first | (refine alloc_id rfl rfl ?_; intro w1 hid1 hbel1 hsz1) | (refine build_id rfl rfl ?_) | (refine store_id rfl (.tmp 4) (.tmp 16) rfl _ _ idZero rfl rfl hid1 idZero_length ?_; intro w2 hid2 hgr2 hsz2))
  exact bodyPost_ret (results_id3 rfl _ _ w.heap.size idZero rfl hid2) rfl ⟨by rw [HR.out]; rfl, hbel1.grown hgr2 (by omega) (fun k hk => by simp at hk; omega)⟩
 ·by_cases hbig : (n : Int) < at_
  ·have hR : getD_ l at_ = (idZero, 0, 1) := by unfold getD_; rw [if_pos (.inr (by omega))]
   have HR := Lib.hid hR
   clear hR hl hcell
   go_enter Tryd.func67, Tryd.ntmps67
   go_wp2_with (first | (refine alloc_id rfl rfl ?_; intro w1 hid1 hbel1 hsz1) | (refine build_id rfl rfl ?_) | (refine store_id rfl (.tmp 4) (.tmp 16) rfl _ _ idZero rfl rfl hid1 idZero_length ?_; intro w2 hid2 hgr2 hsz2))
   exact bodyPost_ret (results_id3 rfl _ _ w.heap.size idZero rfl hid2) rfl ⟨by rw [HR.out]; rfl, hbel1.grown hgr2 (by omega) (fun k hk => by simp at hk; omega)⟩
  ·obtain ⟨k, rfl⟩ := Int.eq_ofNat_of_zero_le (show 0 ≤ at_ by omega)
   by_cases hfew : (n : Int) - k < 32
   ·have hR : getD_ l k = (idZero, 0, 6) := by unfold getD_; rw [if_neg (by omega), if_pos (by omega)]
    have HR := Lib.hid hR
    clear hR hl hcell
    go_enter Tryd.func67, Tryd.ntmps67
    go_wp2_with (first | (refine alloc_id rfl rfl ?_; intro w1 hid1 hbel1 hsz1) | (refine build_id rfl rfl ?_) | (refine store_id rfl (.tmp 4) (.tmp 23) rfl _ _ idZero rfl rfl hid1 idZero_length ?_; intro w2 hid2 hgr2 hsz2))
    exact bodyPost_ret (results_id3 rfl _ _ w.heap.size idZero rfl hid2) rfl ⟨by rw [HR.out]; rfl, hbel1.grown hgr2 (by omega) (fun k hk => by simp at hk; omega)⟩
   ·have hR : getD_ l k = ((l.drop k).take 32, k + 32, 0) := by unfold getD_; rw [if_neg (by omega), if_neg (by omega)]; simp
    have HR := Lib.hid hR
    obtain ⟨b, off, rfl⟩ : ∃ b off, a = some ⟨b, off, none⟩ := by
     rcases hcell with ⟨h, _⟩ | ⟨b, off, rfl, _⟩
     ·omega
     ·exact ⟨b, off, rfl⟩
    have hl32 : ((l.drop k).take 32).length = 32 := by simp; omega
    have HL := Lib.hid hl32
    have hArr := fun W => run_arrayAt (P := Tryd.prog) W 24 5 32 (some ⟨b, off + k, none⟩) 32 (c - k) Tryd.underlying24 (Nat.le_refl _)
    have hck : ¬ c = k := by omega
    have hk : k + 32 ≤ n := by omega
    clear hR hl hcell hl32 hneg hbig hfew
    go_enter Tryd.func67, Tryd.ntmps67
    go_wp2_with (first | (refine alloc_id rfl rfl ?_; intro w1 hid1 hbel1 hsz1) | (refine load_mid rfl (.tmp 29) rfl b (off + k) ((l.drop k).take 32) rfl HL.out ?_ ?_) | (refine store_id rfl (.tmp 4) (.tmp 30) rfl _ _ ((l.drop k).take 32) rfl rfl hid1 HL.out ?_; intro w2 hid2 hgr2 hsz2))
    case refine_1 => exact ((HB.out.below hbel1).cut k 32 hk).cells
    exact bodyPost_ret (results_id3 rfl _ _ w.heap.size _ rfl hid2) rfl ⟨by rw [HR.out]; rfl, hbel1.grown hgr2 (by omega) (fun k hk => by simp at hk; omega)⟩
end Go.Proofs.YthihmlojdopmfaaDoor
