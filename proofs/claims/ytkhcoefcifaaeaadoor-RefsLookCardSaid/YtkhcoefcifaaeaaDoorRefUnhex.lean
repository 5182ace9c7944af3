/-
  The walk of the document's own Unhex.
-/
import Derived.Test.YtkhcoefcifaaeaaDoorGrp13
import Derived.BigQuiet
import Derived.Deep.QuietTactic
namespace Go.Proofs.YtkhcoefcifaaeaaDoor
open Go.RowKit

theorem IdAt.drewN {w : World} {g : Nat} {l : List UInt8} (h : IdAt w g l) (n : Nat) : IdAt (w.drewN n) g l := h
theorem below_drewN {base : Nat} {w w' : World} (h : Below base w w') (n : Nat) : Below base w (w'.drewN n) := ⟨h.os, h.tape, h.output, h.size, h.block⟩

theorem byte_two (d0 d1 : Nat) (h0 : d0 < 16) (h1 : d1 < 16) : 16 * (d0 : Int) + (d1 : Int) = (((UInt8.ofNat (16 * d0 + d1)).toNat : Nat) : Int) := by
  simp only [UInt8.toNat_ofNat']; omega

set_option maxRecDepth 100000 in
set_option maxHeartbeats 2000000 in
theorem refUnhex_any (s : ByteArray) (w : World) :
    Calls Tryd.prog 21 #[.string s] w (UnhexIs s.data.toList w) := by
  obtain ⟨sl, hsl⟩ : ∃ sl, sl = s.data.toList := ⟨_, rfl⟩
  rw [← hsl]
  have HSL := Lib.hid hsl
  have hsz : s.size = sl.length := by rw [hsl]; simp
  have HSZ := Lib.hid hsz
  clear hsl
  by_cases h64 : sl.length = 64
  · have hs64 : s.size = 64 := by omega
    have hf : ((s.size : Int) != 64) = false := by rw [hs64]; rfl
    have H64 := Lib.hid h64
    have HS64 := Lib.hid hs64
    clear hsz h64 hs64
    go_enter Tryd.func21, Tryd.ntmps21
    go_wp2_with (first
      | ((with_reducible show wpList _ _ _ (⟨some 2, _, _, _, _, _⟩ :: _) _ _); refine alloc_id rfl rfl ?_; intro w2 hid2 hbel2 hsz2; have HS2 := Lib.hid hsz2; clear hsz2)
      | ((with_reducible show wpList _ _ _ (⟨some 4, _, _, _, _, _⟩ :: _) _ _); refine alloc_id rfl rfl ?_; intro w4 hid4 hbel4 hsz4; have HS4 := Lib.hid hsz4; clear hsz4))
    have e2 := hid2.below hbel4
    have hb4 : Below w.heap.size w w4 := hbel2.trans (hbel4.mono hbel2.size)
    obtain ⟨g5, hg5⟩ : ∃ g, g = w2.heap.size := ⟨_, rfl⟩
    have HG5 := Lib.hid (show g5 = w.heap.size + 1 by have := HS2.out; omega)
    rw [← hg5] at hid4 ⊢
    clear hid2 hbel2 hbel4 HS2 HS4 hg5
    go_loopg [5] 32 (fun gh v5 W => ∃ i : Nat, gh + i = 32 ∧ v5 = .int .i64 i ∧ Hid (allD sl (2 * i)) ∧ IdAt W g5 (fillD sl i) ∧ IdAt W w.heap.size idZero ∧ Below w.heap.size w W)
    case atStart => exact ⟨0, rfl, rfl, (fun j hj => by omega), hid4, e2, hb4⟩
    case round =>
      obtain ⟨i, hg, rfl, hall, hr5, hr2, hbel⟩ := hrel
      have HG := Lib.hid hg
      have hi32 : i ≤ 32 := by omega
      clear hg hid4 e2 hb4
      by_cases hi : i < 32
      · have hib : decide ((i : Int) < 32) = true := by simp; omega
        have hl0 : 2 * i < s.size := by have := HS64.out; omega
        have hl1 : 2 * i + 1 < s.size := by have := HS64.out; omega
        have HD0 := Lib.hid (show digV (sl.getD (2 * i) 0) = digV (s[2 * i]'hl0) by rw [HSL.out, List.getD_eq_getElem?_getD, Array.getElem?_toList, Array.getElem?_eq_getElem hl0]; rfl)
        have HD1 := Lib.hid (show digV (sl.getD (2 * i + 1) 0) = digV (s[2 * i + 1]'hl1) by rw [HSL.out, List.getD_eq_getElem?_getD, Array.getElem?_toList, Array.getElem?_eq_getElem hl1]; rfl)
        have hn1 : (2 * (i : Int) + 1).toNat = 2 * i + 1 := by omega
        have hn0 : (2 * (i : Int)).toNat = 2 * i := by omega
        have hp1 : (0 : Int) ≤ 2 * (i : Int) + 1 := by omega
        have hp0 : (0 : Int) ≤ 2 * (i : Int) := by omega
        have hq1 : 2 * (i : Int) + 1 < s.size := by omega
        have hq0 : 2 * (i : Int) < s.size := by omega
        have hw1 : IntKind.i64.wrap (2 * (i : Int) + 1) = 2 * (i : Int) + 1 := by rw [IntKind.wrap_i64]; omega
        have hw0 : IntKind.i64.wrap (2 * (i : Int)) = 2 * (i : Int) := by rw [IntKind.wrap_i64]; omega
        go_wp2
        go_quiet ((go_at_call 40; exact Calls.quiet_of_same ((refDigit_any _ _).mono (fun e w' h => ⟨h.1, h.2.symm⟩))))
        obtain ⟨w6, hw6⟩ : ∃ w6, w6 = wr.drewN nq := ⟨_, rfl⟩
        have f5 : IdAt w6 g5 (fillD sl i) := by rw [hw6]; exact hr5.drewN nq
        have f2 : IdAt w6 w.heap.size idZero := by rw [hw6]; exact hr2.drewN nq
        have fb : Below w.heap.size w w6 := by rw [hw6]; exact below_drewN hbel nq
        rw [← hw6, ← HD0.out, ← HD1.out]
        generalize (s[2 * i]'(_)) = z0
        generalize (s[2 * i + 1]'(_)) = z1
        clear hn1 hn0 hp1 hp0 hq1 hq0 hw1 hw0 hw6 hr5 hr2 hbel HD0 HD1 hl0 hl1
        have r0 := digV_range (sl.getD (2 * i) 0)
        have r1 := digV_range (sl.getD (2 * i + 1) 0)
        obtain ⟨x0, hx0⟩ : ∃ x, x = digV (sl.getD (2 * i) 0) := ⟨_, rfl⟩
        obtain ⟨x1, hx1⟩ : ∃ x, x = digV (sl.getD (2 * i + 1) 0) := ⟨_, rfl⟩
        rw [← hx0, ← hx1]
        rw [← hx0] at r0
        rw [← hx1] at r1
        have HX0 := Lib.hid hx0
        have HX1 := Lib.hid hx1
        clear hx0 hx1
        by_cases h0 : x0 < 0
        · have HNO := Lib.hid (unhex_no (s := sl) (fun h => not_allD (j := 2 * i) (by omega) (by rw [← HX0.out]; exact h0) h.2))
          have hb0 : decide (x0 < 0) = true := by simpa using h0
          clear r0 r1
          go_wp2_with (first
            | ((with_reducible show wpList _ _ _ (⟨some 33, _, _, _, _, _⟩ :: _) _ _); refine build_id rfl rfl ?_)
            | ((with_reducible show wpList _ _ _ (⟨none, .store 24 _ _, _, _, _, _⟩ :: _) _ _); refine store_id rfl (.tmp 2) (.tmp 33) rfl _ _ idZero rfl rfl f2 idZero_length ?_; intro w9 hid9 hgr9 hsz9))
          exact bodyPost_ret (results_id2 rfl _ _ w.heap.size idZero rfl hid9) rfl ⟨by rw [HNO.out.1, HNO.out.2]; rfl, fb.grown hgr9 fb.size (fun k hk => by simp at hk; omega)⟩
        · by_cases h1 : x1 < 0
          · have HNO := Lib.hid (unhex_no (s := sl) (fun h => not_allD (j := 2 * i + 1) (by omega) (by rw [← HX1.out]; exact h1) h.2))
            have hb0 : decide (x0 < 0) = false := by simpa using h0
            have hb1 : decide (x1 < 0) = true := by simpa using h1
            clear r0 r1
            go_wp2_with (first
              | ((with_reducible show wpList _ _ _ (⟨some 33, _, _, _, _, _⟩ :: _) _ _); refine build_id rfl rfl ?_)
              | ((with_reducible show wpList _ _ _ (⟨none, .store 24 _ _, _, _, _, _⟩ :: _) _ _); refine store_id rfl (.tmp 2) (.tmp 33) rfl _ _ idZero rfl rfl f2 idZero_length ?_; intro w9 hid9 hgr9 hsz9))
            exact bodyPost_ret (results_id2 rfl _ _ w.heap.size idZero rfl hid9) rfl ⟨by rw [HNO.out.1, HNO.out.2]; rfl, fb.grown hgr9 fb.size (fun k hk => by simp at hk; omega)⟩
          · obtain ⟨d0, hd0⟩ := Int.eq_ofNat_of_zero_le (show 0 ≤ x0 by omega)
            obtain ⟨d1, hd1⟩ := Int.eq_ofNat_of_zero_le (show 0 ≤ x1 by omega)
            subst hd0
            subst hd1
            have h016 : d0 < 16 := by omega
            have h116 : d1 < 16 := by omega
            have hcell : w6.cell? ⟨g5, i, none⟩ = some (.int .u8 0) := by
              have := f5.cell i hi
              rw [fillD_get sl i hi] at this
              exact this
            have hfree := f5.free i
            have HBV := Lib.hid (byte_two d0 d1 h016 h116)
            have HBD := Lib.hid (show byteD sl i = UInt8.ofNat (16 * d0 + d1) by unfold byteD; rw [← HX0.out, ← HX1.out]; simp)
            have HALL := Lib.hid (show allD sl (2 * (i + 1)) from allD_next (k := 2 * i + 1) (allD_next (k := 2 * i) hall.out (by rw [← HX0.out]; omega)) (by rw [← HX1.out]; omega))
            clear r0 r1 h0 h1 hall
            go_wp2
            go_roundg (gk - 1)
            case measure => have := HG.out; omega
            case rel =>
              refine ⟨i + 1, by have := HG.out; omega, by go_num, HALL.out, ?_, f2.other (by have := HG5.out; show _ ≠ g5; omega) _, fb.setCell (by have := HG5.out; show _ ≤ g5; omega) _⟩
              have h1 := f5.set i (byteD sl i)
              rw [fillD_next sl i hi, HBD.out] at h1
              unfold B at h1
              rw [← HBV.out] at h1
              exact h1
      · obtain rfl : i = 32 := by omega
        have HY := Lib.hid (unhex_yes H64.out hall.out)
        have hl32 := Lib.hid (fillD_length sl 32 (Nat.le_refl _))
        clear hall hi
        go_wp2_with (first
          | ((with_reducible show wpList _ _ _ (⟨some 41, _, _, _, _, _⟩ :: _) _ _); refine load_id rfl (.tmp 4) rfl _ _ rfl hr5 ?_)
          | ((with_reducible show wpList _ _ _ (⟨none, .store 24 _ _, _, _, _, _⟩ :: _) _ _); refine store_id rfl (.tmp 2) (.tmp 41) rfl _ _ (fillD sl 32) rfl rfl hr2 hl32.out ?_; intro w9 hid9 hgr9 hsz9))
        exact bodyPost_ret (results_id2 rfl _ _ w.heap.size _ rfl hid9) rfl ⟨by rw [HY.out.1, HY.out.2]; rfl, hbel.grown hgr9 hbel.size (fun k hk => by simp at hk; omega)⟩
  · have hf : ((s.size : Int) != 64) = true := by rw [bne_iff_ne]; omega
    have HN := Lib.hid (unhex_no (s := sl) (fun h => h64 h.1))
    clear hsz h64
    go_enter Tryd.func21, Tryd.ntmps21
    go_wp2_with (first
      | ((with_reducible show wpList _ _ _ (⟨some 2, _, _, _, _, _⟩ :: _) _ _); refine alloc_id rfl rfl ?_; intro w2 hid2 hbel2 hsz2; have HS2 := Lib.hid hsz2; clear hsz2)
      | ((with_reducible show wpList _ _ _ (⟨some 4, _, _, _, _, _⟩ :: _) _ _); refine alloc_id rfl rfl ?_; intro w4 hid4 hbel4 hsz4; have e2 := hid2.below hbel4; have hb4 : Below w.heap.size w w4 := hbel2.trans (hbel4.mono hbel2.size))
      | ((with_reducible show wpList _ _ _ (⟨some 11, _, _, _, _, _⟩ :: _) _ _); refine load_id rfl (.tmp 4) rfl _ _ rfl hid4 ?_)
      | ((with_reducible show wpList _ _ _ (⟨none, .store 24 _ _, _, _, _, _⟩ :: _) _ _); refine store_id rfl (.tmp 2) (.tmp 11) rfl _ _ idZero rfl rfl e2 idZero_length ?_; intro w9 hid9 hgr9 hsz9))
    exact bodyPost_ret (results_id2 rfl _ _ w.heap.size idZero rfl hid9) rfl ⟨by rw [HN.out.1, HN.out.2]; rfl, hb4.grown hgr9 hb4.size (fun k hk => by simp at hk; omega)⟩
#print axioms refUnhex_any
end Go.Proofs.YtkhcoefcifaaeaaDoor
