/-
  Merged: RefName, RfRefList.
-/
import Derived.Test.YthihmlojdopmfaaDoorGrp8
import Derived.Test.YthihmlojdopmfaaDoorGrp1
import Derived.Test.YthihmlojdopmfaaDoorGrp2
import Derived.Test.YthihmlojdopmfaaDoorGrp10
import Derived.Test.YthihmlojdopmfaaDoorGrp13
import Derived.Laws.Cover1
import Derived.Sort.Walk0
namespace Go.Proofs.YthihmlojdopmfaaDoor
open Go.RowKit

set_option maxRecDepth 100000 in
set_option maxHeartbeats 1000000 in
theorem unhex_short (s : ByteArray) (w : World) (h : s.size ≠ 64) :
  Calls Tryd.prog 61 #[.string s] w fun e w' => e = .returned (.tuple #[.agg (idCells idZero), .bool false]) ∧ Below w.heap.size w w' := by
 have hf : ((s.size : Int) != 64) = true := by rw [bne_iff_ne]; omega
 clear h
 go_enter Tryd.func61, Tryd.ntmps61
 go_wp2_with (first
  | ((with_reducible refine atS 2 ?_); refine alloc_id rfl rfl ?_; intro w2 hid2 hbel2 hsz2; have HS2 := Lib.hid hsz2; clear hsz2)
  | ((with_reducible refine atS 4 ?_); refine alloc_id rfl rfl ?_; intro w4 hid4 hbel4 hsz4; have e2 := hid2.below hbel4; have hb4 : Below w.heap.size w w4 := hbel2.trans (hbel4.mono hbel2.size))
  | ((with_reducible refine atS 11 ?_); refine load_id rfl (.tmp 4) rfl _ _ rfl hid4 ?_)
  | ((with_reducible show wpList _ _ _ (⟨none, .store 24 _ _, _, _, _, _⟩ :: _) _ _); refine store_id rfl (.tmp 2) (.tmp 11) rfl _ _ idZero rfl rfl e2 idZero_length ?_; intro w9 hid9 hgr9 hsz9))
 exact bodyPost_ret (results_id2 rfl _ _ w.heap.size idZero rfl hid9) rfl ⟨rfl, hb4.grown hgr9 hb4.size (fun k hk => by simp at hk; omega)⟩

set_option maxRecDepth 100000 in
set_option maxHeartbeats 1000000 in
theorem refName_any (s : ByteArray) (w : World) :
  Calls Tryd.prog 37 #[.string s] w fun e w' => e = .returned (.bool (nameF s.data.toList)) ∧ Below w.heap.size w w' := by
 obtain ⟨r, hr⟩ : ∃ r, r = nameF s.data.toList := ⟨_, rfl⟩
 rw [← hr]
 rw [nameF_eq, b_len] at hr
 by_cases h1 : (s.size : Int) < 1
 ·have HX := Lib.hid (show r = false by rw [hr, decide_eq_false (p := 1 ≤ s.size) (by omega)]; rfl)
  clear hr
  go_enter Tryd.func37, Tryd.ntmps37
  go_wp2
  go_ret
  exact ⟨retBl HX.out.symm, Below.refl _ _⟩
 ·by_cases h2 : (32 : Int) < (s.size : Int)
  ·have HX := Lib.hid (show r = false by rw [hr, decide_eq_false (p := s.size ≤ 32) (by omega)]; simp)
   clear hr
   go_enter Tryd.func37, Tryd.ntmps37
   go_wp2
   go_ret
   exact ⟨retBl HX.out.symm, Below.refl _ _⟩
  ·have h0 : 0 < s.size := by omega
   have h0I : (0 : Int) < (s.size : Int) := by omega
   have hat := b_at s 0 h0
   have hr2 : r = (s.data.toList.all nmB && s.data.toList.getD 0 0 != 46 && s.data.toList.getD 0 0 != 45 && s.data.toList != [72, 69, 65, 68]) := by
    rw [hr, decide_eq_true (p := 1 ≤ s.size) (by omega), decide_eq_true (p := s.size ≤ 32) (by omega)]; rfl
   clear hr
   obtain ⟨q, hq⟩ : ∃ q, q = (s.toList == [72, 69, 65, 68]) := ⟨_, rfl⟩
   have hq2 : (s.data.toList != [72, 69, 65, 68]) = !q := by rw [hq, Lib.toList_data]; rfl
   rw [hq2] at hr2
   have hqs := hq.symm
   clear hq hq2
   rcases q
   ·by_cases g1 : ((s[0]'h0).toNat : Int) = 46
    ·have HX := Lib.hid (show r = false by
      rw [hr2, ← hat, show (s[0]'h0) = 46 from by apply UInt8.toNat_inj.1; show (s[0]'h0).toNat = 46; omega]; simp)
     clear hr2 hat
     go_enter Tryd.func37, Tryd.ntmps37
     go_wp2
     go_ret
     exact ⟨retBl HX.out.symm, Below.refl _ _⟩
    ·have n1 : ((s[0]'h0) != 46) = true := by rw [bne_iff_ne]; intro e; apply g1; rw [e]; rfl
     have g3 : (((s[0]'h0).toNat : Int) == 46) = false := by rw [beq_eq_false_iff_ne]; exact g1
     by_cases g2 : ((s[0]'h0).toNat : Int) = 45
     ·have HX := Lib.hid (show r = false by
       rw [hr2, ← hat, show (s[0]'h0) = 45 from by apply UInt8.toNat_inj.1; show (s[0]'h0).toNat = 45; omega]; simp)
      clear hr2 hat
      go_enter Tryd.func37, Tryd.ntmps37
      go_wp2
      go_ret
      exact ⟨retBl HX.out.symm, Below.refl _ _⟩
     ·have n2 : ((s[0]'h0) != 45) = true := by rw [bne_iff_ne]; intro e; apply g2; rw [e]; rfl
      have g4 : (((s[0]'h0).toNat : Int) == 45) = false := by rw [beq_eq_false_iff_ne]; exact g2
      have HX := Lib.hid (show r = s.data.toList.all nmB by rw [hr2, ← hat, n1, n2]; simp)
      have HA := Lib.hid (show (s.data.toList.take 0).all nmB = true from rfl)
      have HU := Lib.hid (fun w => unhex_short s w (by omega))
      clear hr2 hat n1 n2
      go_enter Tryd.func37, Tryd.ntmps37
      go_wp2
      go_loopg [3] s.size (fun g v3 W => ∃ (p : Nat), w = W ∧ v3 = .int .i64 p ∧ g + p = s.size ∧ Hid ((s.data.toList.take p).all nmB = true))
      case atStart => exact ⟨0, rfl, rfl, rfl, HA⟩
      case round =>
       obtain ⟨p, rfl, rfl, hg, hall⟩ := hrel
       have HG := Lib.hid hg
       have hpI : (p : Int) ≤ (s.size : Int) := by omega
       by_cases hp : (p : Int) < (s.size : Int)
       ·have hpn : p < s.size := by omega
        have hpl : p < s.data.toList.length := by rw [b_len]; exact hpn
        have hat := b_at s p hpn
        have HCI := Lib.hid (nameC_iff ((s[p]'hpn).toNat))
        have HPL := Lib.hid hpl
        have HAT := Lib.hid hat
        clear hg hpl hat
        by_cases x45 : ((s[p]'hpn).toNat : Int) = 45
        ·go_wp2
         all_goals first
          | (exfalso; simp only [Bool.not_eq_eq_eq_not, Bool.not_false, Bool.not_true, decide_eq_true_eq, decide_eq_false_iff_not] at *; omega)
          | (go_ret
             refine ⟨retBl ?_, Below.refl _ _⟩
             rw [HX.out]
             symm
             refine all_no HPL.out ?_
             unfold nmB
             rw [← HAT.out, Bool.eq_false_iff]
             intro h
             have := HCI.out.1 h
             omega)
          | (go_roundg (gk - 1)
             case measure => have := HG.out; omega
             case rel =>
              refine ⟨p + 1, rfl, by go_num, by have := HG.out; omega, Lib.hid ?_⟩
              rw [take_all HPL.out, hall.out]
              unfold nmB
              rw [← HAT.out, HCI.out.2 (by omega)]
              rfl)
        ·by_cases x95 : ((s[p]'hpn).toNat : Int) = 95
         ·go_wp2
          all_goals first
           | (exfalso; simp only [Bool.not_eq_eq_eq_not, Bool.not_false, Bool.not_true, decide_eq_true_eq, decide_eq_false_iff_not] at *; omega)
           | (go_ret
              refine ⟨retBl ?_, Below.refl _ _⟩
              rw [HX.out]
              symm
              refine all_no HPL.out ?_
              unfold nmB
              rw [← HAT.out, Bool.eq_false_iff]
              intro h
              have := HCI.out.1 h
              omega)
           | (go_roundg (gk - 1)
              case measure => have := HG.out; omega
              case rel =>
               refine ⟨p + 1, rfl, by go_num, by have := HG.out; omega, Lib.hid ?_⟩
               rw [take_all HPL.out, hall.out]
               unfold nmB
               rw [← HAT.out, HCI.out.2 (by omega)]
               rfl)
         ·by_cases x46 : ((s[p]'hpn).toNat : Int) = 46
          ·go_wp2
           all_goals first
            | (exfalso; simp only [Bool.not_eq_eq_eq_not, Bool.not_false, Bool.not_true, decide_eq_true_eq, decide_eq_false_iff_not] at *; omega)
            | (go_ret
               refine ⟨retBl ?_, Below.refl _ _⟩
               rw [HX.out]
               symm
               refine all_no HPL.out ?_
               unfold nmB
               rw [← HAT.out, Bool.eq_false_iff]
               intro h
               have := HCI.out.1 h
               omega)
            | (go_roundg (gk - 1)
               case measure => have := HG.out; omega
               case rel =>
                refine ⟨p + 1, rfl, by go_num, by have := HG.out; omega, Lib.hid ?_⟩
                rw [take_all HPL.out, hall.out]
                unfold nmB
                rw [← HAT.out, HCI.out.2 (by omega)]
                rfl)
          ·have y45 : (((s[p]'hpn).toNat : Int) == 45) = false := by rw [beq_eq_false_iff_ne]; exact x45
           have y95 : (((s[p]'hpn).toNat : Int) == 95) = false := by rw [beq_eq_false_iff_ne]; exact x95
           have y46 : (((s[p]'hpn).toNat : Int) == 46) = false := by rw [beq_eq_false_iff_ne]; exact x46
           go_wp2
           all_goals first
            | (exfalso; simp only [Bool.not_eq_eq_eq_not, Bool.not_false, Bool.not_true, decide_eq_true_eq, decide_eq_false_iff_not] at *; omega)
            | (go_ret
               refine ⟨retBl ?_, Below.refl _ _⟩
               rw [HX.out]
               symm
               refine all_no HPL.out ?_
               unfold nmB
               rw [← HAT.out, Bool.eq_false_iff]
               intro h
               have := HCI.out.1 h
               omega)
            | (go_roundg (gk - 1)
               case measure => have := HG.out; omega
               case rel =>
                refine ⟨p + 1, rfl, by go_num, by have := HG.out; omega, Lib.hid ?_⟩
                rw [take_all HPL.out, hall.out]
                unfold nmB
                rw [← HAT.out, HCI.out.2 (by omega)]
                rfl)
       ·have HE := Lib.hid (show s.data.toList.all nmB = true by
         have := hall.out
         rw [List.take_of_length_le (by rw [b_len]; omega)] at this
         exact this)
        clear hg
        go_wp2_with (first
         | (go_at_call 61; (with_reducible refine (HU.out _).mono ?_); rintro e w1 ⟨rfl, hb1⟩; have HB1 := Lib.hid hb1; clear hb1)
         | ((with_reducible refine atS 5 ?_); refine alloc_id rfl rfl ?_; intro w5 hid5 hbel5 hsz5; have HB5 := Lib.hid hbel5; have HI5 := Lib.hid hid5; clear hsz5 hbel5 hid5)
         | ((with_reducible show wpList _ _ _ (⟨none, .store 24 _ _, _, _, _, _⟩ :: _) _ _); refine store_id rfl (.tmp 5) (.tmp 76) rfl _ _ idZero rfl rfl HI5.out idZero_length ?_; intro w9 hid9 hgr9 hsz9; have HB9 := Lib.hid ((HB1.out.trans (HB5.out.mono HB1.out.size)).grown hgr9 (Nat.le_trans HB1.out.size HB5.out.size) (fun k hk => by cases hk; exact HB1.out.size)); clear hid9 hgr9 hsz9))
        go_ret
        exact ⟨retBl (by rw [HX.out, HE.out]), HB9.out⟩
   ·have HX := Lib.hid (show r = false by rw [hr2]; simp)
    clear hr2 hat
    go_enter Tryd.func37, Tryd.ntmps37
    go_wp2
    go_ret
    exact ⟨retBl HX.out.symm, Below.refl _ _⟩
end Go.Proofs.YthihmlojdopmfaaDoor

namespace Go.Proofs.YthihmlojdopmfaaDoor
open Go.RowKit

theorem refZero_any (l : List UInt8) (hl : l.length = 32) (q : Bool) (hq : decide (l = idZero) = q) (w : World) :
  Calls Tryd.prog 36 #[.agg (idCells l)] w fun e w' => e = .returned (.bool q) ∧ Below w.heap.size w w' := by
 have HL := Lib.hid hl
 have HI := Lib.hid (idAt_new w l hl)
 have HQ := Lib.hid hq
 have HB := Lib.hid ((Below.refl w.heap.size w).alloc (Nat.le_refl _) (.cells (idCells l) 24))
 clear hl hq
 go_enter Tryd.func36, Tryd.ntmps36
 go_wp2_with (first
  | ((with_reducible refine atS 3 ?_); go_must (refine wl_load rfl _ rfl _ _ l HL.out rfl HI.out.range ?_))
  | ((with_reducible refine atS 4 ?_); go_must (refine wl_ex rfl (exec_zid rfl) ?_))
  | ((with_reducible refine atS 5 ?_); go_must (refine wl_ex rfl (exec_eqlId _ _ _ rfl l idZero HL.out len_idZero rfl rfl) ?_); rw [HQ.out]))
 go_ret
 exact ⟨rfl, HB.out⟩
theorem refName_is (n : List UInt8) (q : Bool) (hq : nameF n = q) (w : World) : Calls Tryd.prog 37 #[.string (strB n)] w fun e w' => e = .returned (.bool q) ∧ Below w.heap.size w w' := by
 have h := refName_any (strB n) w
 rw [strB_list, hq] at h
 exact h
def firstF : List RName → List UInt8 → List UInt8
 | [], _ => idZero
 | x :: L, s => if x.1 = s then x.2 else firstF L s
set_option maxRecDepth 100000 in
set_option maxHeartbeats 8000000 in
theorem refList_any (a : Option Addr) (n c : Nat) (L : List RName) (w : World) (h : AtG rnK w a n c L) (q : Bool) (hq : q = true ↔ RightN L) :
  Calls Tryd.prog 35 #[.slice a n c] w fun e w' => e = .returned (.bool q) ∧ Below w.heap.size w w' := by
 have HLN := Lib.hid h.1
 have HN := Lib.hid h
 have HQ := Lib.hid hq
 have HF := Lib.hid (show ¬ RightN L → q = false from fun h => by
  cases q
  ·rfl
  ·exact absurd (HQ.out.1 rfl) h)
 have hnM : (n : Int) ≤ 9223372036854775807 := by have := h.2.1; have := h.2.2.1; omega
 clear hq
 by_cases h64 : (64 : Int) < (n : Int)
 ·have d64 : decide (64 < n) = true := decide_eq_true (by omega)
  have HQ2 := Lib.hid (HF.out (fun h2 => by have := h2.1; have := HLN.out; omega))
  clear h
  go_enter Tryd.func35, Tryd.ntmps35
  go_wp2
  go_ret
  exact ⟨boolR HQ2.out.symm, Below.refl _ _⟩
 have hnI : (n : Int) ≤ 64 := by omega
 have HNI := Lib.hid hnI
 have d64 : decide (64 < n) = false := decide_eq_false (by omega)
 clear h h64
 go_enter Tryd.func35, Tryd.ntmps35
 go_wp2
 go_loopg [3] n (fun g v3 W => ∃ i : Nat, v3 = .int .i64 i ∧ g + i = n ∧ Hid (Below w.heap.size w W) ∧ Hid (NOk L i))
 case atStart => exact ⟨0, rfl, rfl, Lib.hid (Below.refl _ _), Lib.hid ⟨fun j hj => absurd hj (Nat.not_lt_zero _), fun j hj => absurd hj (Nat.not_lt_zero _)⟩⟩
 case round =>
  obtain ⟨i, rfl, hg, HB, HOK⟩ := hrel
  have HG := Lib.hid hg
  have hi0 : (0 : Int) ≤ (i : Int) := by omega
  have hiI : (i : Int) ≤ (n : Int) := by omega
  by_cases hi : (i : Int) < (n : Int)
  ·have hin : i < n := by omega
   have HI := Lib.hid hin
   obtain ⟨b, o, rfl⟩ := HN.out.some_ (by omega)
   obtain ⟨X, hX⟩ : ∃ X, X = gd L i := ⟨_, rfl⟩
   have HXI : Hid (X.2.length = 32) := Lib.hid (hX ▸ HN.out.ok hin)
   have HXE := Lib.hid hX
   have HXM : Hid (X ∈ L) := Lib.hid (by rw [hX]; exact gd_mem (by rw [HLN.out]; exact hin))
   obtain ⟨p, hp⟩ : ∃ p, strB X.1 = p := ⟨_, rfl⟩
   have HPE := Lib.hid hp
   have HCP := Lib.hid (fun W (hW : Below w.heap.size w W) => (hp ▸ hX ▸ rn_name (HN.out.below hW) hin : W.cell? ⟨b, o + i * 33, none⟩ = some (.string p)))
   have HCI := Lib.hid (fun W (hW : Below w.heap.size w W) => (hX ▸ rn_id (HN.out.below hW) hin : W.rangeAt b (o + i * 33 + 1) (X.2.map B)))
   obtain ⟨m, hm⟩ : ∃ m, nameF X.1 = m := ⟨_, rfl⟩
   obtain ⟨z, hz⟩ : ∃ z, decide (X.2 = idZero) = z := ⟨_, rfl⟩
   have HNM := Lib.hid (fun W => hp ▸ refName_is X.1 m hm W)
   have HZE := Lib.hid (fun W => refZero_any X.2 HXI.out z hz W)
   have HME := Lib.hid hm
   have HZI := Lib.hid hz
   clear hg hX hp hm hz
   go_wp2
   have HX0 : Hid (Below w.heap.size w wr.drew) := Lib.hid HB.out.drew
   cases m
   ·refine wp_region_held_drew (S := fun W => Below w.heap.size w W) (by kernel_rfl) HX0.out (fun hHeld => ?_)
    refine tk 0 (mo 13 (.move (.tmp 0))) (.slice (some ⟨b, o, none⟩) n c) rfl ?_
    refine tk 1 (mo 14 (.move (.tmp 3))) (.int .i64 (i : Nat)) rfl ?_
    refine tk 2 (mo 15 (.indexAddr 22 (.tmp 13) (.tmp 14))) (.pointer (some ⟨b, o + i * 33, none⟩)) rfl ?_
    refine tk 3 (mo 16 (.fieldAddr 54 (.tmp 15) 0)) (.pointer (some ⟨b, o + i * 33, none⟩)) rfl ?_
    refine tk 4 (mo 17 (.load 9 (.tmp 16))) (.string p) rfl ?_ (Or.inl ⟨by rfl, fun W hW => by have hcell := HCP.out W hW; go_simp⟩)
    refine rdH [5] ?_
    refine AllReadyH.cons (o := ⟨some 18, .call { callee := .value (.func 37), args := #[(.tmp 17)], argTypes := #[9] }, _, _, _, _⟩) rfl (fun K hK => ?_) AllReadyH.nil
    go_simp
    refine (HNM.out _).mono ?_
    rintro e wx1 ⟨rfl, hb⟩
    have HX1 := thn HX0 hb
    clear hb
    refine hK.out _ _ HX1.out (fun hHeld => ?_)
    clear hK K
    refine tk 6 (mo 19 (.unOp .not 4 (.tmp 18))) (.bool true) rfl ?_
    refine tk 7 (mo 20 (.move (.tmp 19))) (.bool true) rfl ?_
    refine tk 8 (mo 21 (.move (.tmp 0))) undef rfl ?_ (Or.inr ⟨by rfl, rfl⟩)
    refine tk 9 (mo 22 (.move (.tmp 3))) undef rfl ?_ (Or.inr ⟨by rfl, rfl⟩)
    refine tk 10 (mo 23 (.indexAddr 22 (.tmp 21) (.tmp 22))) undef rfl ?_ (Or.inr ⟨by rfl, rfl⟩)
    refine tk 11 (mo 24 (.fieldAddr 54 (.tmp 23) 1)) undef rfl ?_ (Or.inr ⟨by rfl, rfl⟩)
    refine tk 12 (mo 25 (.load 24 (.tmp 24))) undef rfl ?_ (Or.inr ⟨by rfl, rfl⟩)
    refine tk 13 (mo 26 (.call { callee := .value (.func 36), args := #[(.tmp 25)], argTypes := #[24] })) undef rfl ?_ (Or.inr ⟨by rfl, rfl⟩)
    refine tk 14 (mo 27 (.pick (.tmp 20) (.const (.bool true)) (.tmp 26))) (.bool true) rfl ?_
    refine tk 15 (mo 28 (.move (.tmp 27))) (.bool true) rfl ?_
    refine tk 16 (mo 29 (.move (.tmp 3))) undef rfl ?_ (Or.inr ⟨by rfl, rfl⟩)
    refine tk 17 (mo 30 (.binOp .gtr 3 (.tmp 29) (.const (.int .i64 0)) 3)) undef rfl ?_ (Or.inr ⟨by rfl, rfl⟩)
    refine tk 18 (mo 31 (.move (.tmp 30))) undef rfl ?_ (Or.inr ⟨by rfl, rfl⟩)
    refine tk 19 (mo 32 (.move (.tmp 0))) undef rfl ?_ (Or.inr ⟨by rfl, rfl⟩)
    refine tk 20 (mo 33 (.move (.tmp 3))) undef rfl ?_ (Or.inr ⟨by rfl, rfl⟩)
    refine tk 21 (mo 34 (.binOp .sub 3 (.tmp 33) (.const (.int .i64 1)) 3)) undef rfl ?_ (Or.inr ⟨by rfl, rfl⟩)
    refine tk 22 (mo 35 (.indexAddr 22 (.tmp 32) (.tmp 34))) undef rfl ?_ (Or.inr ⟨by rfl, rfl⟩)
    refine tk 23 (mo 36 (.fieldAddr 54 (.tmp 35) 0)) undef rfl ?_ (Or.inr ⟨by rfl, rfl⟩)
    refine tk 24 (mo 37 (.load 9 (.tmp 36))) undef rfl ?_ (Or.inr ⟨by rfl, rfl⟩)
    refine tk 25 (mo 38 (.move (.tmp 0))) undef rfl ?_ (Or.inr ⟨by rfl, rfl⟩)
    refine tk 26 (mo 39 (.move (.tmp 3))) undef rfl ?_ (Or.inr ⟨by rfl, rfl⟩)
    refine tk 27 (mo 40 (.indexAddr 22 (.tmp 38) (.tmp 39))) undef rfl ?_ (Or.inr ⟨by rfl, rfl⟩)
    refine tk 28 (mo 41 (.fieldAddr 54 (.tmp 40) 0)) undef rfl ?_ (Or.inr ⟨by rfl, rfl⟩)
    refine tk 29 (mo 42 (.load 9 (.tmp 41))) undef rfl ?_ (Or.inr ⟨by rfl, rfl⟩)
    refine tk 30 (mo 43 (.binOp .geq 9 (.tmp 37) (.tmp 42) 9)) undef rfl ?_ (Or.inr ⟨by rfl, rfl⟩)
    refine tk 31 (mo 44 (.pick (.tmp 31) (.tmp 43) (.const (.bool false)))) undef rfl ?_ (Or.inr ⟨by rfl, rfl⟩)
    refine tk 32 (mo 45 (.pick (.tmp 28) (.const (.bool true)) (.tmp 44))) (.bool true) rfl ?_
    refine wpAnyH_done (by kernel_rfl) ?_ _
    have HZ := Lib.hid HX1.out
    have HQ := Lib.hid (HF.out (fun h => by have := (h.2.1 X HXM.out).1; rw [HME.out] at this; cases this))
    go_wp2_with fail
    go_ret
    exact ⟨boolR HQ.out.symm, HZ.out⟩
   ·cases z
    ·by_cases hi1 : i = 0
     ·subst hi1
      replace HCP : Hid (∀ W, Below w.heap.size w W → W.cell? ⟨b, o, none⟩ = some (.string p)) := Lib.hid (fun W hW => by have h := HCP.out W hW; rwa [Nat.zero_mul, Nat.add_zero] at h)
      refine wp_region_held_drew (S := fun W => Below w.heap.size w W) (by kernel_rfl) HX0.out (fun hHeld => ?_)
      refine tk 0 (mo 13 (.move (.tmp 0))) (.slice (some ⟨b, o, none⟩) n c) rfl ?_
      refine tk 1 (mo 14 (.move (.tmp 3))) (.int .i64 (0 : Nat)) rfl ?_
      refine tk 2 (mo 15 (.indexAddr 22 (.tmp 13) (.tmp 14))) (.pointer (some ⟨b, o + 0 * 33, none⟩)) rfl ?_
      refine tk 3 (mo 16 (.fieldAddr 54 (.tmp 15) 0)) (.pointer (some ⟨b, o + 0 * 33, none⟩)) rfl ?_
      refine tk 4 (mo 17 (.load 9 (.tmp 16))) (.string p) rfl ?_ (Or.inl ⟨by rfl, fun W hW => by have hcell := HCP.out W hW; go_simp⟩)
      refine rdH [5] ?_
      refine AllReadyH.cons (o := ⟨some 18, .call { callee := .value (.func 37), args := #[(.tmp 17)], argTypes := #[9] }, _, _, _, _⟩) rfl (fun K hK => ?_) AllReadyH.nil
      go_simp
      refine (HNM.out _).mono ?_
      rintro e wx1 ⟨rfl, hb⟩
      have HX1 := thn HX0 hb
      clear hb
      refine hK.out _ _ HX1.out (fun hHeld => ?_)
      clear hK K
      refine tk 6 (mo 19 (.unOp .not 4 (.tmp 18))) (.bool false) rfl ?_
      refine tk 7 (mo 20 (.move (.tmp 19))) (.bool false) rfl ?_
      refine tk 8 (mo 21 (.move (.tmp 0))) (.slice (some ⟨b, o, none⟩) n c) rfl ?_
      refine tk 9 (mo 22 (.move (.tmp 3))) (.int .i64 (0 : Nat)) rfl ?_
      refine tk 10 (mo 23 (.indexAddr 22 (.tmp 21) (.tmp 22))) (.pointer (some ⟨b, o + 0 * 33, none⟩)) rfl ?_
      refine tk 11 (mo 24 (.fieldAddr 54 (.tmp 23) 1)) (.pointer (some ⟨b, o + 0 * 33 + 1, none⟩)) rfl ?_
      refine tk 12 (mo 25 (.load 24 (.tmp 24))) (.agg (idCells X.2)) rfl ?_ (Or.inl ⟨by rfl, fun W hW => exec_loadId _ rfl _ _ X.2 HXI.out rfl (HCI.out W hW)⟩)
      refine rdH [13] ?_
      refine AllReadyH.cons (o := ⟨some 26, .call { callee := .value (.func 36), args := #[(.tmp 25)], argTypes := #[24] }, _, _, _, _⟩) rfl (fun K hK => ?_) AllReadyH.nil
      go_simp
      refine (HZE.out _).mono ?_
      rintro e wx2 ⟨rfl, hb⟩
      have HX2 := thn HX1 hb
      clear hb
      refine hK.out _ _ HX2.out (fun hHeld => ?_)
      clear hK K
      refine tk 14 (mo 27 (.pick (.tmp 20) (.const (.bool true)) (.tmp 26))) (.bool false) rfl ?_
      refine tk 15 (mo 28 (.move (.tmp 27))) (.bool false) rfl ?_
      refine tk 16 (mo 29 (.move (.tmp 3))) (.int .i64 (0 : Nat)) rfl ?_
      refine tk 17 (mo 30 (.binOp .gtr 3 (.tmp 29) (.const (.int .i64 0)) 3)) (.bool false) rfl ?_
      refine tk 18 (mo 31 (.move (.tmp 30))) (.bool false) rfl ?_
      refine tk 19 (mo 32 (.move (.tmp 0))) undef rfl ?_ (Or.inr ⟨by rfl, rfl⟩)
      refine tk 20 (mo 33 (.move (.tmp 3))) undef rfl ?_ (Or.inr ⟨by rfl, rfl⟩)
      refine tk 21 (mo 34 (.binOp .sub 3 (.tmp 33) (.const (.int .i64 1)) 3)) undef rfl ?_ (Or.inr ⟨by rfl, rfl⟩)
      refine tk 22 (mo 35 (.indexAddr 22 (.tmp 32) (.tmp 34))) undef rfl ?_ (Or.inr ⟨by rfl, rfl⟩)
      refine tk 23 (mo 36 (.fieldAddr 54 (.tmp 35) 0)) undef rfl ?_ (Or.inr ⟨by rfl, rfl⟩)
      refine tk 24 (mo 37 (.load 9 (.tmp 36))) undef rfl ?_ (Or.inr ⟨by rfl, rfl⟩)
      refine tk 25 (mo 38 (.move (.tmp 0))) undef rfl ?_ (Or.inr ⟨by rfl, rfl⟩)
      refine tk 26 (mo 39 (.move (.tmp 3))) undef rfl ?_ (Or.inr ⟨by rfl, rfl⟩)
      refine tk 27 (mo 40 (.indexAddr 22 (.tmp 38) (.tmp 39))) undef rfl ?_ (Or.inr ⟨by rfl, rfl⟩)
      refine tk 28 (mo 41 (.fieldAddr 54 (.tmp 40) 0)) undef rfl ?_ (Or.inr ⟨by rfl, rfl⟩)
      refine tk 29 (mo 42 (.load 9 (.tmp 41))) undef rfl ?_ (Or.inr ⟨by rfl, rfl⟩)
      refine tk 30 (mo 43 (.binOp .geq 9 (.tmp 37) (.tmp 42) 9)) undef rfl ?_ (Or.inr ⟨by rfl, rfl⟩)
      refine tk 31 (mo 44 (.pick (.tmp 31) (.tmp 43) (.const (.bool false)))) (.bool false) rfl ?_
      refine tk 32 (mo 45 (.pick (.tmp 28) (.const (.bool true)) (.tmp 44))) (.bool false) rfl ?_
      refine wpAnyH_done (by kernel_rfl) ?_ _
      go_wp2_with fail
      go_roundg (n - (0 + 1))
      case measure => have := HG.out; have := HI.out; omega
      case rel => exact ⟨0 + 1, by go_num, by have := HI.out; omega, HX2, Lib.hid (HOK.out.first HME.out (of_decide_eq_false HZI.out) HXE.out)⟩
     ·obtain ⟨j, rfl⟩ : ∃ j, i = j + 1 := ⟨i - 1, by omega⟩
      have hjn : j < n := by have := HI.out; omega
      have hj0 : (0 : Int) ≤ (j : Int) := by omega
      have hjnI : (j : Int) < (n : Int) := by omega
      have hj1 : (j : Int) + 1 - 1 = (j : Int) := by omega
      have hjp : (0 : Int) < (j : Int) + 1 := by omega
      have hj2 : (j : Int) + 1 < (n : Int) := by omega
      have hj3 : ¬ (n : Int) ≤ (j : Int) + 1 := by omega
      have hj4 : (0 : Int) ≤ (j : Int) + 1 := by omega
      have hjW : IntKind.i64.wrap (j : Int) = (j : Int) := IntWalk.i64_in _ (by omega)
      obtain ⟨y, hy⟩ : ∃ y, strB (gd L j).1 = y := ⟨_, rfl⟩
      have HCY := Lib.hid (fun W (hW : Below w.heap.size w W) => (hy ▸ rn_name (HN.out.below hW) hjn : W.cell? ⟨b, o + j * 33, none⟩ = some (.string y)))
      obtain ⟨l, hl⟩ : ∃ l, decide ((gd L j).1 < X.1) = l := ⟨_, rfl⟩
      have HLS : Hid (Op.bytesLess y.toList p.toList = l) := Lib.hid (by rw [← hy, ← HPE.out, less_is, hl])
      clear hi1 hy hjn
      cases l
      ·have HLL := Lib.hid (of_decide_eq_false hl)
       clear hl
       refine wp_region_held_drew (S := fun W => Below w.heap.size w W) (by kernel_rfl) HX0.out (fun hHeld => ?_)
       refine tk 0 (mo 13 (.move (.tmp 0))) (.slice (some ⟨b, o, none⟩) n c) rfl ?_
       refine tk 1 (mo 14 (.move (.tmp 3))) (.int .i64 ((j + 1) : Nat)) rfl ?_
       refine tk 2 (mo 15 (.indexAddr 22 (.tmp 13) (.tmp 14))) (.pointer (some ⟨b, o + (j + 1) * 33, none⟩)) rfl ?_
       refine tk 3 (mo 16 (.fieldAddr 54 (.tmp 15) 0)) (.pointer (some ⟨b, o + (j + 1) * 33, none⟩)) rfl ?_
       refine tk 4 (mo 17 (.load 9 (.tmp 16))) (.string p) rfl ?_ (Or.inl ⟨by rfl, fun W hW => by have hcell := HCP.out W hW; go_simp⟩)
       refine rdH [5] ?_
       refine AllReadyH.cons (o := ⟨some 18, .call { callee := .value (.func 37), args := #[(.tmp 17)], argTypes := #[9] }, _, _, _, _⟩) rfl (fun K hK => ?_) AllReadyH.nil
       go_simp
       refine (HNM.out _).mono ?_
       rintro e wx1 ⟨rfl, hb⟩
       have HX1 := thn HX0 hb
       clear hb
       refine hK.out _ _ HX1.out (fun hHeld => ?_)
       clear hK K
       refine tk 6 (mo 19 (.unOp .not 4 (.tmp 18))) (.bool false) rfl ?_
       refine tk 7 (mo 20 (.move (.tmp 19))) (.bool false) rfl ?_
       refine tk 8 (mo 21 (.move (.tmp 0))) (.slice (some ⟨b, o, none⟩) n c) rfl ?_
       refine tk 9 (mo 22 (.move (.tmp 3))) (.int .i64 ((j + 1) : Nat)) rfl ?_
       refine tk 10 (mo 23 (.indexAddr 22 (.tmp 21) (.tmp 22))) (.pointer (some ⟨b, o + (j + 1) * 33, none⟩)) rfl ?_
       refine tk 11 (mo 24 (.fieldAddr 54 (.tmp 23) 1)) (.pointer (some ⟨b, o + (j + 1) * 33 + 1, none⟩)) rfl ?_
       refine tk 12 (mo 25 (.load 24 (.tmp 24))) (.agg (idCells X.2)) rfl ?_ (Or.inl ⟨by rfl, fun W hW => exec_loadId _ rfl _ _ X.2 HXI.out rfl (HCI.out W hW)⟩)
       refine rdH [13] ?_
       refine AllReadyH.cons (o := ⟨some 26, .call { callee := .value (.func 36), args := #[(.tmp 25)], argTypes := #[24] }, _, _, _, _⟩) rfl (fun K hK => ?_) AllReadyH.nil
       go_simp
       refine (HZE.out _).mono ?_
       rintro e wx2 ⟨rfl, hb⟩
       have HX2 := thn HX1 hb
       clear hb
       refine hK.out _ _ HX2.out (fun hHeld => ?_)
       clear hK K
       refine tk 14 (mo 27 (.pick (.tmp 20) (.const (.bool true)) (.tmp 26))) (.bool false) rfl ?_
       refine tk 15 (mo 28 (.move (.tmp 27))) (.bool false) rfl ?_
       refine tk 16 (mo 29 (.move (.tmp 3))) (.int .i64 ((j + 1 : Nat) : Int)) rfl ?_
       refine tk 17 (mo 30 (.binOp .gtr 3 (.tmp 29) (.const (.int .i64 0)) 3)) (.bool true) rfl ?_
       refine tk 18 (mo 31 (.move (.tmp 30))) (.bool true) rfl ?_
       refine tk 19 (mo 32 (.move (.tmp 0))) (.slice (some ⟨b, o, none⟩) n c) rfl ?_
       refine tk 20 (mo 33 (.move (.tmp 3))) (.int .i64 ((j + 1 : Nat) : Int)) rfl ?_
       refine tk 21 (mo 34 (.binOp .sub 3 (.tmp 33) (.const (.int .i64 1)) 3)) (.int .i64 (j : Nat)) rfl ?_
       refine tk 22 (mo 35 (.indexAddr 22 (.tmp 32) (.tmp 34))) (.pointer (some ⟨b, o + j * 33, none⟩)) rfl ?_
       refine tk 23 (mo 36 (.fieldAddr 54 (.tmp 35) 0)) (.pointer (some ⟨b, o + j * 33, none⟩)) rfl ?_
       refine tk 24 (mo 37 (.load 9 (.tmp 36))) (.string y) rfl ?_ (Or.inl ⟨by rfl, fun W hW => by have hcell := HCY.out W hW; go_simp⟩)
       refine tk 25 (mo 38 (.move (.tmp 0))) (.slice (some ⟨b, o, none⟩) n c) rfl ?_
       refine tk 26 (mo 39 (.move (.tmp 3))) (.int .i64 ((j + 1) : Nat)) rfl ?_
       refine tk 27 (mo 40 (.indexAddr 22 (.tmp 38) (.tmp 39))) (.pointer (some ⟨b, o + (j + 1) * 33, none⟩)) rfl ?_
       refine tk 28 (mo 41 (.fieldAddr 54 (.tmp 40) 0)) (.pointer (some ⟨b, o + (j + 1) * 33, none⟩)) rfl ?_
       refine tk 29 (mo 42 (.load 9 (.tmp 41))) (.string p) rfl ?_ (Or.inl ⟨by rfl, fun W hW => by have hcell := HCP.out W hW; go_simp⟩)
       refine tk 30 (mo 43 (.binOp .geq 9 (.tmp 37) (.tmp 42) 9)) (.bool true) rfl ?_ (Or.inl ⟨by rfl, fun W hW => by have hl := HLS.out; go_simp⟩)
       refine tk 31 (mo 44 (.pick (.tmp 31) (.tmp 43) (.const (.bool false)))) (.bool true) rfl ?_
       refine tk 32 (mo 45 (.pick (.tmp 28) (.const (.bool true)) (.tmp 44))) (.bool true) rfl ?_
       refine wpAnyH_done (by kernel_rfl) ?_ _
       have HZ := Lib.hid HX2.out
       have HQ := Lib.hid (HF.out (fun h => HLL.out (h.step HI.out HXE.out HLN.out)))
       go_wp2_with fail
       go_ret
       exact ⟨boolR HQ.out.symm, HZ.out⟩
      ·have HLL := Lib.hid (of_decide_eq_true hl)
       clear hl
       refine wp_region_held_drew (S := fun W => Below w.heap.size w W) (by kernel_rfl) HX0.out (fun hHeld => ?_)
       refine tk 0 (mo 13 (.move (.tmp 0))) (.slice (some ⟨b, o, none⟩) n c) rfl ?_
       refine tk 1 (mo 14 (.move (.tmp 3))) (.int .i64 ((j + 1) : Nat)) rfl ?_
       refine tk 2 (mo 15 (.indexAddr 22 (.tmp 13) (.tmp 14))) (.pointer (some ⟨b, o + (j + 1) * 33, none⟩)) rfl ?_
       refine tk 3 (mo 16 (.fieldAddr 54 (.tmp 15) 0)) (.pointer (some ⟨b, o + (j + 1) * 33, none⟩)) rfl ?_
       refine tk 4 (mo 17 (.load 9 (.tmp 16))) (.string p) rfl ?_ (Or.inl ⟨by rfl, fun W hW => by have hcell := HCP.out W hW; go_simp⟩)
       refine rdH [5] ?_
       refine AllReadyH.cons (o := ⟨some 18, .call { callee := .value (.func 37), args := #[(.tmp 17)], argTypes := #[9] }, _, _, _, _⟩) rfl (fun K hK => ?_) AllReadyH.nil
       go_simp
       refine (HNM.out _).mono ?_
       rintro e wx1 ⟨rfl, hb⟩
       have HX1 := thn HX0 hb
       clear hb
       refine hK.out _ _ HX1.out (fun hHeld => ?_)
       clear hK K
       refine tk 6 (mo 19 (.unOp .not 4 (.tmp 18))) (.bool false) rfl ?_
       refine tk 7 (mo 20 (.move (.tmp 19))) (.bool false) rfl ?_
       refine tk 8 (mo 21 (.move (.tmp 0))) (.slice (some ⟨b, o, none⟩) n c) rfl ?_
       refine tk 9 (mo 22 (.move (.tmp 3))) (.int .i64 ((j + 1) : Nat)) rfl ?_
       refine tk 10 (mo 23 (.indexAddr 22 (.tmp 21) (.tmp 22))) (.pointer (some ⟨b, o + (j + 1) * 33, none⟩)) rfl ?_
       refine tk 11 (mo 24 (.fieldAddr 54 (.tmp 23) 1)) (.pointer (some ⟨b, o + (j + 1) * 33 + 1, none⟩)) rfl ?_
       refine tk 12 (mo 25 (.load 24 (.tmp 24))) (.agg (idCells X.2)) rfl ?_ (Or.inl ⟨by rfl, fun W hW => exec_loadId _ rfl _ _ X.2 HXI.out rfl (HCI.out W hW)⟩)
       refine rdH [13] ?_
       refine AllReadyH.cons (o := ⟨some 26, .call { callee := .value (.func 36), args := #[(.tmp 25)], argTypes := #[24] }, _, _, _, _⟩) rfl (fun K hK => ?_) AllReadyH.nil
       go_simp
       refine (HZE.out _).mono ?_
       rintro e wx2 ⟨rfl, hb⟩
       have HX2 := thn HX1 hb
       clear hb
       refine hK.out _ _ HX2.out (fun hHeld => ?_)
       clear hK K
       refine tk 14 (mo 27 (.pick (.tmp 20) (.const (.bool true)) (.tmp 26))) (.bool false) rfl ?_
       refine tk 15 (mo 28 (.move (.tmp 27))) (.bool false) rfl ?_
       refine tk 16 (mo 29 (.move (.tmp 3))) (.int .i64 ((j + 1 : Nat) : Int)) rfl ?_
       refine tk 17 (mo 30 (.binOp .gtr 3 (.tmp 29) (.const (.int .i64 0)) 3)) (.bool true) rfl ?_
       refine tk 18 (mo 31 (.move (.tmp 30))) (.bool true) rfl ?_
       refine tk 19 (mo 32 (.move (.tmp 0))) (.slice (some ⟨b, o, none⟩) n c) rfl ?_
       refine tk 20 (mo 33 (.move (.tmp 3))) (.int .i64 ((j + 1 : Nat) : Int)) rfl ?_
       refine tk 21 (mo 34 (.binOp .sub 3 (.tmp 33) (.const (.int .i64 1)) 3)) (.int .i64 (j : Nat)) rfl ?_
       refine tk 22 (mo 35 (.indexAddr 22 (.tmp 32) (.tmp 34))) (.pointer (some ⟨b, o + j * 33, none⟩)) rfl ?_
       refine tk 23 (mo 36 (.fieldAddr 54 (.tmp 35) 0)) (.pointer (some ⟨b, o + j * 33, none⟩)) rfl ?_
       refine tk 24 (mo 37 (.load 9 (.tmp 36))) (.string y) rfl ?_ (Or.inl ⟨by rfl, fun W hW => by have hcell := HCY.out W hW; go_simp⟩)
       refine tk 25 (mo 38 (.move (.tmp 0))) (.slice (some ⟨b, o, none⟩) n c) rfl ?_
       refine tk 26 (mo 39 (.move (.tmp 3))) (.int .i64 ((j + 1) : Nat)) rfl ?_
       refine tk 27 (mo 40 (.indexAddr 22 (.tmp 38) (.tmp 39))) (.pointer (some ⟨b, o + (j + 1) * 33, none⟩)) rfl ?_
       refine tk 28 (mo 41 (.fieldAddr 54 (.tmp 40) 0)) (.pointer (some ⟨b, o + (j + 1) * 33, none⟩)) rfl ?_
       refine tk 29 (mo 42 (.load 9 (.tmp 41))) (.string p) rfl ?_ (Or.inl ⟨by rfl, fun W hW => by have hcell := HCP.out W hW; go_simp⟩)
       refine tk 30 (mo 43 (.binOp .geq 9 (.tmp 37) (.tmp 42) 9)) (.bool false) rfl ?_ (Or.inl ⟨by rfl, fun W hW => by have hl := HLS.out; go_simp⟩)
       refine tk 31 (mo 44 (.pick (.tmp 31) (.tmp 43) (.const (.bool false)))) (.bool false) rfl ?_
       refine tk 32 (mo 45 (.pick (.tmp 28) (.const (.bool true)) (.tmp 44))) (.bool false) rfl ?_
       refine wpAnyH_done (by kernel_rfl) ?_ _
       go_wp2_with fail
       go_roundg (n - (j + 1 + 1))
       case measure => have := HG.out; have := HI.out; omega
       case rel => exact ⟨j + 1 + 1, by go_num, by have := HI.out; omega, HX2, Lib.hid (HOK.out.more HME.out (of_decide_eq_false HZI.out) HXE.out HLL.out)⟩
    ·refine wp_region_held_drew (S := fun W => Below w.heap.size w W) (by kernel_rfl) HX0.out (fun hHeld => ?_)
     refine tk 0 (mo 13 (.move (.tmp 0))) (.slice (some ⟨b, o, none⟩) n c) rfl ?_
     refine tk 1 (mo 14 (.move (.tmp 3))) (.int .i64 (i : Nat)) rfl ?_
     refine tk 2 (mo 15 (.indexAddr 22 (.tmp 13) (.tmp 14))) (.pointer (some ⟨b, o + i * 33, none⟩)) rfl ?_
     refine tk 3 (mo 16 (.fieldAddr 54 (.tmp 15) 0)) (.pointer (some ⟨b, o + i * 33, none⟩)) rfl ?_
     refine tk 4 (mo 17 (.load 9 (.tmp 16))) (.string p) rfl ?_ (Or.inl ⟨by rfl, fun W hW => by have hcell := HCP.out W hW; go_simp⟩)
     refine rdH [5] ?_
     refine AllReadyH.cons (o := ⟨some 18, .call { callee := .value (.func 37), args := #[(.tmp 17)], argTypes := #[9] }, _, _, _, _⟩) rfl (fun K hK => ?_) AllReadyH.nil
     go_simp
     refine (HNM.out _).mono ?_
     rintro e wx1 ⟨rfl, hb⟩
     have HX1 := thn HX0 hb
     clear hb
     refine hK.out _ _ HX1.out (fun hHeld => ?_)
     clear hK K
     refine tk 6 (mo 19 (.unOp .not 4 (.tmp 18))) (.bool false) rfl ?_
     refine tk 7 (mo 20 (.move (.tmp 19))) (.bool false) rfl ?_
     refine tk 8 (mo 21 (.move (.tmp 0))) (.slice (some ⟨b, o, none⟩) n c) rfl ?_
     refine tk 9 (mo 22 (.move (.tmp 3))) (.int .i64 (i : Nat)) rfl ?_
     refine tk 10 (mo 23 (.indexAddr 22 (.tmp 21) (.tmp 22))) (.pointer (some ⟨b, o + i * 33, none⟩)) rfl ?_
     refine tk 11 (mo 24 (.fieldAddr 54 (.tmp 23) 1)) (.pointer (some ⟨b, o + i * 33 + 1, none⟩)) rfl ?_
     refine tk 12 (mo 25 (.load 24 (.tmp 24))) (.agg (idCells X.2)) rfl ?_ (Or.inl ⟨by rfl, fun W hW => exec_loadId _ rfl _ _ X.2 HXI.out rfl (HCI.out W hW)⟩)
     refine rdH [13] ?_
     refine AllReadyH.cons (o := ⟨some 26, .call { callee := .value (.func 36), args := #[(.tmp 25)], argTypes := #[24] }, _, _, _, _⟩) rfl (fun K hK => ?_) AllReadyH.nil
     go_simp
     refine (HZE.out _).mono ?_
     rintro e wx2 ⟨rfl, hb⟩
     have HX2 := thn HX1 hb
     clear hb
     refine hK.out _ _ HX2.out (fun hHeld => ?_)
     clear hK K
     refine tk 14 (mo 27 (.pick (.tmp 20) (.const (.bool true)) (.tmp 26))) (.bool true) rfl ?_
     refine tk 15 (mo 28 (.move (.tmp 27))) (.bool true) rfl ?_
     refine tk 16 (mo 29 (.move (.tmp 3))) undef rfl ?_ (Or.inr ⟨by rfl, rfl⟩)
     refine tk 17 (mo 30 (.binOp .gtr 3 (.tmp 29) (.const (.int .i64 0)) 3)) undef rfl ?_ (Or.inr ⟨by rfl, rfl⟩)
     refine tk 18 (mo 31 (.move (.tmp 30))) undef rfl ?_ (Or.inr ⟨by rfl, rfl⟩)
     refine tk 19 (mo 32 (.move (.tmp 0))) undef rfl ?_ (Or.inr ⟨by rfl, rfl⟩)
     refine tk 20 (mo 33 (.move (.tmp 3))) undef rfl ?_ (Or.inr ⟨by rfl, rfl⟩)
     refine tk 21 (mo 34 (.binOp .sub 3 (.tmp 33) (.const (.int .i64 1)) 3)) undef rfl ?_ (Or.inr ⟨by rfl, rfl⟩)
     refine tk 22 (mo 35 (.indexAddr 22 (.tmp 32) (.tmp 34))) undef rfl ?_ (Or.inr ⟨by rfl, rfl⟩)
     refine tk 23 (mo 36 (.fieldAddr 54 (.tmp 35) 0)) undef rfl ?_ (Or.inr ⟨by rfl, rfl⟩)
     refine tk 24 (mo 37 (.load 9 (.tmp 36))) undef rfl ?_ (Or.inr ⟨by rfl, rfl⟩)
     refine tk 25 (mo 38 (.move (.tmp 0))) undef rfl ?_ (Or.inr ⟨by rfl, rfl⟩)
     refine tk 26 (mo 39 (.move (.tmp 3))) undef rfl ?_ (Or.inr ⟨by rfl, rfl⟩)
     refine tk 27 (mo 40 (.indexAddr 22 (.tmp 38) (.tmp 39))) undef rfl ?_ (Or.inr ⟨by rfl, rfl⟩)
     refine tk 28 (mo 41 (.fieldAddr 54 (.tmp 40) 0)) undef rfl ?_ (Or.inr ⟨by rfl, rfl⟩)
     refine tk 29 (mo 42 (.load 9 (.tmp 41))) undef rfl ?_ (Or.inr ⟨by rfl, rfl⟩)
     refine tk 30 (mo 43 (.binOp .geq 9 (.tmp 37) (.tmp 42) 9)) undef rfl ?_ (Or.inr ⟨by rfl, rfl⟩)
     refine tk 31 (mo 44 (.pick (.tmp 31) (.tmp 43) (.const (.bool false)))) undef rfl ?_ (Or.inr ⟨by rfl, rfl⟩)
     refine tk 32 (mo 45 (.pick (.tmp 28) (.const (.bool true)) (.tmp 44))) (.bool true) rfl ?_
     refine wpAnyH_done (by kernel_rfl) ?_ _
     have HZ := Lib.hid HX2.out
     have HQ := Lib.hid (HF.out (fun h => by have := (h.2.1 X HXM.out).2; exact this (of_decide_eq_true HZI.out)))
     go_wp2_with fail
     go_ret
     exact ⟨boolR HQ.out.symm, HZ.out⟩
  ·have hin : n = i := by omega
   have HZ : Hid (q = true) := Lib.hid (HQ.out.2 (NOk.all (by rw [HLN.out, hin]; exact HOK.out) (by have := HLN.out; have := HNI.out; omega)))
   clear hg
   go_wp2
   go_ret
   exact ⟨boolR HZ.out.symm, HB.out⟩
end Go.Proofs.YthihmlojdopmfaaDoor
