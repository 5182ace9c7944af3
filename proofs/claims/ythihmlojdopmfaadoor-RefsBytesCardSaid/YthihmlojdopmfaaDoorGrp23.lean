/-
  Merged: RfRefBytes, RfRefEncode.
-/
import Derived.Test.YthihmlojdopmfaaDoorGrp18
import Derived.Test.YthihmlojdopmfaaDoorGrp1
import Derived.Test.YthihmlojdopmfaaDoorGrp14
import Derived.Test.YthihmlojdopmfaaDoorGrp19
import Derived.Test.YthihmlojdopmfaaDoorGrp22
namespace Go.Proofs.YthihmlojdopmfaaDoor
open Go.RowKit

theorem bytes_range {w : World} {b off : Nat} {l : List UInt8} (hl : l.length = 32) (h : w.rangeAt b off (l.map B)) : Bytes w (some ⟨b, off, none⟩) 32 32 l :=
 ⟨hl, Nat.le_refl _, by omega, .inr ⟨b, off, rfl, fun j hj => h j _ (by rw [List.getElem?_map]; simp [hl, hj, B])⟩⟩
theorem rnum (n : Nat) (w : World) (hn : n ≤ 100000) :
  Calls Tryd.prog 39 #[.int .i64 n] w fun e w' => ∃ a k c, e = .returned (.slice a k c) ∧ Bytes w' a k c (numF n) ∧ k ≤ 9 ∧ Below w.heap.size w w' := by
 refine (refNumber_any n w (by omega)).mono ?_
 rintro e w' ⟨a, k, c, rfl, ho, hb⟩
 exact ⟨a, k, c, rfl, ho.isBytes, by have := ho.len; have := numF_length_le9 n (by omega); omega, hb⟩
theorem rtxt (s : List UInt8) (w : World) (hs : s.length ≤ 1000) :
  Calls Tryd.prog 40 #[.string (strB s)] w fun e w' => ∃ a k c, e = .returned (.slice a k c) ∧ Bytes w' a k c (txtRf s) ∧ k ≤ 1009 ∧ Below w.heap.size w w' := by
 refine (refText_any (strB s) w (by rw [strB_size]; omega)).mono ?_
 rintro e w' ⟨a, k, c, rfl, ho, hb⟩
 rw [strB_size, strB_list] at ho
 exact ⟨a, k, c, rfl, ho, by have := ho.1; have := numF_length_le9 s.length (by omega); rw [List.length_append] at *; omega, hb⟩
set_option maxRecDepth 100000 in
set_option maxHeartbeats 8000000 in
theorem refRfBytes_any (S : RfS) (r : RefsV) (w : World) (h : RfIn w S r) (hz : WrLen r) :
  Calls Tryd.prog 16 #[.agg (rfC S r.head r.at_)] w (Made w (writeF r)) := by
 have HIN := Lib.hid h
 have HAT := Lib.hid h.at_
 have HNb : Hid (r.br.length = S.nb) := Lib.hid h.br.1
 have HNt : Hid (r.tg.length = S.ng) := Lib.hid h.tg.1
 have HNl : Hid (r.log.length = S.nl) := Lib.hid h.log.1
 have HQb := Lib.hid hz.br
 have HQt := Lib.hid hz.tg
 have HQl := Lib.hid hz.lg
 have HXb := Lib.hid hz.nb
 have HXt := Lib.hid hz.nt
 have HXl := Lib.hid hz.en
 have HHD := Lib.hid hz.hd
 obtain ⟨P1, hP1⟩ : ∃ P, P = [] ++ listB r.br := ⟨_, rfl⟩
 obtain ⟨P2, hP2⟩ : ∃ P, P = P1 ++ listB r.tg := ⟨_, rfl⟩
 obtain ⟨P3, hP3⟩ : ∃ P, P = P2 ++ txtRf r.head := ⟨_, rfl⟩
 obtain ⟨P4, hP4⟩ : ∃ P, P = P3 ++ r.at_ := ⟨_, rfl⟩
 obtain ⟨P5, hP5⟩ : ∃ P, P = P4 ++ numF r.log.length := ⟨_, rfl⟩
 have HALL : Hid (writeF r = P5 ++ logB r.log) := Lib.hid (by rw [hP5, hP4, hP3, hP2, hP1]; unfold writeF; simp only [List.append_assoc, List.nil_append])
 have hla := hz.all
 rw [HALL.out] at hla
 have HLl := Lib.hid (lgB_le hla)
 have l5 : P5.length ≤ 1000000000 := by rw [List.length_append] at hla; omega
 have l4 : P4.length ≤ 1000000000 := by rw [hP5, List.length_append] at l5; omega
 have l3 : P3.length ≤ 1000000000 := by rw [hP4, List.length_append] at l4; omega
 have l2 : P2.length ≤ 1000000000 := by rw [hP3, List.length_append] at l3; omega
 have l2' : P1.length + (listB r.tg).length ≤ 1000000000 := by rw [hP2, List.length_append] at l2; exact l2
 have l1' : ([] : List UInt8).length + (listB r.br).length ≤ 1000000000 := by rw [hP1, List.length_append] at l2'; simp at *; omega
 have HLb := Lib.hid (nsB_le l1')
 have HLt := Lib.hid (nsB_le l2')
 have L2 := Lib.hid l2
 have L3 := Lib.hid l3
 have L4 := Lib.hid l4
 have E1 := Lib.hid hP1
 have E2 := Lib.hid hP2
 have E3 := Lib.hid hP3
 have E4 := Lib.hid hP4
 have E5 := Lib.hid hP5
 have HB0 := Lib.hid ((Below.refl w.heap.size w).alloc (Nat.le_refl _) (.cells (rfC S r.head r.at_) RREf))
 have HR0 := Lib.hid (show RowAt (w.alloc (.cells (rfC S r.head r.at_) RREf)) w.heap.size RREf (rfL S r.head r.at_) from heap_alloc_new w _)
 have HUb := Lib.hid (fun W => (HNb.out ▸ rnum r.br.length W HQb.out : Calls Tryd.prog 39 #[.int .i64 (S.nb : Nat)] W fun e w' => ∃ a k c, e = .returned (.slice a k c) ∧ Bytes w' a k c (numF S.nb) ∧ k ≤ 9 ∧ Below W.heap.size W w'))
 have HUt := Lib.hid (fun W => (HNt.out ▸ rnum r.tg.length W HQt.out : Calls Tryd.prog 39 #[.int .i64 (S.ng : Nat)] W fun e w' => ∃ a k c, e = .returned (.slice a k c) ∧ Bytes w' a k c (numF S.ng) ∧ k ≤ 9 ∧ Below W.heap.size W w'))
 have HUl := Lib.hid (fun W => (HNl.out ▸ rnum r.log.length W HQl.out : Calls Tryd.prog 39 #[.int .i64 (S.nl : Nat)] W fun e w' => ∃ a k c, e = .returned (.slice a k c) ∧ Bytes w' a k c (numF S.nl) ∧ k ≤ 9 ∧ Below W.heap.size W w'))
 clear h hz hla l5 l4 l3 l2 l2' l1' hP1 hP2 hP3 hP4 hP5
 go_enter Tryd.func16, Tryd.ntmps16
 go_wp2
 go_loopg [3, 4] 2 (fun g v3 v4 W => ∃ (k : Nat) (a3 : Option Addr) (n3 c3 : Nat), v4 = .int .i64 k ∧ v3 = .slice a3 n3 c3 ∧ g + k = 2 ∧ Hid (Own W (w.heap.size + 1) (.slice a3 n3 c3) (match k with | 0 => [] | 1 => P1 | _ => P2)) ∧ Hid (RowAt W w.heap.size RREf (rfL S r.head r.at_)) ∧ Hid (Below w.heap.size w W))
 case atStart => exact ⟨0, none, 0, 0, rfl, rfl, rfl, Lib.hid (Own.nil _ _), HR0, HB0⟩
 case round =>
  obtain ⟨k, a0, n0, c0, rfl, rfl, hg, HOr, HRr, HBr⟩ := hrel
  rcases (by omega : k = 0 ∨ k = 1 ∨ k = 2) with rfl | rfl | rfl
  ·have cb := rf_br HRr.out
   go_wp2_with (first
    | (go_at_call 39; (with_reducible refine (HUb.out wr).mono ?_); rintro e w1 ⟨d1, k1, q1, rfl, hd, hk, hb⟩; rw [← HNb.out] at hd; have HD1 := Lib.hid hd; have HK1 := Lib.hid hk; have HO1 := Lib.hid (HOr.out.below hb); have HR1 := Lib.hid (HRr.out.below hb); have HB1 := thn HBr hb; clear hd hk hb)
    | ((with_reducible refine atS 23 ?_); go_must (refine app_bytes rfl _ _ rfl (w.heap.size + 1) _ ([]) rfl HO1.out _ k1 _ _ rfl HD1.out (by have h1 := HLb.out 0; have h2 := HK1.out; have h3 := nsB_zero [] r.br; rw [← h3, List.length_append] at h1; omega) HR1.out.lt ?_); intro v2 w2 ho hg; obtain ⟨a2, n2, c2, rfl, _⟩ := ho.bytes; have HR2 := Lib.hid (HR1.out.grown hg (row_ne HR1.out HO1.out (by decide))); have HB2 := Lib.hid (HB1.out.grown hg HB1.out.size (fun k hk => by have := (World.ownsRow.lt HO1.out k hk).1; omega)); have HO2 := Lib.hid ho; have HO2z : Hid (Own w2 (w.heap.size + 1) (.slice a2 n2 c2) (nsB [] r.br 0)) := Lib.hid (by rw [← nsB_zero]; exact ho); clear ho hg))
   go_loopg [3, 6] S.nb (fun g v3 v6 W => ∃ (i : Nat) (a3 : Option Addr) (n3 c3 : Nat), v6 = .int .i64 i ∧ v3 = .slice a3 n3 c3 ∧ g + i = S.nb ∧ Hid (Own W (w.heap.size + 1) (.slice a3 n3 c3) (nsB [] r.br i)) ∧ Hid (RowAt W w.heap.size RREf (rfL S r.head r.at_)) ∧ Hid (Below w.heap.size w W))
   case atStart => exact ⟨0, a2, n2, c2, rfl, rfl, rfl, HO2z, HR2, HB2⟩
   case round =>
    obtain ⟨i, a3, n3, c3, rfl, rfl, hg2, HOs, HRs, HBs⟩ := hrel
    have HG2 := Lib.hid hg2
    have hi0 : (0 : Int) ≤ (i : Int) := by omega
    have hiI : (i : Int) ≤ (S.nb : Int) := by omega
    have hnI : (S.nb : Int) ≤ 100000 := by have h1 := HQb.out; have h2 := HNb.out; omega
    by_cases hi : (i : Int) < (S.nb : Int)
    ·have hin : i < S.nb := by omega
     have hiN : i < r.br.length := by rw [HNb.out]; exact hin
     have HI := Lib.hid hin
     obtain ⟨b, o, hab⟩ := HIN.out.br.some_ (by omega)
     obtain ⟨X, hX⟩ : ∃ X, X = gd r.br i := ⟨_, rfl⟩
     have hat := HIN.out.br
     rw [hab] at hat
     have HXO : Hid (X.2.length = 32) := Lib.hid (hX ▸ HIN.out.br.ok hin)
     have HXS : Hid (X.1.length ≤ 1000) := Lib.hid (hX ▸ HXb.out _ (gd_mem hiN))
     have HCN := Lib.hid (fun W (hW : Below w.heap.size w W) => (hX ▸ rn_name (hat.below hW) hin : W.cell? ⟨b, o + i * 33, none⟩ = some (.string (strB X.1))))
     have HCI := Lib.hid (fun W (hW : Below w.heap.size w W) => bytes_range HXO.out (hX ▸ rn_id (hat.below hW) hin : W.rangeAt b (o + i * 33 + 1) (X.2.map B)))
     have HNX : Hid ((nsB [] r.br i ++ txtRf X.1) ++ X.2 = nsB [] r.br (i + 1)) := Lib.hid (nsB_next hiN hX)
     have HL1 : Hid ((nsB [] r.br i ++ txtRf X.1).length ≤ 1000000000) := Lib.hid (by have h1 := HLb.out (i + 1); rw [← HNX.out, List.length_append] at h1; omega)
     have cn := HCN.out _ HBs.out
     have HAB := Lib.hid hab
     rw [hab]
     clear hg2 hX hat hab
     go_wp2_with (first
      | (go_at_call 40; (with_reducible refine (rtxt X.1 wr HXS.out).mono ?_); rintro e w4 ⟨d4, k4, q4, rfl, hd, hk, hb⟩; have HD4 := Lib.hid hd; have HK4 := Lib.hid hk; have HO4 := Lib.hid (HOs.out.below hb); have HR4 := Lib.hid (HRs.out.below hb); have HB4 := thn HBs hb; clear hd hk hb)
      | ((with_reducible refine atS 37 ?_); go_must (refine app_bytes rfl _ _ rfl (w.heap.size + 1) _ (nsB [] r.br i) rfl HO4.out _ k4 _ _ rfl HD4.out (by have h1 := HLb.out i; have h2 := HK4.out; omega) HR4.out.lt ?_); intro v5 w5 ho hg; obtain ⟨a5, n5, c5, rfl, _⟩ := ho.bytes; have HR5 := Lib.hid (HR4.out.grown hg (row_ne HR4.out HO4.out (by decide))); have HB5 := Lib.hid (HB4.out.grown hg HB4.out.size (fun k hk => by have := (World.ownsRow.lt HO4.out k hk).1; omega)); have HO5 := Lib.hid ho; clear ho hg)
      | ((with_reducible refine atS 44 ?_); go_must (refine app_bytes rfl _ _ rfl (w.heap.size + 1) _ (nsB [] r.br i ++ txtRf X.1) rfl HO5.out _ 32 _ _ rfl (HCI.out _ HB5.out) (by have h1 := HL1.out; omega) HR5.out.lt ?_); intro v6 w6 ho hg; obtain ⟨a6, n6, c6, rfl, _⟩ := ho.bytes; have HR6 := Lib.hid (HR5.out.grown hg (row_ne HR5.out HO5.out (by decide))); have HB6 := Lib.hid (HB5.out.grown hg HB5.out.size (fun k hk => by have := (World.ownsRow.lt HO5.out k hk).1; omega)); have HO6 := Lib.hid ho; have HO6n : Hid (Own w6 (w.heap.size + 1) (.slice a6 n6 c6) (nsB [] r.br (i + 1))) := Lib.hid (by rw [← HNX.out]; exact ho); clear ho hg))
     rw [← HAB.out]
     go_roundg (S.nb - (i + 1))
     case measure => have := HG2.out; have := HI.out; omega
     case rel => exact ⟨i + 1, a6, n6, c6, by go_num, rfl, by have := HI.out; omega, HO6n, HR6, HB6⟩
    ·have hin : i = S.nb := by omega
     have HOe : Hid (Own wr (w.heap.size + 1) (.slice a3 n3 c3) P1) := Lib.hid (by have h1 := HOs.out; rw [hin, ← HNb.out, nsB_end, ← E1.out] at h1; exact h1)
     clear hg2
     go_wp2
     go_roundg 1
     case measure => omega
     case rel => exact ⟨1, a3, n3, c3, rfl, rfl, rfl, HOe, HRs, HBs⟩
  ·have cb := rf_br HRr.out
   have ct := rf_tg HRr.out
   go_wp2_with (first
    | (go_at_call 39; (with_reducible refine (HUt.out wr).mono ?_); rintro e w1 ⟨d1, k1, q1, rfl, hd, hk, hb⟩; rw [← HNt.out] at hd; have HD1 := Lib.hid hd; have HK1 := Lib.hid hk; have HO1 := Lib.hid (HOr.out.below hb); have HR1 := Lib.hid (HRr.out.below hb); have HB1 := thn HBr hb; clear hd hk hb)
    | ((with_reducible refine atS 23 ?_); go_must (refine app_bytes rfl _ _ rfl (w.heap.size + 1) _ (P1) rfl HO1.out _ k1 _ _ rfl HD1.out (by have h1 := HLt.out 0; have h2 := HK1.out; have h3 := nsB_zero P1 r.tg; rw [← h3, List.length_append] at h1; omega) HR1.out.lt ?_); intro v2 w2 ho hg; obtain ⟨a2, n2, c2, rfl, _⟩ := ho.bytes; have HR2 := Lib.hid (HR1.out.grown hg (row_ne HR1.out HO1.out (by decide))); have HB2 := Lib.hid (HB1.out.grown hg HB1.out.size (fun k hk => by have := (World.ownsRow.lt HO1.out k hk).1; omega)); have HO2 := Lib.hid ho; have HO2z : Hid (Own w2 (w.heap.size + 1) (.slice a2 n2 c2) (nsB P1 r.tg 0)) := Lib.hid (by rw [← nsB_zero]; exact ho); clear ho hg))
   go_loopg [3, 6] S.ng (fun g v3 v6 W => ∃ (i : Nat) (a3 : Option Addr) (n3 c3 : Nat), v6 = .int .i64 i ∧ v3 = .slice a3 n3 c3 ∧ g + i = S.ng ∧ Hid (Own W (w.heap.size + 1) (.slice a3 n3 c3) (nsB P1 r.tg i)) ∧ Hid (RowAt W w.heap.size RREf (rfL S r.head r.at_)) ∧ Hid (Below w.heap.size w W))
   case atStart => exact ⟨0, a2, n2, c2, rfl, rfl, rfl, HO2z, HR2, HB2⟩
   case round =>
    obtain ⟨i, a3, n3, c3, rfl, rfl, hg2, HOs, HRs, HBs⟩ := hrel
    have HG2 := Lib.hid hg2
    have hi0 : (0 : Int) ≤ (i : Int) := by omega
    have hiI : (i : Int) ≤ (S.ng : Int) := by omega
    have hnI : (S.ng : Int) ≤ 100000 := by have h1 := HQt.out; have h2 := HNt.out; omega
    by_cases hi : (i : Int) < (S.ng : Int)
    ·have hin : i < S.ng := by omega
     have hiN : i < r.tg.length := by rw [HNt.out]; exact hin
     have HI := Lib.hid hin
     obtain ⟨b, o, hab⟩ := HIN.out.tg.some_ (by omega)
     obtain ⟨X, hX⟩ : ∃ X, X = gd r.tg i := ⟨_, rfl⟩
     have hat := HIN.out.tg
     rw [hab] at hat
     have HXO : Hid (X.2.length = 32) := Lib.hid (hX ▸ HIN.out.tg.ok hin)
     have HXS : Hid (X.1.length ≤ 1000) := Lib.hid (hX ▸ HXt.out _ (gd_mem hiN))
     have HCN := Lib.hid (fun W (hW : Below w.heap.size w W) => (hX ▸ rn_name (hat.below hW) hin : W.cell? ⟨b, o + i * 33, none⟩ = some (.string (strB X.1))))
     have HCI := Lib.hid (fun W (hW : Below w.heap.size w W) => bytes_range HXO.out (hX ▸ rn_id (hat.below hW) hin : W.rangeAt b (o + i * 33 + 1) (X.2.map B)))
     have HNX : Hid ((nsB P1 r.tg i ++ txtRf X.1) ++ X.2 = nsB P1 r.tg (i + 1)) := Lib.hid (nsB_next hiN hX)
     have HL1 : Hid ((nsB P1 r.tg i ++ txtRf X.1).length ≤ 1000000000) := Lib.hid (by have h1 := HLt.out (i + 1); rw [← HNX.out, List.length_append] at h1; omega)
     have cn := HCN.out _ HBs.out
     have HAB := Lib.hid hab
     rw [hab]
     clear hg2 hX hat hab
     go_wp2_with (first
      | (go_at_call 40; (with_reducible refine (rtxt X.1 wr HXS.out).mono ?_); rintro e w4 ⟨d4, k4, q4, rfl, hd, hk, hb⟩; have HD4 := Lib.hid hd; have HK4 := Lib.hid hk; have HO4 := Lib.hid (HOs.out.below hb); have HR4 := Lib.hid (HRs.out.below hb); have HB4 := thn HBs hb; clear hd hk hb)
      | ((with_reducible refine atS 37 ?_); go_must (refine app_bytes rfl _ _ rfl (w.heap.size + 1) _ (nsB P1 r.tg i) rfl HO4.out _ k4 _ _ rfl HD4.out (by have h1 := HLt.out i; have h2 := HK4.out; omega) HR4.out.lt ?_); intro v5 w5 ho hg; obtain ⟨a5, n5, c5, rfl, _⟩ := ho.bytes; have HR5 := Lib.hid (HR4.out.grown hg (row_ne HR4.out HO4.out (by decide))); have HB5 := Lib.hid (HB4.out.grown hg HB4.out.size (fun k hk => by have := (World.ownsRow.lt HO4.out k hk).1; omega)); have HO5 := Lib.hid ho; clear ho hg)
      | ((with_reducible refine atS 44 ?_); go_must (refine app_bytes rfl _ _ rfl (w.heap.size + 1) _ (nsB P1 r.tg i ++ txtRf X.1) rfl HO5.out _ 32 _ _ rfl (HCI.out _ HB5.out) (by have h1 := HL1.out; omega) HR5.out.lt ?_); intro v6 w6 ho hg; obtain ⟨a6, n6, c6, rfl, _⟩ := ho.bytes; have HR6 := Lib.hid (HR5.out.grown hg (row_ne HR5.out HO5.out (by decide))); have HB6 := Lib.hid (HB5.out.grown hg HB5.out.size (fun k hk => by have := (World.ownsRow.lt HO5.out k hk).1; omega)); have HO6 := Lib.hid ho; have HO6n : Hid (Own w6 (w.heap.size + 1) (.slice a6 n6 c6) (nsB P1 r.tg (i + 1))) := Lib.hid (by rw [← HNX.out]; exact ho); clear ho hg))
     rw [← HAB.out]
     go_roundg (S.ng - (i + 1))
     case measure => have := HG2.out; have := HI.out; omega
     case rel => exact ⟨i + 1, a6, n6, c6, by go_num, rfl, by have := HI.out; omega, HO6n, HR6, HB6⟩
    ·have hin : i = S.ng := by omega
     have HOe : Hid (Own wr (w.heap.size + 1) (.slice a3 n3 c3) P2) := Lib.hid (by have h1 := HOs.out; rw [hin, ← HNt.out, nsB_end, ← E2.out] at h1; exact h1)
     clear hg2
     go_wp2
     go_roundg 0
     case measure => omega
     case rel => exact ⟨2, a3, n3, c3, rfl, rfl, rfl, HOe, HRs, HBs⟩
  ·have ch := rf_hd HRr.out
   go_wp2_with (first
    | (go_at_call 40; (with_reducible refine (rtxt r.head wr HHD.out).mono ?_); rintro e w1 ⟨d1, k1, q1, rfl, hd, hk, hb⟩; have HD1 := Lib.hid hd; have HK1 := Lib.hid hk; have HO1 := Lib.hid (HOr.out.below hb); have HR1 := Lib.hid (HRr.out.below hb); have HB1 := thn HBr hb; clear hd hk hb)
    | ((with_reducible refine atS 49 ?_); go_must (refine app_bytes rfl _ _ rfl (w.heap.size + 1) _ (P2) rfl HO1.out _ k1 _ _ rfl HD1.out (by have h1 := L2.out; have h2 := HK1.out; omega) HR1.out.lt ?_); intro v2 w2 ho hg; obtain ⟨a2, n2, c2, rfl, _⟩ := ho.bytes; have HR2 := Lib.hid (HR1.out.grown hg (row_ne HR1.out HO1.out (by decide))); have HB2 := Lib.hid (HB1.out.grown hg HB1.out.size (fun k hk => by have := (World.ownsRow.lt HO1.out k hk).1; omega)); have HO2 := Lib.hid ho; have HO2p : Hid (Own w2 (w.heap.size + 1) (.slice a2 n2 c2) P3) := Lib.hid (by rw [E3.out]; exact ho); clear ho hg)
    | ((with_reducible refine atS 53 ?_); (have HO2 := HO2p); go_must (refine app_bytes rfl _ _ rfl (w.heap.size + 1) _ (P3) rfl HO2.out _ 32 _ _ rfl (bytes_range HAT.out (rf_at HR2.out)) (by have h1 := L3.out; omega) HR2.out.lt ?_); intro v3 w3 ho hg; obtain ⟨a3, n3, c3, rfl, _⟩ := ho.bytes; have HR3 := Lib.hid (HR2.out.grown hg (row_ne HR2.out HO2.out (by decide))); have HB3 := Lib.hid (HB2.out.grown hg HB2.out.size (fun k hk => by have := (World.ownsRow.lt HO2.out k hk).1; omega)); have HO3 := Lib.hid ho; have HO3p : Hid (Own w3 (w.heap.size + 1) (.slice a3 n3 c3) P4) := Lib.hid (by rw [E4.out]; exact ho); have cl := rf_log HAT.out HR3.out; clear ho hg)
    | (go_at_call 39; (with_reducible refine (HUl.out w3).mono ?_); rintro e w4 ⟨d4, k4, q4, rfl, hd, hk, hb⟩; rw [← HNl.out] at hd; have HO3 := HO3p; have HD4 := Lib.hid hd; have HK4 := Lib.hid hk; have HO4 := Lib.hid (HO3.out.below hb); have HR4 := Lib.hid (HR3.out.below hb); have HB4 := thn HB3 hb; clear hd hk hb)
    | ((with_reducible refine atS 59 ?_); go_must (refine app_bytes rfl _ _ rfl (w.heap.size + 1) _ (P4) rfl HO4.out _ k4 _ _ rfl HD4.out (by have h1 := L4.out; have h2 := HK4.out; omega) HR4.out.lt ?_); intro v5 w5 ho hg; obtain ⟨a5, n5, c5, rfl, _⟩ := ho.bytes; have HR5 := Lib.hid (HR4.out.grown hg (row_ne HR4.out HO4.out (by decide))); have HB5 := Lib.hid (HB4.out.grown hg HB4.out.size (fun k hk => by have := (World.ownsRow.lt HO4.out k hk).1; omega)); have HO5 := Lib.hid ho; have HO5p : Hid (Own w5 (w.heap.size + 1) (.slice a5 n5 c5) (lgB P5 r.log 0)) := Lib.hid (by rw [← lgB_zero, E5.out]; exact ho); clear ho hg))
   go_loopg [3, 7] S.nl (fun g v3 v7 W => ∃ (i : Nat) (a3 : Option Addr) (n3 c3 : Nat), v7 = .int .i64 i ∧ v3 = .slice a3 n3 c3 ∧ g + i = S.nl ∧ Hid (Own W (w.heap.size + 1) (.slice a3 n3 c3) (lgB P5 r.log i)) ∧ Hid (RowAt W w.heap.size RREf (rfL S r.head r.at_)) ∧ Hid (Below w.heap.size w W))
   case atStart => exact ⟨0, a5, n5, c5, rfl, rfl, rfl, HO5p, HR5, HB5⟩
   case round =>
    obtain ⟨i, a3, n3, c3, rfl, rfl, hg2, HOs, HRs, HBs⟩ := hrel
    have HG2 := Lib.hid hg2
    have hi0 : (0 : Int) ≤ (i : Int) := by omega
    have hiI : (i : Int) ≤ (S.nl : Int) := by omega
    have hnI : (S.nl : Int) ≤ 100000 := by have h1 := HQl.out; have h2 := HNl.out; omega
    have cl := rf_log HAT.out HRs.out
    by_cases hi : (i : Int) < (S.nl : Int)
    ·have hin : i < S.nl := by omega
     have hiN : i < r.log.length := by rw [HNl.out]; exact hin
     have HI := Lib.hid hin
     obtain ⟨b, o, hab⟩ := HIN.out.log.some_ (by omega)
     obtain ⟨X, hX⟩ : ∃ X, X = gd r.log i := ⟨_, rfl⟩
     have hat := HIN.out.log
     rw [hab] at hat
     have HXO : Hid (UpOk X.upd) := Lib.hid (hX ▸ HIN.out.log.ok hin)
     have HXo : Hid (X.upd.old.length = 32) := Lib.hid HXO.out.2.1
     have HXn : Hid (X.upd.new.length = 32) := Lib.hid HXO.out.2.2
     have HXS : Hid (X.upd.name.length ≤ 1000) := Lib.hid (hX ▸ (HXl.out _ (gd_mem hiN)).1)
     have HXT : Hid (X.note.length ≤ 1000) := Lib.hid (hX ▸ (HXl.out _ (gd_mem hiN)).2)
     have HX1 := Lib.hid (fun W (hW : Below w.heap.size w W) => (hX ▸ (hat.below hW).at_ i hin : W.rangeAt b (o + i * 67) (enL X)))
     have HNX := Lib.hid (lgB_next (P := P5) hiN hX)
     have hle := HLl.out (i + 1)
     rw [← HNX.out] at hle
     simp only [List.length_append, List.length_cons, List.length_nil] at hle
     have M1 : Hid ((lgB P5 r.log i ++ [UInt8.ofNat X.upd.kind]).length ≤ 1000000000) := Lib.hid (by simp only [List.length_append, List.length_cons, List.length_nil]; omega)
     have M2 : Hid (((lgB P5 r.log i ++ [UInt8.ofNat X.upd.kind]) ++ txtRf X.upd.name).length ≤ 1000000000) := Lib.hid (by simp only [List.length_append, List.length_cons, List.length_nil]; omega)
     have M3 : Hid ((((lgB P5 r.log i ++ [UInt8.ofNat X.upd.kind]) ++ txtRf X.upd.name) ++ X.upd.old).length ≤ 1000000000) := Lib.hid (by simp only [List.length_append, List.length_cons, List.length_nil]; omega)
     have M4 : Hid (((((lgB P5 r.log i ++ [UInt8.ofNat X.upd.kind]) ++ txtRf X.upd.name) ++ X.upd.old) ++ X.upd.new).length ≤ 1000000000) := Lib.hid (by simp only [List.length_append, List.length_cons, List.length_nil]; omega)
     have HSZ : Hid (w.heap.size < wr.heap.size) := Lib.hid HRs.out.lt
     have HAB := Lib.hid hab
     rw [hab] at cl
     clear hg2 hX hat hab hle
     go_wp2_with (first
      | ((with_reducible refine atS 71 ?_); go_must (refine wl_ex rfl (exec_loadEn _ rfl b (o + i * 67) X HXO.out rfl (HX1.out wr HBs.out)) ?_))
      | ((with_reducible refine atS 8 ?_); go_must (refine wl_alloc_rowz zeroEf rfl rfl ?_); intro w6 hz hb; have HZ6 := Lib.hid hz; have HO6 := Lib.hid (HOs.out.below hb); have HR6 := Lib.hid (HRs.out.below hb); have HB6 := thn HBs hb; clear hz hb; generalize wr.heap.size = gn at HZ6 HSZ ⊢)
      | ((with_reducible refine atT 8 ?_); go_must (refine wl_store_rowG HZ6.out (vs := enL X) (by rw [enL_len HXO.out]; kernel_rfl) (by rw [enL_len HXO.out]; rfl) (enL_one X) rfl _ _ rfl rfl rfl ?_); intro w7 hz hg; have HZ7 := Lib.hid hz; have HO7 := Lib.hid (((Own.toW HO6.out).kept hg (.inr (row_ne HZ6.out HO6.out (by decide)).symm)).ofW); have HR7 := Lib.hid (HR6.out.grown hg (fun e => by have := Option.some.inj e; have := HSZ.out; omega)); have HB7 := Lib.hid (HB6.out.grown hg HB6.out.size (fun k hk => by cases hk; exact Nat.le_of_lt HSZ.out)); have ck := HZ7.out.cell 0 rfl; clear hz hg)
      | ((with_reducible refine atS 77 ?_); have hb := (Below.refl w7.heap.size w7).alloc (Nat.le_refl _) (.cells #[.int .u8 (X.upd.kind : Int)] U8f); have HDk : Hid (Bytes (w7.alloc (.cells #[.int .u8 (X.upd.kind : Int)] U8f)) (some ⟨w7.heap.size, 0, none⟩) 1 1 [UInt8.ofNat X.upd.kind]) := Lib.hid (by have h1 := bytes_one w7 (UInt8.ofNat X.upd.kind); rw [byte_of HXO.out.1] at h1; exact h1); have HOk := Lib.hid (HO7.out.below hb); have HRk := Lib.hid (HR7.out.below hb); have HBk := thn HB7 hb; have HZk := Lib.hid (HZ7.out.below hb); clear hb; go_must (refine app_bytes rfl _ _ rfl (w.heap.size + 1) _ (lgB P5 r.log i) rfl HOk.out _ 1 _ _ rfl HDk.out (by have h1 := HLl.out i; omega) HRk.out.lt ?_); intro v8 w8 ho hg; obtain ⟨a8, n8, c8, rfl, _⟩ := ho.bytes; have HR8 := Lib.hid (HRk.out.grown hg (row_ne HRk.out HOk.out (by decide))); have HB8 := Lib.hid (HBk.out.grown hg HBk.out.size (fun k hk => by have := (World.ownsRow.lt HOk.out k hk).1; omega)); have HZ8 := Lib.hid (HZk.out.grown hg (row_ne HZk.out HOk.out (by decide))); have HO8 := Lib.hid ho; have cn := HZ8.out.cell 1 rfl; clear ho hg)
      | (go_at_call 40; (with_reducible refine (rtxt X.upd.name w8 HXS.out).mono ?_); rintro e w9 ⟨d9, k9, q9, rfl, hd, hk, hb⟩; have HD9 := Lib.hid hd; have HK9 := Lib.hid hk; have HO9 := Lib.hid (HO8.out.below hb); have HR9 := Lib.hid (HR8.out.below hb); have HB9 := thn HB8 hb; have HZ9 := Lib.hid (HZ8.out.below hb); clear hd hk hb)
      | ((with_reducible refine atS 83 ?_); go_must (refine app_bytes rfl _ _ rfl (w.heap.size + 1) _ ((lgB P5 r.log i ++ [UInt8.ofNat X.upd.kind])) rfl HO9.out _ k9 _ _ rfl HD9.out (by have h1 := M1.out; have h2 := HK9.out; omega) HR9.out.lt ?_); intro va wa ho hg; obtain ⟨aa, na, ca, rfl, _⟩ := ho.bytes; have HRa := Lib.hid (HR9.out.grown hg (row_ne HR9.out HO9.out (by decide))); have HBa := Lib.hid (HB9.out.grown hg HB9.out.size (fun k hk => by have := (World.ownsRow.lt HO9.out k hk).1; omega)); have HZa := Lib.hid (HZ9.out.grown hg (row_ne HZ9.out HO9.out (by decide))); have HOa := Lib.hid ho; clear ho hg)
      | ((with_reducible refine atS 88 ?_); go_must (refine app_bytes rfl _ _ rfl (w.heap.size + 1) _ (((lgB P5 r.log i ++ [UInt8.ofNat X.upd.kind]) ++ txtRf X.upd.name)) rfl HOa.out _ 32 _ _ rfl (bytes_range HXo.out (enL_at X HXO.out HZa.out).1) (by have h1 := M2.out; omega) HRa.out.lt ?_); intro vb wb ho hg; obtain ⟨ab, nb, cb, rfl, _⟩ := ho.bytes; have HRb := Lib.hid (HRa.out.grown hg (row_ne HRa.out HOa.out (by decide))); have HBb := Lib.hid (HBa.out.grown hg HBa.out.size (fun k hk => by have := (World.ownsRow.lt HOa.out k hk).1; omega)); have HZb := Lib.hid (HZa.out.grown hg (row_ne HZa.out HOa.out (by decide))); have HOb := Lib.hid ho; clear ho hg)
      | ((with_reducible refine atS 93 ?_); go_must (refine app_bytes rfl _ _ rfl (w.heap.size + 1) _ ((((lgB P5 r.log i ++ [UInt8.ofNat X.upd.kind]) ++ txtRf X.upd.name) ++ X.upd.old)) rfl HOb.out _ 32 _ _ rfl (bytes_range HXn.out (enL_at X HXO.out HZb.out).2.1) (by have h1 := M3.out; omega) HRb.out.lt ?_); intro vc wc ho hg; obtain ⟨ac, nc, cc, rfl, _⟩ := ho.bytes; have HRc := Lib.hid (HRb.out.grown hg (row_ne HRb.out HOb.out (by decide))); have HBc := Lib.hid (HBb.out.grown hg HBb.out.size (fun k hk => by have := (World.ownsRow.lt HOb.out k hk).1; omega)); have HZc := Lib.hid (HZb.out.grown hg (row_ne HZb.out HOb.out (by decide))); have HOc := Lib.hid ho; have co := (enL_at X HXO.out HZc.out).2.2; clear ho hg)
      | (go_at_call 40; (with_reducible refine (rtxt X.note wc HXT.out).mono ?_); rintro e wd ⟨dd, kd, qd, rfl, hd, hk, hb⟩; have HDd := Lib.hid hd; have HKd := Lib.hid hk; have HOd := Lib.hid (HOc.out.below hb); have HRd := Lib.hid (HRc.out.below hb); have HBd := thn HBc hb; have HZd := Lib.hid (HZc.out.below hb); clear hd hk hb)
      | ((with_reducible refine atS 98 ?_); go_must (refine app_bytes rfl _ _ rfl (w.heap.size + 1) _ (((((lgB P5 r.log i ++ [UInt8.ofNat X.upd.kind]) ++ txtRf X.upd.name) ++ X.upd.old) ++ X.upd.new)) rfl HOd.out _ kd _ _ rfl HDd.out (by have h1 := M4.out; have h2 := HKd.out; omega) HRd.out.lt ?_); intro ve we ho hg; obtain ⟨ae, ne, ce, rfl, _⟩ := ho.bytes; have HRe := Lib.hid (HRd.out.grown hg (row_ne HRd.out HOd.out (by decide))); have HBe := Lib.hid (HBd.out.grown hg HBd.out.size (fun k hk => by have := (World.ownsRow.lt HOd.out k hk).1; omega)); have HOe := Lib.hid ho; have HOn : Hid (Own we (w.heap.size + 1) (.slice ae ne ce) (lgB P5 r.log (i + 1))) := Lib.hid (by rw [← HNX.out]; exact ho); clear ho hg))
     go_roundg (S.nl - (i + 1))
     case measure => have := HG2.out; have := HI.out; omega
     case rel => exact ⟨i + 1, ae, ne, ce, by go_num, rfl, by have := HI.out; omega, HOn, HRe, HBe⟩
    ·have hin : i = S.nl := by omega
     have HE : Hid (Own wr (w.heap.size + 1) (.slice a3 n3 c3) (writeF r)) := Lib.hid (by have h1 := HOs.out; rw [hin, ← HNl.out] at h1; unfold lgB at h1; rw [List.take_length] at h1; rw [HALL.out]; exact h1)
     clear hg2
     go_wp2
     go_ret
     exact ⟨a3, n3, c3, rfl, HE.out.mono (Nat.le_succ _), HBs.out⟩
end Go.Proofs.YthihmlojdopmfaaDoor

namespace Go.Proofs.YthihmlojdopmfaaDoor
open Go.RowKit

set_option maxRecDepth 100000 in
set_option maxHeartbeats 4000000 in
theorem refEncodeR_any (S : RfS) (r : RefsV) (w : World) (h : RfIn w S r) (hs : RfLen r) :
  Calls Tryd.prog 7 #[.agg (rfC S r.head r.at_)] w (EncIs w (encRf r)) := by
 obtain ⟨q, hq⟩ : ∃ q : Bool, q = true ↔ RightV r := by classical exact ⟨decide (RightV r), decide_eq_true_iff⟩
 have HD : Hid (encRf r = if q then (writeF r, 0) else ([], 1)) := Lib.hid (by
  unfold encRf
  cases q
  ·simp only [Bool.false_eq_true, if_false]; rw [if_neg (fun h => by cases hq.2 h)]
  ·simp only [if_true]; rw [if_pos (hq.1 rfl)])
 have HAT := Lib.hid h.at_
 have HIN := Lib.hid h
 have HQ := Lib.hid hq
 obtain ⟨w1, hw1⟩ : ∃ W, w.alloc (.cells (rfC S r.head r.at_) RREf) = W := ⟨_, rfl⟩
 have HB1 : Hid (Below w.heap.size w w1) := Lib.hid (hw1 ▸ (Below.refl _ _).alloc (Nat.le_refl _) _)
 have HR1 : Hid (RowAt w1 w.heap.size RREf (rfL S r.head r.at_)) := Lib.hid (hw1 ▸ heap_alloc_new w _)
 have HS1 : Hid (w.heap.size ≤ w1.heap.size) := Lib.hid HB1.out.size
 have HW1 := Lib.hid hw1
 have HRT := Lib.hid (refRight_any S r w1 (h.below HB1.out) hs q hq)
 clear h hq hw1
 cases q
 ·go_enter Tryd.func7, Tryd.ntmps7
  go_wp2_with (first
   | ((with_reducible show wpList _ _ _ (⟨some 4, _, _, _, _, _⟩ :: _) _ (World.alloc _ _)); rw [HW1.out]; go_must (refine wl_ex rfl (exec_loadRr _ rfl _ S r.head r.at_ HAT.out rfl HR1.out) ?_))
   | (go_at_call 15; go_must (refine HRT.out.mono ?_); rintro e w2 ⟨rfl, hb⟩; have HB2 := thn HB1 hb; clear hb))
  go_ret2
  rw [HD.out]
  exact ⟨none, 0, 0, rfl, Own.nil _ _, HB2.out⟩
 ·have HWL := Lib.hid (wrLen (HQ.out.1 rfl) HIN.out)
  go_enter Tryd.func7, Tryd.ntmps7
  go_wp2_with (first
   | ((with_reducible show wpList _ _ _ (⟨some 4, _, _, _, _, _⟩ :: _) _ (World.alloc _ _)); rw [HW1.out]; go_must (refine wl_ex rfl (exec_loadRr _ rfl _ S r.head r.at_ HAT.out rfl HR1.out) ?_))
   | (go_at_call 15; go_must (refine HRT.out.mono ?_); rintro e w2 ⟨rfl, hb⟩; have HB2 := thn HB1 hb; have HR2 := Lib.hid (HR1.out.below hb); clear hb)
   | ((with_reducible refine atS 7 ?_); go_must (refine wl_ex rfl (exec_loadRr _ rfl _ S r.head r.at_ HAT.out rfl HR2.out) ?_))
   | (go_at_call 16; go_must (refine (refRfBytes_any S r w2 (HIN.out.below HB2.out) HWL.out).mono ?_); rintro e w3 ⟨a3, n3, c3, rfl, ho, hb⟩; have HO3 := Lib.hid (ho.mono HB2.out.size); have HB3 := thn HB2 hb; clear ho hb))
  go_ret2
  rw [HD.out]
  exact ⟨a3, n3, c3, rfl, HO3.out, HB3.out⟩
end Go.Proofs.YthihmlojdopmfaaDoor

