/-
 The law: the bytes of any refs, and any bytes as refs.
-/
import Derived.Test.YthihmlojdopmfaaDoorGrp20
import Derived.Test.YthihmlojdopmfaaDoorGrp1
import Derived.Test.YthihmlojdopmfaaDoorGrp23
import Derived.Test.YthihmlojdopmfaaDoorRfRefDec
namespace Go.Proofs.YthihmlojdopmfaaDoor
open Go.RowKit

theorem decLens (B : List UInt8) : (decRf B).1.br.length ≤ 100000 ∧ (decRf B).1.tg.length ≤ 100000 ∧ (decRf B).1.log.length ≤ 100000 := by
 rcases dec_cases B with h | ⟨s, h, hr, hf, _⟩
 ·rw [h]; exact ⟨by decide, by decide, by decide⟩
 ·rw [h]
  have h1 := hr.1.1
  have h2 := hr.2.1.1
  have h3 := hr.2.2.2.1
  refine ⟨?_, ?_, ?_⟩ <;> simp only <;> omega
theorem dec32 (B : List UInt8) : (decRf B).1.at_.length = 32 := by
 rcases dec_cases B with h | ⟨s, h, hr, hf, _⟩
 ·rw [h]; rfl
 ·rw [h]; exact hf.2.2.2
theorem bytes_off {w w' : World} {g base : Nat} {v : Value} {l : List UInt8} {us : List Value} (h : Own w base v l) (hR : RowAt w g REf us) (hg : w.grownBy w' (some g)) : Own w' base v l := World.ownsRow.kept h hg (row_apartq hR h)
set_option maxRecDepth 100000 in
set_option maxHeartbeats 32000000 in
theorem refsBytes_any (S : RfS) (r : RefsV) (a : Option Addr) (n c : Nat) (B : List UInt8) (w : World) (h : RfIn w S r) (hS : Bytes w a n c B) (hT : Tabs w) :
  Calls Tryd.prog 3 #[.agg (rfC S r.head r.at_), .slice a n c] w fun e w' => e = .returned (.bool true) ∧ Below w.heap.size w w' := by
 obtain ⟨q, hq⟩ : ∃ q : Bool, q = true ↔ LightV r := by classical exact ⟨decide (LightV r), decide_eq_true_iff⟩
 obtain ⟨X, hX⟩ : ∃ X, encRf r = X := ⟨_, rfl⟩
 obtain ⟨Z, hZ⟩ : ∃ Z, decRf B = Z := ⟨_, rfl⟩
 have HAT := Lib.hid h.at_
 have HIN := Lib.hid h
 have HS := Lib.hid hS
 have HQ := Lib.hid hq
 have HXE := Lib.hid hX
 have HZE := Lib.hid hZ
 have HZL := Lib.hid (hZ ▸ decLens B)
 have HZ32 := Lib.hid (hZ ▸ dec32 B)
 have HTB := Lib.hid (fun W (hW : Below w.heap.size w W) => hT.below hW)
 have HB0 := Lib.hid ((Below.refl w.heap.size w).alloc (Nat.le_refl _) (.cells (rfC S r.head r.at_) RREf))
 have HR0 := Lib.hid (show RowAt (w.alloc (.cells (rfC S r.head r.at_) RREf)) w.heap.size RREf (rfL S r.head r.at_) from heap_alloc_new w _)
 have HLT := Lib.hid (fun W (hW : Below w.heap.size w W) => light_any S r W (h.below hW) q hq)
 have HAW := Lib.hid (fun W (hW : Below w.heap.size w W) => awake_any W (hT.below hW))
 have HDA := Lib.hid (fun a6 n6 c6 W (hB : Bytes W a6 n6 c6 B) (hW : Below w.heap.size w W) => (hZ ▸ decodeR_any a6 n6 c6 B W hB (hT.below hW) : Calls Tryd.prog 8 #[.slice a6 n6 c6] W (ApplyIs W Z)))
 have HDB := Lib.hid (fun W (hW : Below w.heap.size w W) => (hZ ▸ refDecodeR_any a n c B W (hS.below hW) : Calls Tryd.prog 9 #[.slice a n c] W (DecRq W Z)))
 have hn0 : (0 : Int) ≤ (n : Int) := by omega
 clear h hT hq hS hX hZ
 cases q
 ·go_enter Tryd.func3, Tryd.ntmps3
  go_wp2_with (first
   | ((with_reducible refine atS 13 ?_); go_must (refine wl_ex rfl (exec_loadRr _ rfl _ S r.head r.at_ HAT.out rfl HR0.out) ?_))
   | (go_at_call 4; go_must (refine (HLT.out _ HB0.out).mono ?_); rintro e w2 ⟨rfl, hb⟩; have HR2 := Lib.hid (HR0.out.below hb); have HB2 := thn HB0 hb; clear hb))
  go_ret
  exact ⟨rfl, HB2.out⟩
 ·have HLV := Lib.hid (HQ.out.1 rfl)
  by_cases hl : (6000 : Int) < (n : Int)
  ·have d1 : decide (6000 < n) = true := decide_eq_true (by omega)
   go_enter Tryd.func3, Tryd.ntmps3
   go_wp2_with (first
    | ((with_reducible refine atS 13 ?_); go_must (refine wl_ex rfl (exec_loadRr _ rfl _ S r.head r.at_ HAT.out rfl HR0.out) ?_))
    | (go_at_call 4; go_must (refine (HLT.out _ HB0.out).mono ?_); rintro e w2 ⟨rfl, hb⟩; have HR2 := Lib.hid (HR0.out.below hb); have HB2 := thn HB0 hb; clear hb))
   go_ret
   exact ⟨rfl, HB2.out⟩
  ·have d1 : decide (6000 < n) = false := decide_eq_false (by omega)
   have HN6 : Hid (n ≤ 6000) := Lib.hid (by omega)
   have HFW := Lib.hid (HLV.out.few HIN.out)
   have HEA := Lib.hid (fun S3 W (hI : RfIn W S3 r) (hW : Below w.heap.size w W) => (HXE.out ▸ encodeR_any S3 r W hI HLV.out.len (HTB.out _ hW) : Calls Tryd.prog 5 #[.agg (rfC S3 r.head r.at_)] W (EncIs W X)))
   have HEB := Lib.hid (fun W (hW : Below w.heap.size w W) => (HXE.out ▸ refEncodeR_any S r W (HIN.out.below hW) HLV.out.len : Calls Tryd.prog 7 #[.agg (rfC S r.head r.at_)] W (EncIs W X)))
   go_enter Tryd.func3, Tryd.ntmps3
   go_wp2_with (first
    | ((with_reducible refine atS 13 ?_); go_must (refine wl_ex rfl (exec_loadRr _ rfl _ S r.head r.at_ HAT.out rfl HR0.out) ?_))
    | (go_at_call 4; go_must (refine (HLT.out _ HB0.out).mono ?_); rintro e w2 ⟨rfl, hb⟩; have HR2 := Lib.hid (HR0.out.below hb); have HB2 := thn HB0 hb; clear hb)
    | ((with_reducible refine atS 22 ?_); go_must (refine wl_ex rfl (exec_loadRr _ rfl _ S r.head r.at_ HAT.out rfl HR2.out) ?_))
    | (go_at_call 6; (with_reducible refine (told_any S r w2 (HIN.out.below HB2.out) HFW.out).mono ?_); rintro e w3 ⟨S3, rfl, ho, hb⟩; have HR3 := Lib.hid (HR2.out.below hb); have HB3 := thn HB2 hb; have HT3 := Lib.hid ho; clear ho hb)
    | (go_at_call 5; go_must (refine (HEA.out S3 w3 HT3.out.in_ HB3.out).mono ?_); rintro e w4 ⟨a4, n4, c4, rfl, ho, hb⟩; have HR4 := Lib.hid (HR3.out.below hb); have HB4 := thn HB3 hb; have HC4 := Lib.hid ho; clear ho hb)
    | ((with_reducible refine atS 28 ?_); go_must (refine wl_ex rfl (exec_loadRr _ rfl _ S r.head r.at_ HAT.out rfl HR4.out) ?_))
    | (go_at_call 7; go_must (refine (HEB.out w4 HB4.out).mono ?_); rintro e w5 ⟨a5, n5, c5, rfl, ho, hb⟩; have HR5 := Lib.hid (HR4.out.below hb); have HC5 := Lib.hid (HC4.out.below hb); have HB5 := thn HB4 hb; have HD5 := Lib.hid ho; have HL5 : Hid (w.heap.size ≤ w5.heap.size) := Lib.hid HB5.out.size; clear ho hb)
    | (at_builtin; have hb := (Below.refl w5.heap.size w5).alloc (Nat.le_refl _) (.cells #[] U8f); have HOe : Hid (Own (w5.alloc (.cells #[] U8f)) w5.heap.size (.slice (some ⟨w5.heap.size, 0, none⟩) 0 0) []) := Lib.hid (OwnG.ofW (OwnG.lit (K := bwK) (E := U8f) (w := w5) (L := []) rfl #[] rfl)); have HRe := Lib.hid (HR5.out.below hb); have HCe := Lib.hid (HC5.out.below hb); have HDe := Lib.hid (HD5.out.below hb); have HBe := thn HB5 hb; have HLe : Hid (w5.heap.size ≤ (w5.alloc (.cells #[] U8f)).heap.size) := Lib.hid hb.size; clear hb; go_must (refine app_bytes rfl _ _ rfl w5.heap.size _ [] rfl HOe.out _ n c B rfl (HS.out.below HBe.out) (by rw [List.length_nil]; have := HN6.out; omega) HLe.out ?_); intro v6 w6 ho hg; obtain ⟨a6, n6, c6, rfl, _⟩ := ho.bytes; have HB6 := Lib.hid (HBe.out.grown hg HBe.out.size (fun k hk => by have h1 := (World.ownsRow.lt HOe.out k hk).1; have h2 := HL5.out; omega)); have hbo : Below w5.heap.size w5 w6 := (((Below.refl w5.heap.size w5).alloc (Nat.le_refl _) (.cells #[] U8f)).grown hg HLe.out (fun k hk => (World.ownsRow.lt HOe.out k hk).1)); have HR6 := Lib.hid (HR5.out.below hbo); have HC6 := Lib.hid (HC5.out.below hbo); have HD6 := Lib.hid (HD5.out.below hbo); have HQ6 := Lib.hid ho.isBytes; clear ho hg hbo)
    | (go_at_call 8; go_must (refine (HDA.out a6 n6 c6 w6 HQ6.out HB6.out).mono ?_); rintro e w7 ⟨S7, rfl, ho, hb⟩; have HR7 := Lib.hid (HR6.out.below hb); have HC7 := Lib.hid (HC6.out.below hb); have HD7 := Lib.hid (HD6.out.below hb); have HB7 := thn HB6 hb; have HO7 := Lib.hid ho; clear ho hb)
    | ((with_reducible refine atS 9 ?_); go_must (refine alloc_rf rfl rfl ?_); intro w8 hz hb; have HG7 := Lib.hid (show w.heap.size < w7.heap.size from HR7.out.lt); have HC8 := Lib.hid (HC7.out.below hb); have HD8 := Lib.hid (HD7.out.below hb); have HO8 := Lib.hid (HO7.out.below hb); have HB8 := thn HB7 hb; have HY8 := Lib.hid hz; clear hz hb; generalize w7.heap.size = g9 at HY8 HG7 ⊢)
    | ((with_reducible refine atT 9 ?_); go_must (refine wl_store_rf (S := S7) (h := Z.1.head) (a := Z.1.at_) HO8.out.at_ HY8.out (len36 rfl) rfl _ _ rfl rfl rfl ?_); intro w9 hz hg; have HY9 := Lib.hid hz; have HO9 := Lib.hid (in_grown HO8.out HY8.out hg); have HC9 := Lib.hid (bytes_off HC8.out HY8.out hg); have HD9 := Lib.hid (bytes_off HD8.out HY8.out hg); have HB9 := Lib.hid (HB8.out.grown hg HB8.out.size (fun k hk => by cases hk; exact Nat.le_of_lt HG7.out)); clear hz hg)
    | (go_at_call 9; go_must (refine (HDB.out w9 HB9.out).mono ?_); rintro e wa ⟨Sa, rfl, ho, hb⟩; have HCa := Lib.hid (HC9.out.below hb); have HDa := Lib.hid (HD9.out.below hb); have HYa := Lib.hid (HY9.out.below hb); have HOa := Lib.hid (HO9.out.below hb); have HBa := thn HB9 hb; have HIa := Lib.hid ho; have HGa := Lib.hid (show w.heap.size ≤ wa.heap.size from HBa.out.size); clear ho hb)
    | ((with_reducible refine atS 11 ?_); go_must (refine Of.alloc_rf rfl rfl ?_); intro wb hz hb; have HXb := Lib.hid hz; have HKb := Lib.hid hb; have HN9 : Hid (g9 < wa.heap.size) := Lib.hid HYa.out.lt; clear hz hb; generalize hgb : wa.heap.size = gb at HXb HKb HN9 ⊢; have HGE := Lib.hid hgb; clear hgb)
    | ((with_reducible refine atT 11 ?_); go_must (refine Of.wl_store_rf (S := Sa) (h := Z.1.head) (a := Z.1.at_) HZ32.out HXb.out (len36 rfl) rfl _ _ rfl rfl rfl ?_); intro wc hz hg; have hb : Below wa.heap.size wa wc := (by rw [HGE.out]; exact HKb.out.grown hg (by rw [← HGE.out]; exact HKb.out.size) (fun k hk => by cases hk; exact Nat.le_refl _)); have HXc := Lib.hid hz; have HCc := Lib.hid (HCa.out.below hb); have HDc := Lib.hid (HDa.out.below hb); have HYc := Lib.hid (HYa.out.below hb); have HOc := Lib.hid (HOa.out.below hb); have HIc := Lib.hid (HIa.out.below hb); have HBc := thn HBa hb; clear hz hg hb))
   have HKd : Hid (Below wc.heap.size wc wc.drew) := Lib.hid (Below.refl wc.heap.size wc).drew
   have HOd := Lib.hid (HOc.out.below HKd.out)
   have HF7 : Hid (RfFew S7) := Lib.hid (by have a1 := HOc.out.br.len; have a2 := HOc.out.tg.len; have a3 := HOc.out.log.len; have h := HZL.out; exact ⟨by omega, by omega, by omega⟩)
   refine wp_region_held_drew (S := fun W => Below wc.heap.size wc W) (by kernel_rfl) HKd.out (fun hHeld => ?_)
   refine tk 0 (mo 44 (.move (.tmp 5))) (.slice a4 n4 c4) rfl ?_
   refine tk 1 (mo 45 (.convert 28 9 (.tmp 44))) (.string (strB X.1)) rfl ?_ (Or.inl ⟨by rfl, fun W hW => by have hs := run_str (HCc.out.isBytes.below hW) 9 Tryd.underlying9; go_simp⟩)
   refine tk 2 (mo 46 (.move (.tmp 7))) (.slice a5 n5 c5) rfl ?_
   refine tk 3 (mo 47 (.convert 28 9 (.tmp 46))) (.string (strB X.1)) rfl ?_ (Or.inl ⟨by rfl, fun W hW => by have hs := run_str (HDc.out.isBytes.below hW) 9 Tryd.underlying9; go_simp⟩)
   refine tk 4 (mo 48 (.binOp .eql 9 (.tmp 45) (.tmp 47) 9)) (.bool true) rfl ?_
   refine tk 5 (mo 49 (.move (.tmp 48))) (.bool true) rfl ?_
   refine tk 6 (mo 50 (.move (.tmp 6))) (.int .i64 (X.2 : Nat)) rfl ?_
   refine tk 7 (mo 51 (.move (.tmp 8))) (.int .i64 (X.2 : Nat)) rfl ?_
   refine tk 8 (mo 52 (.binOp .eql 3 (.tmp 50) (.tmp 51) 3)) (.bool true) rfl ?_
   refine tk 9 (mo 53 (.pick (.tmp 49) (.tmp 52) (.const (.bool false)))) (.bool true) rfl ?_
   refine tk 10 (mo 54 (.move (.tmp 53))) (.bool true) rfl ?_
   refine tk 11 (mo 55 (.load 35 (.tmp 9))) (.agg (rfC S7 Z.1.head Z.1.at_)) rfl ?_ (Or.inl ⟨by rfl, fun W hW => exec_loadRf _ rfl g9 S7 Z.1.head Z.1.at_ HZ32.out rfl (HYc.out.below hW)⟩)
   refine tk 13 (mo 57 (.load 27 (.tmp 11))) (.agg (rfC Sa Z.1.head Z.1.at_)) rfl ?_ (Or.inl ⟨by rfl, fun W hW => Of.exec_loadRf _ rfl gb Sa Z.1.head Z.1.at_ HZ32.out rfl (HXc.out.below hW)⟩)
   refine rdH [12] ?_
   refine AllReadyH.cons (o := ⟨some 56, .call { callee := .value (.func 11), args := #[(.tmp 55)], argTypes := #[35] }, _, _, _, _⟩) rfl (fun K hK => ?_) AllReadyH.nil
   go_simp
   refine (Of.of_any S7 Z.1 _ HOd.out.inn HF7.out).mono ?_
   rintro e w8 ⟨S8, rfl, ho, hb⟩
   have HO8 := Lib.hid ho
   have HK8 := thn HKd hb
   clear ho hb
   refine hK.out _ _ HK8.out (fun hHeld => ?_)
   clear hK K
   refine rdH [14] ?_
   refine AllReadyH.cons (o := ⟨some 58, .call { callee := .value (.func 10), args := #[(.tmp 56), (.tmp 57)], argTypes := #[27, 27] }, _, _, _, _⟩) rfl (fun K hK => ?_) AllReadyH.nil
   go_simp
   refine (sameRf_any S8 Sa Z.1 _ (Of.in_ HO8.out) (HIc.out.below HK8.out) (Of.few HO8.out HZL.out.1 HZL.out.2.1 HZL.out.2.2)).mono ?_
   rintro e w9 ⟨rfl, hb⟩
   have HK9 := thn HK8 hb
   clear hb
   refine hK.out _ _ HK9.out (fun hHeld => ?_)
   clear hK K
   refine tk 15 (mo 59 (.pick (.tmp 54) (.tmp 58) (.const (.bool false)))) (.bool true) rfl ?_
   refine tk 16 (mo 60 (.move (.tmp 59))) (.bool true) rfl ?_
   refine tk 17 (mo 61 (.move (.tmp 10))) (.int .i64 (Z.2 : Nat)) rfl ?_
   refine tk 18 (mo 62 (.move (.tmp 12))) (.int .i64 (Z.2 : Nat)) rfl ?_
   refine tk 19 (mo 63 (.binOp .eql 3 (.tmp 61) (.tmp 62) 3)) (.bool true) rfl ?_
   refine tk 20 (mo 64 (.pick (.tmp 60) (.tmp 63) (.const (.bool false)))) (.bool true) rfl ?_
   refine tk 21 (mo 65 (.move (.tmp 64))) (.bool true) rfl ?_
   refine rdH [22] ?_
   refine AllReadyH.cons (o := ⟨some 66, .call { callee := .value (.func 12), args := #[], argTypes := #[] }, _, _, _, _⟩) rfl (fun K hK => ?_) AllReadyH.nil
   go_simp
   have HB9z := Lib.hid (HBc.out.trans (HK9.out.mono HBc.out.size))
   refine (HAW.out _ HB9z.out).mono ?_
   rintro e we ⟨rfl, hb⟩
   have HBe := thn HB9z hb
   have HKe := thn HK9 hb
   clear hb
   refine hK.out _ _ HKe.out (fun hHeld => ?_)
   clear hK K
   refine tk 23 (mo 67 (.pick (.tmp 65) (.tmp 66) (.const (.bool false)))) (.bool true) rfl ?_
   refine tk 24 (mo 4 (.assign (.tmp 67))) (.bool true) rfl ?_
   refine wpAnyH_done (by kernel_rfl) ?_ _
   go_wp2_with fail
   go_ret
   exact ⟨rfl, HBe.out⟩
end Go.Proofs.YthihmlojdopmfaaDoor
