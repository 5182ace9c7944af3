/-
  Merged: RfDecode, RfBackLaw.
-/
import Derived.Test.YthihmlojdopmfaaDoorRfRead5
import Derived.Test.YthihmlojdopmfaaDoorGrp1
import Derived.Test.YthihmlojdopmfaaDoorGrp19
import Derived.Test.YthihmlojdopmfaaDoorRfTold
import Derived.Test.YthihmlojdopmfaaDoorGrp14
namespace Go.Proofs.YthihmlojdopmfaaDoor
open Go.RowKit

theorem Full.few {w : World} {base : Nat} {S : RfS} {r : RefsV} (h : RfOwn w base S r) (h1 : r.br.length ≤ 64) (h2 : r.tg.length ≤ 64) (h3 : r.log.length ≤ 64) : RfFew S := by
 have a1 := h.br.len
 have a2 := h.tg.len
 have a3 := h.log.len
 exact ⟨by omega, by omega, by omega⟩
set_option maxRecDepth 100000 in
set_option maxHeartbeats 4000000 in
theorem decodeR_any (a : Option Addr) (n c : Nat) (B : List UInt8) (w : World) (h : Bytes w a n c B) (hT : Tabs w) :
  Calls Tryd.prog 8 #[.slice a n c] w (ApplyIs w (decRf B)) := by
 have HS := Lib.hid h
 have HTB := Lib.hid (fun W (hW : Below w.heap.size w W) => hT.below hW)
 clear h hT
 rcases hq : readF B 32 with _ | r
 ·have HRD := Lib.hid (fun W (hW : Below w.heap.size w W) => (hq ▸ read_any a n c B W (HS.out.below hW) : Calls Tryd.prog 17 #[.slice a n c] W (ReadIs none W)))
  have HD : Hid (decRf B = (noRefs, 6)) := Lib.hid (by unfold decRf; rw [hq])
  clear hq
  go_enter Tryd.func8, Tryd.ntmps8
  go_wp2_with (first
   | ((with_reducible refine atS 2 ?_); go_must (refine alloc_rf rfl rfl ?_); intro w1 hz hb; have HZ1 := Lib.hid hz; have HB1 := Lib.hid hb; clear hz hb)
   | (go_at_call 17; go_must (refine (HRD.out w1 HB1.out).mono ?_); rintro e w2 ⟨rfl, hb⟩; have HB2 := thn HB1 hb; have HZ2 := Lib.hid (HZ1.out.below hb); have HG2 := Lib.hid (show w.heap.size < w2.heap.size from HZ2.out.lt); clear hb)
   | ((with_reducible refine atS 4 ?_); go_must (refine alloc_rf rfl rfl ?_); intro w3 hz hb; have HY3 := Lib.hid hz; have HB3 := thn HB2 hb; have HZ3 := Lib.hid (HZ2.out.below hb); clear hz hb; generalize w2.heap.size = g4 at HY3 HG2 ⊢)
   | ((with_reducible refine atT 4 ?_); go_must (refine wl_store_rf (S := noS) (h := []) (a := zId) rfl HY3.out (len36 rfl) rfl _ _ rfl rfl rfl ?_); intro w4 hz hg; have HZ4 := Lib.hid (HZ3.out.grown hg (fun e => by have := Option.some.inj e; have := HG2.out; omega)); have HB4 := Lib.hid (HB3.out.grown hg HB3.out.size (fun k hk => by cases hk; exact Nat.le_of_lt HG2.out)); clear hz hg)
   | ((with_reducible refine atS 18 ?_); go_must (refine wl_ex rfl (exec_zrf rfl) ?_))
   | ((with_reducible show wpList _ _ _ (⟨_, Op.store _ (.tmp 2) (.tmp 18), _, _, _, _⟩ :: _) _ _); go_must (refine wl_store_rf (S := noS) (h := []) (a := zId) rfl HZ4.out (len36 rfl) rfl _ _ rfl rfl rfl ?_); intro w5 hz hg; have HZ5 := Lib.hid hz; have HB5 := Lib.hid (HB4.out.grown hg HB4.out.size (fun k hk => by cases hk; exact Nat.le_refl _)); clear hz hg))
  refine bodyPost_ret (results_rf (S := noS) (h := []) (m := zId) rfl HZ5.out rfl _ rfl) rfl ?_
  rw [HD.out]
  exact ⟨noS, rfl, RfOwn.noneOwn _ _, HB5.out⟩
 ·obtain ⟨o1, o2, o3, o4, o5, o6, o7, o8, o9⟩ := read_ok hq
  have HRL : Hid (RfLen r) := Lib.hid (fun e he => by have := o3 e he; exact ⟨by omega, by omega⟩)
  have HRD := Lib.hid (fun W (hW : Below w.heap.size w W) => (hq ▸ read_any a n c B W (HS.out.below hW) : Calls Tryd.prog 17 #[.slice a n c] W (ReadIs (some r) W)))
  obtain ⟨q, hqr⟩ : ∃ q : Bool, q = true ↔ RightV r := by classical exact ⟨decide (RightV r), decide_eq_true_iff⟩
  have HD : Hid (decRf B = if q then (r, 0) else (noRefs, 6)) := Lib.hid (by
   unfold decRf; rw [hq]
   cases q
   ·simp only [Bool.false_eq_true, if_false]; rw [if_neg (fun h => by cases hqr.2 h)]
   ·simp only [if_true]; rw [if_pos (hqr.1 rfl)])
  have HQ := Lib.hid hqr
  have HAT : Hid (r.at_.length = 32) := Lib.hid o2.2.2.2
  clear hq o1 o2 o3 o4 o5 o6 o7 o8 o9 hqr
  cases q
  ·go_enter Tryd.func8, Tryd.ntmps8
   go_wp2_with (first
    | ((with_reducible refine atS 2 ?_); go_must (refine alloc_rf rfl rfl ?_); intro w1 hz hb; have HZ1 := Lib.hid hz; have HB1 := Lib.hid hb; clear hz hb)
    | (go_at_call 17; go_must (refine (HRD.out w1 HB1.out).mono ?_); rintro e w2 ⟨S1, rfl, ho, hb⟩; have HO2 := Lib.hid ho; have HB2 := thn HB1 hb; have HZ2 := Lib.hid (HZ1.out.below hb); have HG2 := Lib.hid (show w.heap.size < w2.heap.size from HZ2.out.lt); clear ho hb)
    | ((with_reducible refine atS 4 ?_); go_must (refine alloc_rf rfl rfl ?_); intro w3 hz hb; have HY3 := Lib.hid hz; have HO3 := Lib.hid (HO2.out.below hb); have HB3 := thn HB2 hb; have HZ3 := Lib.hid (HZ2.out.below hb); clear hz hb; generalize w2.heap.size = g4 at HY3 HG2 ⊢)
    | ((with_reducible refine atT 4 ?_); go_must (refine wl_store_rf (S := S1) (h := r.head) (a := r.at_) HAT.out HY3.out (len36 rfl) rfl _ _ rfl rfl rfl ?_); intro w4 hz hg; have HY4 := Lib.hid hz; have HO4 := Lib.hid (in_grown HO3.out HY3.out hg); have HZ4 := Lib.hid (HZ3.out.grown hg (fun e => by have := Option.some.inj e; have := HG2.out; omega)); have HB4 := Lib.hid (HB3.out.grown hg HB3.out.size (fun k hk => by cases hk; exact Nat.le_of_lt HG2.out)); clear hz hg)
    | ((with_reducible refine atS 14 ?_); go_must (refine wl_ex rfl (exec_loadRf _ rfl _ S1 r.head r.at_ HAT.out rfl HY4.out) ?_))
    | (go_at_call 13; go_must (refine (right_any S1 r w4 HO4.out.inn HRL.out (HTB.out _ HB4.out) false HQ.out).mono ?_); rintro e w5 ⟨rfl, hb⟩; have HB5 := thn HB4 hb; have HZ5 := Lib.hid (HZ4.out.below hb); clear hb)
    | ((with_reducible refine atS 18 ?_); go_must (refine wl_ex rfl (exec_zrf rfl) ?_))
    | ((with_reducible show wpList _ _ _ (⟨_, Op.store _ (.tmp 2) (.tmp 18), _, _, _, _⟩ :: _) _ _); go_must (refine wl_store_rf (S := noS) (h := []) (a := zId) rfl HZ5.out (len36 rfl) rfl _ _ rfl rfl rfl ?_); intro w6 hz hg; have HZ6 := Lib.hid hz; have HB6 := Lib.hid (HB5.out.grown hg HB5.out.size (fun k hk => by cases hk; exact Nat.le_refl _)); clear hz hg))
   refine bodyPost_ret (results_rf (S := noS) (h := []) (m := zId) rfl HZ6.out rfl _ rfl) rfl ?_
   rw [HD.out]
   exact ⟨noS, rfl, RfOwn.noneOwn _ _, HB6.out⟩
  ·have HQR := Lib.hid (HQ.out.1 rfl)
   go_enter Tryd.func8, Tryd.ntmps8
   go_wp2_with (first
    | ((with_reducible refine atS 2 ?_); go_must (refine alloc_rf rfl rfl ?_); intro w1 hz hb; have HZ1 := Lib.hid hz; have HB1 := Lib.hid hb; clear hz hb)
    | (go_at_call 17; go_must (refine (HRD.out w1 HB1.out).mono ?_); rintro e w2 ⟨S1, rfl, ho, hb⟩; have HO2 := Lib.hid (ho.mono HB1.out.size); have HB2 := thn HB1 hb; have HZ2 := Lib.hid (HZ1.out.below hb); have HG2 := Lib.hid (show w.heap.size < w2.heap.size from HZ2.out.lt); clear ho hb)
    | ((with_reducible refine atS 4 ?_); go_must (refine alloc_rf rfl rfl ?_); intro w3 hz hb; have HY3 := Lib.hid hz; have HO3 := Lib.hid (HO2.out.below hb); have HB3 := thn HB2 hb; have HZ3 := Lib.hid (HZ2.out.below hb); clear hz hb; generalize w2.heap.size = g4 at HY3 HG2 ⊢)
    | ((with_reducible refine atT 4 ?_); go_must (refine wl_store_rf (S := S1) (h := r.head) (a := r.at_) HAT.out HY3.out (len36 rfl) rfl _ _ rfl rfl rfl ?_); intro w4 hz hg; have HY4 := Lib.hid hz; have HO4 := Lib.hid (in_grown HO3.out HY3.out hg); have HZ4 := Lib.hid (HZ3.out.grown hg (fun e => by have := Option.some.inj e; have := HG2.out; omega)); have HB4 := Lib.hid (HB3.out.grown hg HB3.out.size (fun k hk => by cases hk; exact Nat.le_of_lt HG2.out)); clear hz hg)
    | ((with_reducible refine atS 14 ?_); go_must (refine wl_ex rfl (exec_loadRf _ rfl _ S1 r.head r.at_ HAT.out rfl HY4.out) ?_))
    | (go_at_call 13; go_must (refine (right_any S1 r w4 HO4.out.inn HRL.out (HTB.out _ HB4.out) true ⟨fun _ => HQR.out, fun _ => rfl⟩).mono ?_); rintro e w5 ⟨rfl, hb⟩; have HB5 := thn HB4 hb; have HZ5 := Lib.hid (HZ4.out.below hb); have HY5 := Lib.hid (HY4.out.below hb); have HO5 := Lib.hid (HO4.out.below hb); clear hb)
    | ((with_reducible refine atS 19 ?_); go_must (refine wl_ex rfl (exec_loadRf _ rfl _ S1 r.head r.at_ HAT.out rfl HY5.out) ?_))
    | ((with_reducible show wpList _ _ _ (⟨_, Op.store _ (.tmp 2) (.tmp 19), _, _, _, _⟩ :: _) _ _); go_must (refine wl_store_rf (S := S1) (h := r.head) (a := r.at_) HAT.out HZ5.out (len36 rfl) rfl _ _ rfl rfl rfl ?_); intro w6 hz hg; have HZ6 := Lib.hid hz; have HO6 := Lib.hid (in_grown HO5.out HZ5.out hg); have HB6 := Lib.hid (HB5.out.grown hg HB5.out.size (fun k hk => by cases hk; exact Nat.le_refl _)); clear hz hg))
   refine bodyPost_ret (results_rf (S := S1) (h := r.head) (m := r.at_) HAT.out HZ6.out rfl _ rfl) rfl ?_
   rw [HD.out]
   exact ⟨S1, rfl, HO6.out, HB6.out⟩
end Go.Proofs.YthihmlojdopmfaaDoor

namespace Go.Proofs.YthihmlojdopmfaaDoor
open Go.RowKit

theorem dec_cases (B : List UInt8) : decRf B = (noRefs, 6) ∨ ∃ s, decRf B = (s, 0) ∧ RightV s ∧ Full s ∧ writeF s = B := by
 unfold decRf
 cases h : readF B 32 with
 | none => exact .inl rfl
 | some s =>
  obtain ⟨o1, o2, _⟩ := read_ok h
  by_cases hr : RightV s
  ·exact .inr ⟨s, if_pos hr, hr, o2, o1⟩
  ·exact .inl (if_neg hr)
theorem Of.in_ {w : World} {base : Nat} {S : RfS} {r : RefsV} (h : Of.RfOwn w base S r) : RfIn w S r := ⟨h.br.atG, h.tg.atG, h.log.atG, h.at_⟩
theorem Of.few {w : World} {base : Nat} {S : RfS} {r : RefsV} (h : Of.RfOwn w base S r) (h1 : r.br.length ≤ 100000) (h2 : r.tg.length ≤ 100000) (h3 : r.log.length ≤ 100000) : RfFew S := by
 have a1 := h.br.len
 have a2 := h.tg.len
 have a3 := h.log.len
 exact ⟨by omega, by omega, by omega⟩
end Go.Proofs.YthihmlojdopmfaaDoor
