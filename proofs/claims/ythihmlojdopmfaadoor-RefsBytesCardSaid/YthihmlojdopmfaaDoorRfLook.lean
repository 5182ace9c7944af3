/-
 The walk of Look.
-/
import Derived.Test.YthihmlojdopmfaaDoorGrp11
import Derived.Test.YthihmlojdopmfaaDoorGrp1
import Derived.Test.YthihmlojdopmfaaDoorGrp12
namespace Go.Proofs.YthihmlojdopmfaaDoor
open Go.RowKit

noncomputable def hexEnd (x : List UInt8) : List UInt8 × Nat := if unhexB x then (unhexV x, 0) else (idZero, 4)
noncomputable def inL (L : List RName) (x : List UInt8) (e : List UInt8 × Nat) : List UInt8 × Nat := if thereF L x then ((gd L (findF L x)).2, 0) else e
noncomputable def lookF (r : RefsV) (s : List UInt8) : List UInt8 × Nat :=
 if s = [] then (if r.head = [] then (r.at_, 0) else inL r.br r.head (hexEnd r.head)) else inL r.br s (inL r.tg s (hexEnd s))
theorem unhex_len (x : List UInt8) : (unhexV x).length = 32 := unhexV_length x
theorem unhex_is (x : List UInt8) (p : ByteArray) (hp : strB x = p) (v : List UInt8) (b : Bool) (hv : unhexV x = v) (hb : unhexB x = b) (hl : x.length ≤ 1000000) (w : World) :
  Calls Tryd.prog 56 #[.string p] w fun e w' => e = .returned (.tuple #[.agg (idCells v), .bool b]) ∧ Below w.heap.size w w' := by
 subst hp
 refine (unhex_any (strB x) w (by rw [strB_size]; omega)).mono ?_
 rintro e w' ⟨he, hb'⟩
 rw [strB_list, hv, hb] at he
 exact ⟨he, hb'⟩
noncomputable def restF (x : List UInt8) (Ls : List (List RName)) : List UInt8 × Nat := Ls.foldr (fun L e => inL L x e) (hexEnd x)
theorem restF_step {x : List UInt8} {Ls Ms : List (List RName)} {L : List RName} (h : Ls = L :: Ms) : restF x Ls = inL L x (restF x Ms) := by rw [h]; rfl
theorem pick2 {w : World} {S : RfS} {r : RefsV} (h : RfIn w S r) (hr : RightV r) (i : Nat) (hi : i < 2) :
  ∃ a n c L, ([.slice S.ab S.nb S.cb, .slice S.ag S.ng S.cg] : List Value)[i]? = some (.slice a n c) ∧ AtG rnK w a n c L ∧ RightN L ∧ [r.br, r.tg].drop i = L :: [r.br, r.tg].drop (i + 1) := by
 match i, hi with
 | 0, _ => exact ⟨_, _, _, r.br, rfl, h.br, hr.1, rfl⟩
 | 1, _ => exact ⟨_, _, _, r.tg, rfl, h.tg, hr.2.1, rfl⟩
theorem pick1 {w : World} {S : RfS} {r : RefsV} (h : RfIn w S r) (hr : RightV r) (i : Nat) (hi : i < 1) :
  ∃ a n c L, ([.slice S.ab S.nb S.cb, .slice S.ag S.ng S.cg] : List Value)[i]? = some (.slice a n c) ∧ AtG rnK w a n c L ∧ RightN L ∧ [r.br].drop i = L :: [r.br].drop (i + 1) := by
 match i, hi with
 | 0, _ => exact ⟨_, _, _, r.br, rfl, h.br, hr.1, rfl⟩
abbrev LsT : TypeId := 33
theorem infoLs : (Tryd.prog.info? LsT).map (fun i => (i.zero, i.size, i.bytes)) = some (some (.slice none 0 0), 1, 24) := by kernel_rfl
theorem wl_sl2 {ops : Array Oper} {rest : List Oper} {o : Oper} {a : Act} {w : World} {Q : Exit → Act → World → Prop} (hg : o.guard = none) (x0 x1 : Operand) (ho : o.op = .buildSlice 107 2 #[(0, x0), (1, x1)]) (a0 a1 : Option Addr) (n0 n1 c0 c1 : Nat) (h0 : a.eval x0 = .slice a0 n0 c0) (h1 : a.eval x1 = .slice a1 n1 c1)
  (h : wpList Tryd.prog ops Q rest (a.put o.dst (.slice (some ⟨w.heap.size, 0, none⟩) 2 2)) (w.alloc (.cells #[.slice a0 n0 c0, .slice a1 n1 c1] LsT))) : wpList Tryd.prog ops Q (o :: rest) a w :=
 wpList_plain hg fun _ hK => by
  obtain ⟨i0, hi, hz0, hz1, hz2⟩ := info_parts infoLs
  refine wp_buildSlice 107 LsT 2 #[(0, x0), (1, x1)] ho #[.slice a0 n0 c0, .slice a1 n1 c1] i0 _ Tryd.underlying107 hi hz0 (by rw [hz1]; decide) (by rw [hz1]; decide) ?_ (hK _ _ h)
  rw [hz1]
  have e : (#[(0, x0), (1, x1)].map fun (p : Nat × Operand) => (p.1, a.eval p.2)).toList = [(0, .slice a0 n0 c0), (1, .slice a1 n1 c1)] := by simp [h0, h1]
  exact (congrArg (Instr.fill (fun i => some (i * 1, 1)) _) e).trans (by kernel_rfl)
def LookIs (w : World) (z : List UInt8 × Nat) (e : Ending) (w' : World) : Prop := e = .returned (.tuple #[.agg (idCells z.1), .int .i64 (z.2 : Nat)]) ∧ Below w.heap.size w w'
theorem head_len {h a : List UInt8} (hf : headF h a = true) : h.length ≤ 1000000 := by
 unfold headF at hf
 by_cases h0 : h = []
 ·rw [h0]; exact Nat.zero_le _
 ·rw [if_neg h0, Bool.and_eq_true] at hf
  have := name_len hf.1
  omega
theorem id_grown {w w' : World} {g : Nat} {l : List UInt8} {row : Option Nat} (h : IdAt w g l) (hg : w.grownBy w' row) (hr : some g ≠ row) : IdAt w' g l :=
 ⟨h.1, by rw [hg.block g ((Array.getElem?_eq_some_iff.1 h.2).1) hr]; exact h.2⟩
set_option maxRecDepth 100000 in
set_option maxHeartbeats 4000000 in
theorem look_any (S : RfS) (r : RefsV) (s : List UInt8) (p : ByteArray) (hp : strB s = p) (w : World) (h : RfIn w S r) (hs : RfLen r) (hsl : s.length ≤ 1000000) (hT : Tabs w) (q : Bool) (hq : q = true ↔ RightV r) :
  Calls Tryd.prog 25 #[.agg (rfC S r.head r.at_), .string p] w (LookIs w (if q then lookF r s else (idZero, 1))) := by
 have HAT := Lib.hid h.at_
 have HPE := Lib.hid hp
 have HIN := Lib.hid h
 have HRT := Lib.hid (fun W (hW : Below w.heap.size w W) => right_any S r W (h.below hW) hs (hT.below hW) q hq)
 have HB0 := Lib.hid ((Below.refl w.heap.size w).alloc (Nat.le_refl _) (.cells (rfC S r.head r.at_) REf))
 have HR0 := Lib.hid (show RowAt (w.alloc (.cells (rfC S r.head r.at_) REf)) w.heap.size REf (rfL S r.head r.at_) from heap_alloc_new w _)
 have HQ := Lib.hid hq
 have HSL := Lib.hid hsl
 have HEM : Hid ((p.toList == []) = decide (s = [])) := Lib.hid (by rw [← hp]; exact strB_nil s)
 clear h hs hsl hT hq hp
 cases q
 ·go_enter Tryd.func25, Tryd.ntmps25
  go_wp2_with (first
   | ((with_reducible refine atS 4 ?_); go_must (refine alloc_id rfl rfl ?_); intro w1 hi1 hb1 hs1; have HB1 := thn HB0 hb1; have HR1 := Lib.hid (HR0.out.below hb1); have HI1 := Lib.hid hi1; have HG4 := Lib.hid HB0.out.size; generalize (w.alloc (.cells (rfC S r.head r.at_) REf)).heap.size = g4 at hi1 hs1 HI1 HG4 ⊢; clear hi1 hb1 hs1)
   | ((with_reducible refine atS 13 ?_); go_must (refine wl_ex rfl (exec_loadRf _ rfl _ S r.head r.at_ HAT.out rfl HR1.out) ?_))
   | (go_at_call 13; go_must (refine (HRT.out _ HB1.out).mono ?_); rintro e w2 ⟨rfl, hb2⟩; have HB2 := thn HB1 hb2; have HR2 := Lib.hid (HR1.out.below hb2); have HI2 := Lib.hid (HI1.out.below hb2); have c20 := rf_br HR2.out; have c21 := rf_tg HR2.out; clear hb2)
   | ((with_reducible refine atS 16 ?_); go_must (refine wl_ex rfl (exec_zid rfl) ?_))
   | ((with_reducible refine atT 4 ?_); go_must (refine store_id rfl _ _ rfl _ idZero idZero rfl rfl HI2.out idZero_length ?_); intro wz hiz hgz hsz; have HIz := Lib.hid hiz; have HGz := Lib.hid hgz; clear hiz hgz hsz))
  refine bodyPost_ret (results_id2 rfl _ _ _ _ rfl HIz.out) rfl ?_
  exact ⟨rfl, HB2.out.grown HGz.out HB2.out.size (fun k hk => by cases hk; exact HG4.out)⟩
 ·have HRV := Lib.hid (HQ.out.1 rfl)
  obtain ⟨Z, hZ⟩ : ∃ Z, lookF r s = Z := ⟨_, rfl⟩
  rw [if_pos rfl, hZ]
  obtain ⟨y, hy⟩ : ∃ y, strB r.head = y := ⟨_, rfl⟩
  have HYE := Lib.hid hy
  have HC2 := Lib.hid (fun W (hh : RowAt W w.heap.size REf (rfL S r.head r.at_)) => (hy ▸ rf_hd hh : W.cell? ⟨w.heap.size, 2, none⟩ = some (.string y)))
  have HYM : Hid ((y.toList == []) = decide (r.head = [])) := Lib.hid (by rw [← hy]; exact strB_nil r.head)
  have HYL : Hid (r.head.length ≤ 1000000) := Lib.hid (head_len HRV.out.2.2.1)
  by_cases h0 : s = []
  ·have he : (p.toList == []) = true := by rw [HEM.out, decide_eq_true h0]
   subst h0
   by_cases h1 : r.head = []
   ·have hye : (y.toList == []) = true := by rw [HYM.out, decide_eq_true h1]
    have hZ3 : Z = (r.at_, 0) := by rw [← hZ]; unfold lookF; rw [if_pos rfl, if_pos h1]
    subst hZ3
    clear hZ h1 hy
    go_enter Tryd.func25, Tryd.ntmps25
    go_wp2_with (first
     | ((with_reducible refine atS 4 ?_); go_must (refine alloc_id rfl rfl ?_); intro w1 hi1 hb1 hs1; have HB1 := thn HB0 hb1; have HR1 := Lib.hid (HR0.out.below hb1); have HI1 := Lib.hid hi1; have HG4 := Lib.hid HB0.out.size; generalize (w.alloc (.cells (rfC S r.head r.at_) REf)).heap.size = g4 at hi1 hs1 HI1 HG4 ⊢; clear hi1 hb1 hs1)
     | ((with_reducible refine atS 13 ?_); go_must (refine wl_ex rfl (exec_loadRf _ rfl _ S r.head r.at_ HAT.out rfl HR1.out) ?_))
     | (go_at_call 13; go_must (refine (HRT.out _ HB1.out).mono ?_); rintro e w2 ⟨rfl, hb2⟩; have HB2 := thn HB1 hb2; have HR2 := Lib.hid (HR1.out.below hb2); have HI2 := Lib.hid (HI1.out.below hb2); have c20 := rf_br HR2.out; have c21 := rf_tg HR2.out; clear hb2)
     | ((with_reducible refine atS 21 ?_); go_must (refine wl_sl2 rfl _ _ rfl _ _ _ _ _ _ rfl rfl ?_); have hb3 := (Below.refl w2.heap.size w2).alloc (Nat.le_refl _) (.cells #[.slice S.ab S.nb S.cb, .slice S.ag S.ng S.cg] LsT); have HL3 : Hid (RowAt (w2.alloc (.cells #[.slice S.ab S.nb S.cb, .slice S.ag S.ng S.cg] LsT)) w2.heap.size LsT [.slice S.ab S.nb S.cb, .slice S.ag S.ng S.cg]) := Lib.hid (heap_alloc_new w2 _); have HB3 := thn HB2 hb3; have HR3 := Lib.hid (HR2.out.below hb3); have HI3 := Lib.hid (HI2.out.below hb3); have c32 := HC2.out _ HR3.out; clear hb3; generalize w2.alloc (.cells #[.slice S.ab S.nb S.cb, .slice S.ag S.ng S.cg] LsT) = w3 at HL3 HB3 HR3 HI3 c32 ⊢; generalize w2.heap.size = gl at HL3 ⊢)
     | ((with_reducible refine atS 28 ?_); go_must (refine wl_load rfl _ rfl _ _ r.at_ HAT.out rfl (rf_at HR3.out) ?_))
     | ((with_reducible refine atT 4 ?_); go_must (refine store_id rfl _ _ rfl _ idZero r.at_ rfl rfl HI3.out HAT.out ?_); intro wz hiz hgz hsz; have HIz := Lib.hid hiz; have HGz := Lib.hid hgz; clear hiz hgz hsz))
    refine bodyPost_ret (results_id2 rfl _ _ _ _ rfl HIz.out) rfl ?_
    exact ⟨rfl, HB3.out.grown HGz.out HB3.out.size (fun k hk => by cases hk; exact HG4.out)⟩
   ·have hye : (y.toList == []) = false := by rw [HYM.out, decide_eq_false h1]
    have HZ : Hid (Z = restF r.head ([r.br].drop 0)) := Lib.hid (by rw [← hZ]; unfold lookF; rw [if_pos rfl, if_neg h1]; rfl)
    have HXE := HYE
    have HXL := HYL
    clear hZ h1 hy
    go_enter Tryd.func25, Tryd.ntmps25
    go_wp2_with (first
     | ((with_reducible refine atS 4 ?_); go_must (refine alloc_id rfl rfl ?_); intro w1 hi1 hb1 hs1; have HB1 := thn HB0 hb1; have HR1 := Lib.hid (HR0.out.below hb1); have HI1 := Lib.hid hi1; have HG4 := Lib.hid HB0.out.size; generalize (w.alloc (.cells (rfC S r.head r.at_) REf)).heap.size = g4 at hi1 hs1 HI1 HG4 ⊢; clear hi1 hb1 hs1)
     | ((with_reducible refine atS 13 ?_); go_must (refine wl_ex rfl (exec_loadRf _ rfl _ S r.head r.at_ HAT.out rfl HR1.out) ?_))
     | (go_at_call 13; go_must (refine (HRT.out _ HB1.out).mono ?_); rintro e w2 ⟨rfl, hb2⟩; have HB2 := thn HB1 hb2; have HR2 := Lib.hid (HR1.out.below hb2); have HI2 := Lib.hid (HI1.out.below hb2); have c20 := rf_br HR2.out; have c21 := rf_tg HR2.out; clear hb2)
     | ((with_reducible refine atS 21 ?_); go_must (refine wl_sl2 rfl _ _ rfl _ _ _ _ _ _ rfl rfl ?_); have hb3 := (Below.refl w2.heap.size w2).alloc (Nat.le_refl _) (.cells #[.slice S.ab S.nb S.cb, .slice S.ag S.ng S.cg] LsT); have HL3 : Hid (RowAt (w2.alloc (.cells #[.slice S.ab S.nb S.cb, .slice S.ag S.ng S.cg] LsT)) w2.heap.size LsT [.slice S.ab S.nb S.cb, .slice S.ag S.ng S.cg]) := Lib.hid (heap_alloc_new w2 _); have HB3 := thn HB2 hb3; have HR3 := Lib.hid (HR2.out.below hb3); have HI3 := Lib.hid (HI2.out.below hb3); have c32 := HC2.out _ HR3.out; clear hb3; generalize w2.alloc (.cells #[.slice S.ab S.nb S.cb, .slice S.ag S.ng S.cg] LsT) = w3 at HL3 HB3 HR3 HI3 c32 ⊢; generalize w2.heap.size = gl at HL3 ⊢))
    go_quiet (fail)
    have hbq := below_drewK (Below.refl w3.heap.size w3) nq
    have HB4 := thn HB3 hbq
    have HI4 := Lib.hid (HI3.out.below hbq)
    have HL4 := Lib.hid (HL3.out.below hbq)
    clear hbq c32
    generalize w3.drewN nq = w4 at HB4 HI4 HL4 ⊢
    go_wp2
    go_loopg [35] 1 (fun g v35 W => ∃ i : Nat, v35 = .int .i64 i ∧ g + i = 1 ∧ Hid (Below w.heap.size w W) ∧ Hid (IdAt W g4 idZero) ∧ Hid (RowAt W gl LsT [.slice S.ab S.nb S.cb, .slice S.ag S.ng S.cg]) ∧ Hid (Z = restF r.head ([r.br].drop i)))
    case atStart => exact ⟨0, rfl, rfl, HB4, HI4, HL4, HZ⟩
    case round =>
     obtain ⟨i, rfl, hg, HB, HI, HL, HZi⟩ := hrel
     have HG := Lib.hid hg
     have hi0 : (0 : Int) ≤ (i : Int) := by omega
     have hiI : (i : Int) ≤ 1 := by omega
     by_cases hi : (i : Int) < 1
     ·have hin : i < 1 := by omega
      have HIN2 := Lib.hid hin
      obtain ⟨a, n, c, L, hcs, hat, hrn, hdr⟩ := pick1 (HIN.out.below HB.out) HRV.out i hin
      have hcell := HL.out.cell i hcs
      have HLC := Lib.hid hat
      have HDR := Lib.hid hdr
      obtain ⟨k, hk⟩ : ∃ k, findF L r.head = k := ⟨_, rfl⟩
      obtain ⟨t, ht⟩ : ∃ t, thereF L r.head = t := ⟨_, rfl⟩
      have HFD := Lib.hid (find_is a n c L r.head y HXE.out wr hat hrn.asc (by have := hat.1; have := hrn.1; omega) k hk t ht)
      have HK := Lib.hid hk
      have HTH := Lib.hid ht
      have HKN : Hid (t = true → k < n) := Lib.hid (fun h => by rw [h] at ht; unfold thereF at ht; rw [Bool.and_eq_true, decide_eq_true_eq] at ht; have := hat.1; omega)
      have HNI : Hid ((n : Int) ≤ 100000) := Lib.hid (by have := hat.1; have := hrn.1; omega)
      clear hcs hat hrn hdr hk ht hg
      cases t
      ·go_wp2_with (go_at_call 55; go_must (refine HFD.out.mono ?_); rintro e w5 ⟨rfl, hb5⟩; have HB5 := thn HB hb5; have HI5 := Lib.hid (HI.out.below hb5); have HL5 := Lib.hid (HL.out.below hb5); have HC5 := Lib.hid (HLC.out.below hb5); clear hb5)
       go_roundg (1 - (i + 1))
       case measure => have := HG.out; have := HIN2.out; omega
       case rel => exact ⟨i + 1, by go_num, by have := HIN2.out; omega, HB5, HI5, HL5, Lib.hid (by rw [HZi.out, restF_step HDR.out]; unfold inL; rw [HTH.out]; rfl)⟩
      ·have hkn := HKN.out rfl
       have HKX := Lib.hid hkn
       obtain ⟨b, o, rfl⟩ := HLC.out.some_ (by omega)
       have HX : Hid ((gd L k).2.length = 32) := Lib.hid (HLC.out.ok hkn)
       have hZ : Z = ((gd L k).2, 0) := by rw [HZi.out, restF_step HDR.out]; unfold inL; rw [HTH.out, HK.out]; rfl
       subst hZ
       have hk0 : (0 : Int) ≤ (k : Int) := by omega
       have hknI : (k : Int) < (n : Int) := by omega
       clear hkn
       go_wp2_with (first
        | (go_at_call 55; go_must (refine HFD.out.mono ?_); rintro e w5 ⟨rfl, hb5⟩; have HB5 := thn HB hb5; have HI5 := Lib.hid (HI.out.below hb5); have HL5 := Lib.hid (HL.out.below hb5); have HC5 := Lib.hid (HLC.out.below hb5); clear hb5)
        | ((with_reducible refine atS 50 ?_); go_must (refine wl_load rfl _ rfl _ _ (gd L k).2 HX.out rfl (rn_id HC5.out HKX.out) ?_))
        | ((with_reducible refine atT 4 ?_); go_must (refine store_id rfl _ _ rfl _ idZero (gd L k).2 rfl rfl HI5.out HX.out ?_); intro wz hiz hgz hsz; have HIz := Lib.hid hiz; have HGz := Lib.hid hgz; clear hiz hgz hsz))
       refine bodyPost_ret (results_id2 rfl _ _ _ _ rfl HIz.out) rfl ?_
       exact ⟨rfl, HB5.out.grown HGz.out HB5.out.size (fun k hk => by cases hk; exact HG4.out)⟩
     ·have hiE : i = 1 := by omega
      subst hiE
      obtain ⟨v, hv⟩ : ∃ v, unhexV r.head = v := ⟨_, rfl⟩
      obtain ⟨ub, hb⟩ : ∃ b, unhexB r.head = b := ⟨_, rfl⟩
      have HVL : Hid (v.length = 32) := Lib.hid (by rw [← hv]; exact unhex_len _)
      have hZ2 : Z = if ub then (v, 0) else (idZero, 4) := by rw [HZi.out]; show hexEnd r.head = _; unfold hexEnd; rw [hv, hb]
      have HUX := Lib.hid (fun W => unhex_is r.head y HXE.out v ub hv hb HXL.out W)
      clear hv hb
      cases ub
      ·have hZ : Z = (idZero, 4) := hZ2
       subst hZ
       clear hZ2
       go_wp2_with (first
        | (go_at_call 56; go_must (refine (HUX.out _).mono ?_); rintro e w6 ⟨rfl, hb6⟩; have HB6 := thn HB hb6; have HI6 := Lib.hid (HI.out.below hb6); clear hb6)
        | ((with_reducible refine atS 11 ?_); go_must (refine alloc_id rfl rfl ?_); intro w7 hi7 hb7 hs7; have HB7 := thn HB6 hb7; have HI7 := Lib.hid (HI6.out.below hb7); have HJ7 := Lib.hid hi7; have HG11 : Hid (w.heap.size ≤ w6.heap.size ∧ g4 < w6.heap.size) := Lib.hid ⟨HB6.out.size, (Array.getElem?_eq_some_iff.1 HI6.out.2).1⟩; generalize w6.heap.size = g11 at hi7 hs7 HJ7 HG11 ⊢; clear hi7 hb7 hs7)
        | ((with_reducible refine atT 11 ?_); go_must (refine store_id rfl _ _ rfl _ idZero v rfl rfl HJ7.out HVL.out ?_); intro w8 hi8 hg8 hs8; have HJ8 := Lib.hid hi8; have HI8 := Lib.hid (id_grown HI7.out hg8 (fun e => by cases e; exact Nat.lt_irrefl _ HG11.out.2)); have HB8 := Lib.hid (HB7.out.grown hg8 HB7.out.size (fun k hk => by cases hk; exact HG11.out.1)); clear hi8 hg8 hs8)
        | ((with_reducible refine atS 59 ?_); go_must (refine wl_ex rfl (exec_zid rfl) ?_))
        | ((with_reducible refine atT 4 ?_); go_must (refine store_id rfl _ _ rfl _ idZero idZero rfl rfl HI8.out idZero_length ?_); intro wz hiz hgz hsz; have HIz := Lib.hid hiz; have HGz := Lib.hid hgz; clear hiz hgz hsz))
       refine bodyPost_ret (results_id2 rfl _ _ _ _ rfl HIz.out) rfl ?_
       exact ⟨rfl, HB8.out.grown HGz.out HB8.out.size (fun k hk => by cases hk; exact HG4.out)⟩
      ·have hZ : Z = (v, 0) := hZ2
       subst hZ
       clear hZ2
       go_wp2_with (first
        | (go_at_call 56; go_must (refine (HUX.out _).mono ?_); rintro e w6 ⟨rfl, hb6⟩; have HB6 := thn HB hb6; have HI6 := Lib.hid (HI.out.below hb6); clear hb6)
        | ((with_reducible refine atS 11 ?_); go_must (refine alloc_id rfl rfl ?_); intro w7 hi7 hb7 hs7; have HB7 := thn HB6 hb7; have HI7 := Lib.hid (HI6.out.below hb7); have HJ7 := Lib.hid hi7; have HG11 : Hid (w.heap.size ≤ w6.heap.size ∧ g4 < w6.heap.size) := Lib.hid ⟨HB6.out.size, (Array.getElem?_eq_some_iff.1 HI6.out.2).1⟩; generalize w6.heap.size = g11 at hi7 hs7 HJ7 HG11 ⊢; clear hi7 hb7 hs7)
        | ((with_reducible refine atT 11 ?_); go_must (refine store_id rfl _ _ rfl _ idZero v rfl rfl HJ7.out HVL.out ?_); intro w8 hi8 hg8 hs8; have HJ8 := Lib.hid hi8; have HI8 := Lib.hid (id_grown HI7.out hg8 (fun e => by cases e; exact Nat.lt_irrefl _ HG11.out.2)); have HB8 := Lib.hid (HB7.out.grown hg8 HB7.out.size (fun k hk => by cases hk; exact HG11.out.1)); clear hi8 hg8 hs8)
        | ((with_reducible refine atS 58 ?_); go_must (refine wl_load rfl _ rfl _ _ v HVL.out rfl HJ8.out.range ?_))
        | ((with_reducible refine atT 4 ?_); go_must (refine store_id rfl _ _ rfl _ idZero v rfl rfl HI8.out HVL.out ?_); intro wz hiz hgz hsz; have HIz := Lib.hid hiz; have HGz := Lib.hid hgz; clear hiz hgz hsz))
       refine bodyPost_ret (results_id2 rfl _ _ _ _ rfl HIz.out) rfl ?_
       exact ⟨rfl, HB8.out.grown HGz.out HB8.out.size (fun k hk => by cases hk; exact HG4.out)⟩
  ·have he : (p.toList == []) = false := by rw [HEM.out, decide_eq_false h0]
   have HZ : Hid (Z = restF s ([r.br, r.tg].drop 0)) := Lib.hid (by rw [← hZ]; unfold lookF; rw [if_neg h0]; rfl)
   have HXE := HPE
   have HXL := HSL
   clear hZ h0 hy
   go_enter Tryd.func25, Tryd.ntmps25
   go_wp2_with (first
    | ((with_reducible refine atS 4 ?_); go_must (refine alloc_id rfl rfl ?_); intro w1 hi1 hb1 hs1; have HB1 := thn HB0 hb1; have HR1 := Lib.hid (HR0.out.below hb1); have HI1 := Lib.hid hi1; have HG4 := Lib.hid HB0.out.size; generalize (w.alloc (.cells (rfC S r.head r.at_) REf)).heap.size = g4 at hi1 hs1 HI1 HG4 ⊢; clear hi1 hb1 hs1)
    | ((with_reducible refine atS 13 ?_); go_must (refine wl_ex rfl (exec_loadRf _ rfl _ S r.head r.at_ HAT.out rfl HR1.out) ?_))
    | (go_at_call 13; go_must (refine (HRT.out _ HB1.out).mono ?_); rintro e w2 ⟨rfl, hb2⟩; have HB2 := thn HB1 hb2; have HR2 := Lib.hid (HR1.out.below hb2); have HI2 := Lib.hid (HI1.out.below hb2); have c20 := rf_br HR2.out; have c21 := rf_tg HR2.out; clear hb2)
    | ((with_reducible refine atS 21 ?_); go_must (refine wl_sl2 rfl _ _ rfl _ _ _ _ _ _ rfl rfl ?_); have hb3 := (Below.refl w2.heap.size w2).alloc (Nat.le_refl _) (.cells #[.slice S.ab S.nb S.cb, .slice S.ag S.ng S.cg] LsT); have HL3 : Hid (RowAt (w2.alloc (.cells #[.slice S.ab S.nb S.cb, .slice S.ag S.ng S.cg] LsT)) w2.heap.size LsT [.slice S.ab S.nb S.cb, .slice S.ag S.ng S.cg]) := Lib.hid (heap_alloc_new w2 _); have HB3 := thn HB2 hb3; have HR3 := Lib.hid (HR2.out.below hb3); have HI3 := Lib.hid (HI2.out.below hb3); have c32 := HC2.out _ HR3.out; clear hb3; generalize w2.alloc (.cells #[.slice S.ab S.nb S.cb, .slice S.ag S.ng S.cg] LsT) = w3 at HL3 HB3 HR3 HI3 c32 ⊢; generalize w2.heap.size = gl at HL3 ⊢))
   go_loopg [35] 2 (fun g v35 W => ∃ i : Nat, v35 = .int .i64 i ∧ g + i = 2 ∧ Hid (Below w.heap.size w W) ∧ Hid (IdAt W g4 idZero) ∧ Hid (RowAt W gl LsT [.slice S.ab S.nb S.cb, .slice S.ag S.ng S.cg]) ∧ Hid (Z = restF s ([r.br, r.tg].drop i)))
   case atStart => exact ⟨0, rfl, rfl, HB3, HI3, HL3, HZ⟩
   case round =>
    obtain ⟨i, rfl, hg, HB, HI, HL, HZi⟩ := hrel
    have HG := Lib.hid hg
    have hi0 : (0 : Int) ≤ (i : Int) := by omega
    have hiI : (i : Int) ≤ 2 := by omega
    by_cases hi : (i : Int) < 2
    ·have hin : i < 2 := by omega
     have HIN2 := Lib.hid hin
     obtain ⟨a, n, c, L, hcs, hat, hrn, hdr⟩ := pick2 (HIN.out.below HB.out) HRV.out i hin
     have hcell := HL.out.cell i hcs
     have HLC := Lib.hid hat
     have HDR := Lib.hid hdr
     obtain ⟨k, hk⟩ : ∃ k, findF L s = k := ⟨_, rfl⟩
     obtain ⟨t, ht⟩ : ∃ t, thereF L s = t := ⟨_, rfl⟩
     have HFD := Lib.hid (find_is a n c L s p HXE.out wr hat hrn.asc (by have := hat.1; have := hrn.1; omega) k hk t ht)
     have HK := Lib.hid hk
     have HTH := Lib.hid ht
     have HKN : Hid (t = true → k < n) := Lib.hid (fun h => by rw [h] at ht; unfold thereF at ht; rw [Bool.and_eq_true, decide_eq_true_eq] at ht; have := hat.1; omega)
     have HNI : Hid ((n : Int) ≤ 100000) := Lib.hid (by have := hat.1; have := hrn.1; omega)
     clear hcs hat hrn hdr hk ht hg
     cases t
     ·go_wp2_with (go_at_call 55; go_must (refine HFD.out.mono ?_); rintro e w5 ⟨rfl, hb5⟩; have HB5 := thn HB hb5; have HI5 := Lib.hid (HI.out.below hb5); have HL5 := Lib.hid (HL.out.below hb5); have HC5 := Lib.hid (HLC.out.below hb5); clear hb5)
      go_roundg (2 - (i + 1))
      case measure => have := HG.out; have := HIN2.out; omega
      case rel => exact ⟨i + 1, by go_num, by have := HIN2.out; omega, HB5, HI5, HL5, Lib.hid (by rw [HZi.out, restF_step HDR.out]; unfold inL; rw [HTH.out]; rfl)⟩
     ·have hkn := HKN.out rfl
      have HKX := Lib.hid hkn
      obtain ⟨b, o, rfl⟩ := HLC.out.some_ (by omega)
      have HX : Hid ((gd L k).2.length = 32) := Lib.hid (HLC.out.ok hkn)
      have hZ : Z = ((gd L k).2, 0) := by rw [HZi.out, restF_step HDR.out]; unfold inL; rw [HTH.out, HK.out]; rfl
      subst hZ
      have hk0 : (0 : Int) ≤ (k : Int) := by omega
      have hknI : (k : Int) < (n : Int) := by omega
      clear hkn
      go_wp2_with (first
       | (go_at_call 55; go_must (refine HFD.out.mono ?_); rintro e w5 ⟨rfl, hb5⟩; have HB5 := thn HB hb5; have HI5 := Lib.hid (HI.out.below hb5); have HL5 := Lib.hid (HL.out.below hb5); have HC5 := Lib.hid (HLC.out.below hb5); clear hb5)
       | ((with_reducible refine atS 50 ?_); go_must (refine wl_load rfl _ rfl _ _ (gd L k).2 HX.out rfl (rn_id HC5.out HKX.out) ?_))
       | ((with_reducible refine atT 4 ?_); go_must (refine store_id rfl _ _ rfl _ idZero (gd L k).2 rfl rfl HI5.out HX.out ?_); intro wz hiz hgz hsz; have HIz := Lib.hid hiz; have HGz := Lib.hid hgz; clear hiz hgz hsz))
      refine bodyPost_ret (results_id2 rfl _ _ _ _ rfl HIz.out) rfl ?_
      exact ⟨rfl, HB5.out.grown HGz.out HB5.out.size (fun k hk => by cases hk; exact HG4.out)⟩
    ·have hiE : i = 2 := by omega
     subst hiE
     obtain ⟨v, hv⟩ : ∃ v, unhexV s = v := ⟨_, rfl⟩
     obtain ⟨ub, hb⟩ : ∃ b, unhexB s = b := ⟨_, rfl⟩
     have HVL : Hid (v.length = 32) := Lib.hid (by rw [← hv]; exact unhex_len _)
     have hZ2 : Z = if ub then (v, 0) else (idZero, 4) := by rw [HZi.out]; show hexEnd s = _; unfold hexEnd; rw [hv, hb]
     have HUX := Lib.hid (fun W => unhex_is s p HXE.out v ub hv hb HXL.out W)
     clear hv hb
     cases ub
     ·have hZ : Z = (idZero, 4) := hZ2
      subst hZ
      clear hZ2
      go_wp2_with (first
       | (go_at_call 56; go_must (refine (HUX.out _).mono ?_); rintro e w6 ⟨rfl, hb6⟩; have HB6 := thn HB hb6; have HI6 := Lib.hid (HI.out.below hb6); clear hb6)
       | ((with_reducible refine atS 11 ?_); go_must (refine alloc_id rfl rfl ?_); intro w7 hi7 hb7 hs7; have HB7 := thn HB6 hb7; have HI7 := Lib.hid (HI6.out.below hb7); have HJ7 := Lib.hid hi7; have HG11 : Hid (w.heap.size ≤ w6.heap.size ∧ g4 < w6.heap.size) := Lib.hid ⟨HB6.out.size, (Array.getElem?_eq_some_iff.1 HI6.out.2).1⟩; generalize w6.heap.size = g11 at hi7 hs7 HJ7 HG11 ⊢; clear hi7 hb7 hs7)
       | ((with_reducible refine atT 11 ?_); go_must (refine store_id rfl _ _ rfl _ idZero v rfl rfl HJ7.out HVL.out ?_); intro w8 hi8 hg8 hs8; have HJ8 := Lib.hid hi8; have HI8 := Lib.hid (id_grown HI7.out hg8 (fun e => by cases e; exact Nat.lt_irrefl _ HG11.out.2)); have HB8 := Lib.hid (HB7.out.grown hg8 HB7.out.size (fun k hk => by cases hk; exact HG11.out.1)); clear hi8 hg8 hs8)
       | ((with_reducible refine atS 59 ?_); go_must (refine wl_ex rfl (exec_zid rfl) ?_))
       | ((with_reducible refine atT 4 ?_); go_must (refine store_id rfl _ _ rfl _ idZero idZero rfl rfl HI8.out idZero_length ?_); intro wz hiz hgz hsz; have HIz := Lib.hid hiz; have HGz := Lib.hid hgz; clear hiz hgz hsz))
      refine bodyPost_ret (results_id2 rfl _ _ _ _ rfl HIz.out) rfl ?_
      exact ⟨rfl, HB8.out.grown HGz.out HB8.out.size (fun k hk => by cases hk; exact HG4.out)⟩
     ·have hZ : Z = (v, 0) := hZ2
      subst hZ
      clear hZ2
      go_wp2_with (first
       | (go_at_call 56; go_must (refine (HUX.out _).mono ?_); rintro e w6 ⟨rfl, hb6⟩; have HB6 := thn HB hb6; have HI6 := Lib.hid (HI.out.below hb6); clear hb6)
       | ((with_reducible refine atS 11 ?_); go_must (refine alloc_id rfl rfl ?_); intro w7 hi7 hb7 hs7; have HB7 := thn HB6 hb7; have HI7 := Lib.hid (HI6.out.below hb7); have HJ7 := Lib.hid hi7; have HG11 : Hid (w.heap.size ≤ w6.heap.size ∧ g4 < w6.heap.size) := Lib.hid ⟨HB6.out.size, (Array.getElem?_eq_some_iff.1 HI6.out.2).1⟩; generalize w6.heap.size = g11 at hi7 hs7 HJ7 HG11 ⊢; clear hi7 hb7 hs7)
       | ((with_reducible refine atT 11 ?_); go_must (refine store_id rfl _ _ rfl _ idZero v rfl rfl HJ7.out HVL.out ?_); intro w8 hi8 hg8 hs8; have HJ8 := Lib.hid hi8; have HI8 := Lib.hid (id_grown HI7.out hg8 (fun e => by cases e; exact Nat.lt_irrefl _ HG11.out.2)); have HB8 := Lib.hid (HB7.out.grown hg8 HB7.out.size (fun k hk => by cases hk; exact HG11.out.1)); clear hi8 hg8 hs8)
       | ((with_reducible refine atS 58 ?_); go_must (refine wl_load rfl _ rfl _ _ v HVL.out rfl HJ8.out.range ?_))
       | ((with_reducible refine atT 4 ?_); go_must (refine store_id rfl _ _ rfl _ idZero v rfl rfl HI8.out HVL.out ?_); intro wz hiz hgz hsz; have HIz := Lib.hid hiz; have HGz := Lib.hid hgz; clear hiz hgz hsz))
      refine bodyPost_ret (results_id2 rfl _ _ _ _ rfl HIz.out) rfl ?_
      exact ⟨rfl, HB8.out.grown HGz.out HB8.out.size (fun k hk => by cases hk; exact HG4.out)⟩
end Go.Proofs.YthihmlojdopmfaaDoor
