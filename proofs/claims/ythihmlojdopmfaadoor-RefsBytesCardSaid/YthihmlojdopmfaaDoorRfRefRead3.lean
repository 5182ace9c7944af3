/-
 The walk of the reference's Reader of refs: list.
-/
import Derived.Test.YthihmlojdopmfaaDoorRfRefRead2
import Derived.Test.YthihmlojdopmfaaDoorGrp1
import Derived.Test.YthihmlojdopmfaaDoorRfRead3
import Derived.Test.YthihmlojdopmfaaDoorRfOf
namespace Go.Proofs.YthihmlojdopmfaaDoor
open Go.RowKit

theorem row_apartq {w : World} {g base k n : Nat} {E E' : TypeId} {cs xs : List Value} {v : Value} (h : RowAt w g E cs) (h' : w.ownsRow base E' k v n xs) (hE : E ≠ E' := by decide) : v.ownBlock = none ∨ v.ownBlock ≠ some g := .inr (fun e => row_ne h h' hE e.symm)
theorem pN_le {B : List UInt8} {at_ most n u : Nat} (h : pN B at_ most = some (n, u)) : n ≤ most := by
 unfold pN at h
 split at h
 ·split at h
  ·rename_i hl; cases h; exact hl
  ·cases h
 ·cases h
theorem pNames_no {B : List UInt8} {at_ : Nat} {ok : Bool} (hn : (if ok = true then pN B at_ 64 else none) = none) : (if ok = true then pNames B 256 at_ else none) = none := by
 cases ok with
 | false => rfl
 | true =>
  rw [if_pos rfl] at hn ⊢
  unfold pNames
  rw [hn]
  rfl
def ZL (v : Value) (_ : World) : Prop := ∃ a n c, v = .slice a n c
set_option maxRecDepth 100000 in
set_option maxHeartbeats 4000000 in
theorem qlist_any {w0 w : World} {gr n c at_ : Nat} {a : Option Addr} {B : List UInt8} {ok : Bool} (h : Rdq w0 w gr a n c B at_ ok) (Pq : Option (List RName × Nat)) (hq : (if ok = true then pNames B 256 at_ else none) = Pq) :
  Calls Tryd.prog 18 #[.pointer (some ⟨gr, 0, none⟩)] w (QdIs (VL rnK Of.ONEf w.heap.size) ZL Pq w0 w gr a n c B) := by
 rcases hn : (if ok = true then pN B at_ 64 else none) with _ | ⟨tl, tu⟩
 ·have HPN : Hid (Pq = none) := Lib.hid (hq.symm.trans (pNames_no hn))
  have HCN := Lib.hid (qnum_any h 64 none hn)
  clear h hn hq
  go_enter Tryd.func18, Tryd.ntmps18
  go_wp2_with (first
   | (go_at_call 21; go_must (refine HCN.out.mono ?_); rintro e w1 ⟨v, rfl, hv, u9, hr, hg⟩; obtain rfl : v = .int .i64 0 := hv; have HR1 := Lib.hid hr; have HG1 := Lib.hid hg; clear hr hg))
  go_loopg [3, 5] 0 (fun g v3 v5 W => v3 = .slice none 0 0 ∧ v5 = .int .i64 0 ∧ w1 = W)
  case atStart => exact ⟨rfl, rfl, rfl⟩
  case round =>
   obtain ⟨rfl, rfl, rfl⟩ := hrel
   go_wp2
   go_ret
   rw [HPN.out]
   exact ⟨_, rfl, ⟨none, 0, 0, rfl⟩, _, HR1.out, HG1.out⟩
 ·have hok : ok = true := by cases ok with | true => rfl | false => rw [if_neg (by decide)] at hn; cases hn
  subst hok
  have HCN := Lib.hid (qnum_any h 64 (some (tl, tu)) hn)
  rw [if_pos rfl] at hn hq
  have HQP : Hid (pList (pName B 256) tl tu = Pq) := Lib.hid (by rw [← hq]; unfold pNames; rw [hn]; rfl)
  have hm : tl ≤ 64 := pN_le hn
  have HTL := Lib.hid hm
  have htI : (tl : Int) ≤ 64 := by omega
  have HLT : Hid (gr < w.heap.size) := Lib.hid h.row.lt
  clear h hn hq hm
  go_enter Tryd.func18, Tryd.ntmps18
  go_wp2_with (first
   | (go_at_call 21; go_must (refine HCN.out.mono ?_); rintro e w1 ⟨v, rfl, hv, hr, hg⟩; obtain rfl : v = .int .i64 (tl : Nat) := hv; have HR1 := Lib.hid hr; have HG1 := Lib.hid hg; clear hr hg))
  go_loopg [3, 5] tl (fun g v3 v5 W => ∃ (i : Nat) (a3 : Option Addr) (c3 : Nat) (L : List RName), v5 = .int .i64 i ∧ v3 = .slice a3 i c3 ∧ g + i = tl ∧ Hid (w.grownBy W (some gr)) ∧ Hid (OwnG rnK Of.ONEf W w.heap.size (.slice a3 i c3) L) ∧ ((∃ u, Hid (Rdq w0 W gr a n c B u true) ∧ Hid (pList (pName B 256) i tu = some (L, u))) ∨ (∃ u, Hid (Rdq w0 W gr a n c B u false) ∧ Hid (Pq = none))))
  case atStart => exact ⟨0, none, 0, [], rfl, rfl, rfl, HG1, Lib.hid OwnG.nil, .inl ⟨tu, HR1, Lib.hid rfl⟩⟩
  case round =>
   clear HR1 HG1
   obtain ⟨i, a3, c3, L, rfl, rfl, hg, HGi, HOi, hst⟩ := hrel
   have HG := Lib.hid hg
   have hi0 : (0 : Int) ≤ (i : Int) := by omega
   have hiI : (i : Int) ≤ (tl : Int) := by omega
   rcases hst with ⟨u, HRi, HPi⟩ | ⟨u, HRi, HPN⟩
   ·have ck := HRi.out.row.cell 2 rfl
    by_cases hi : (i : Int) < (tl : Int)
    ·have HI := Lib.hid (show i < tl by omega)
     have HLN : Hid (L.length = i) := Lib.hid HOi.out.len
     clear hg
     rcases hs : pT B u 256 with _ | ⟨s, u1⟩
     ·have HPN : Hid (Pq = none) := Lib.hid (HQP.out.symm.trans (pList_none HPi.out (show pName B 256 u = none by unfold pName; rw [hs]; rfl) HI.out))
      have HCT := Lib.hid (qtext_any HRi.out none (by rw [if_pos rfl]; exact hs))
      clear hs
      go_wp2_with (first
       | (go_at_call 19; (with_reducible refine (HCT.out).mono ?_); rintro e w2 ⟨v, rfl, hv, u9, hr, hg⟩; obtain rfl : v = .string (strB []) := hv; have HR2 := Lib.hid hr; have HG2 := Lib.hid (HGi.out.trans hg); have HO2 := Lib.hid (HOi.out.kept hg (row_apartq HRi.out.row HOi.out.1)); clear hr hg)
       | (go_at_call 20; go_must (refine (qid_any HR2.out none (rfl)).mono ?_); rintro e w3 ⟨v, rfl, hv, u8, hr, hg⟩; obtain rfl : v = .agg (idCells idZero) := hv; have HX3 : Hid (idZero.length = 32) := Lib.hid idZero_length; have HR3 := Lib.hid hr; have HG3 := Lib.hid (HG2.out.trans hg); have HO3 := Lib.hid (HO2.out.kept hg (row_apartq HR2.out.row HO2.out.1)); clear hr hg)
       | ((with_reducible refine atS 7 ?_); go_must (refine alloc_id rfl rfl ?_); intro w4 hi hb hs; have HI4 := Lib.hid hi; have HL3 := Lib.hid (show gr < w3.heap.size from HR3.out.row.lt); have HLW : Hid (w.heap.size ≤ w3.heap.size) := Lib.hid HG3.out.size; have HR4 := Lib.hid (HR3.out.below hb); have HG4 := Lib.hid (HG3.out.trans (grown_bel hb (some gr))); have HO4 := Lib.hid (HO3.out.below hb); clear hi hb hs; generalize w3.heap.size = g7 at HI4 HL3 HLW ⊢)
       | ((with_reducible refine atT 7 ?_); go_must (refine store_id rfl _ _ rfl g7 idZero idZero rfl rfl HI4.out HX3.out ?_); intro w5 hi hg hs; have HI5 := Lib.hid hi; have HR5 := Lib.hid (HR4.out.other hg HL3.out); have HG5 := Lib.hid (HG4.out.andThen hg (fun j hj => by cases hj; exact .inl HLW.out)); have HO5 := Lib.hid (HO4.out.kept hg (.inr (row_ne HI4.out.2 HO4.out.1 (by decide)).symm)); clear hi hg hs)
       | ((with_reducible refine atS 27 ?_); go_must (refine load_id rfl (.tmp 7) rfl g7 idZero rfl HI5.out ?_))
       | ((with_reducible refine atS 28 ?_); go_must (refine wl_ex rfl (Of.exec_rn _ _ rfl [] idZero HX3.out _ rfl rfl rfl) ?_))
       | ((with_reducible refine atS 29 ?_); go_must (refine wpList_plain rfl fun _ hK => Of.wp_sl_rn _ rfl ([], idZero) HX3.out rfl (hK _ _ ?_)); have hb := (Below.refl w5.heap.size w5).alloc (Nat.le_refl _) (.cells (rnL ([], idZero)).toArray Of.ONEf); have HR6 := Lib.hid (HR5.out.below hb); have HG6 := Lib.hid (HG5.out.trans (grown_bel hb (some gr))); have HO6 := Lib.hid (HO5.out.below hb); have HV6 := Lib.hid (oneG (K := rnK) w5 ([], idZero) HX3.out Of.ONEf (rnL ([], idZero)).toArray rfl); clear hb; generalize w5.alloc (.cells (rnL ([], idZero)).toArray Of.ONEf) = w6 at HR6 HG6 HO6 HV6 ⊢; generalize w5.heap.size = gv at HV6 ⊢)
       | (at_builtin; go_must (refine appG rnK Tryd.underlying22 Of.infoNf (by kernel_rfl) rfl (.tmp 25) (.tmp 29) rfl w.heap.size _ L rfl HO6.out _ 1 1 [([], idZero)] rfl HV6.out (by rw [HLN.out]; have h1 := HI.out; have h2 := HTL.out; omega) HG6.out.size (i + 1) (by rw [HLN.out]) ?_); intro a7 c7 w7 ho hg; have HR7 := Lib.hid (HR6.out.own hg (fun e => row_ne HR6.out.row HO6.out.1 (by decide) e) (fun k hk => by have h1 := (HO6.out.lt k hk).1; have h2 := HLT.out; omega)); have HG7 := Lib.hid (HG6.out.andThen hg (fun j hj => .inl (HO6.out.lt j hj).1)); have HO7 := Lib.hid ho; clear ho hg))
      go_roundg (tl - (i + 1))
      case measure => have := HG.out; have := HI.out; omega
      case rel => exact ⟨i + 1, a7, c7, L ++ [([], idZero)], by go_num, rfl, by have := HI.out; omega, HG7, HO7, .inr ⟨_, HR7, HPN⟩⟩
     ·have HCT := Lib.hid (qtext_any HRi.out (some (s, u1)) (by rw [if_pos rfl]; exact hs))
      rcases hd : pD B u1 with _ | ⟨x, u2⟩
      ·have HPN : Hid (Pq = none) := Lib.hid (HQP.out.symm.trans (pList_none HPi.out (show pName B 256 u = none by unfold pName; rw [hs]; show (pD B u1).map _ = _; rw [hd]; rfl) HI.out))
       have HPD : Hid ((if true = true then pD B u1 else none) = none) := Lib.hid (by rw [if_pos rfl]; exact hd)
       clear hs hd
       go_wp2_with (first
        | (go_at_call 19; (with_reducible refine (HCT.out).mono ?_); rintro e w2 ⟨v, rfl, hv, hr, hg⟩; obtain rfl : v = .string (strB s) := hv; have HR2 := Lib.hid hr; have HG2 := Lib.hid (HGi.out.trans hg); have HO2 := Lib.hid (HOi.out.kept hg (row_apartq HRi.out.row HOi.out.1)); clear hr hg)
        | (go_at_call 20; go_must (refine (qid_any HR2.out none (HPD.out)).mono ?_); rintro e w3 ⟨v, rfl, hv, u8, hr, hg⟩; obtain rfl : v = .agg (idCells idZero) := hv; have HX3 : Hid (idZero.length = 32) := Lib.hid idZero_length; have HR3 := Lib.hid hr; have HG3 := Lib.hid (HG2.out.trans hg); have HO3 := Lib.hid (HO2.out.kept hg (row_apartq HR2.out.row HO2.out.1)); clear hr hg)
        | ((with_reducible refine atS 7 ?_); go_must (refine alloc_id rfl rfl ?_); intro w4 hi hb hs; have HI4 := Lib.hid hi; have HL3 := Lib.hid (show gr < w3.heap.size from HR3.out.row.lt); have HLW : Hid (w.heap.size ≤ w3.heap.size) := Lib.hid HG3.out.size; have HR4 := Lib.hid (HR3.out.below hb); have HG4 := Lib.hid (HG3.out.trans (grown_bel hb (some gr))); have HO4 := Lib.hid (HO3.out.below hb); clear hi hb hs; generalize w3.heap.size = g7 at HI4 HL3 HLW ⊢)
        | ((with_reducible refine atT 7 ?_); go_must (refine store_id rfl _ _ rfl g7 idZero idZero rfl rfl HI4.out HX3.out ?_); intro w5 hi hg hs; have HI5 := Lib.hid hi; have HR5 := Lib.hid (HR4.out.other hg HL3.out); have HG5 := Lib.hid (HG4.out.andThen hg (fun j hj => by cases hj; exact .inl HLW.out)); have HO5 := Lib.hid (HO4.out.kept hg (.inr (row_ne HI4.out.2 HO4.out.1 (by decide)).symm)); clear hi hg hs)
        | ((with_reducible refine atS 27 ?_); go_must (refine load_id rfl (.tmp 7) rfl g7 idZero rfl HI5.out ?_))
        | ((with_reducible refine atS 28 ?_); go_must (refine wl_ex rfl (Of.exec_rn _ _ rfl s idZero HX3.out _ rfl rfl rfl) ?_))
        | ((with_reducible refine atS 29 ?_); go_must (refine wpList_plain rfl fun _ hK => Of.wp_sl_rn _ rfl (s, idZero) HX3.out rfl (hK _ _ ?_)); have hb := (Below.refl w5.heap.size w5).alloc (Nat.le_refl _) (.cells (rnL (s, idZero)).toArray Of.ONEf); have HR6 := Lib.hid (HR5.out.below hb); have HG6 := Lib.hid (HG5.out.trans (grown_bel hb (some gr))); have HO6 := Lib.hid (HO5.out.below hb); have HV6 := Lib.hid (oneG (K := rnK) w5 (s, idZero) HX3.out Of.ONEf (rnL (s, idZero)).toArray rfl); clear hb; generalize w5.alloc (.cells (rnL (s, idZero)).toArray Of.ONEf) = w6 at HR6 HG6 HO6 HV6 ⊢; generalize w5.heap.size = gv at HV6 ⊢)
        | (at_builtin; go_must (refine appG rnK Tryd.underlying22 Of.infoNf (by kernel_rfl) rfl (.tmp 25) (.tmp 29) rfl w.heap.size _ L rfl HO6.out _ 1 1 [(s, idZero)] rfl HV6.out (by rw [HLN.out]; have h1 := HI.out; have h2 := HTL.out; omega) HG6.out.size (i + 1) (by rw [HLN.out]) ?_); intro a7 c7 w7 ho hg; have HR7 := Lib.hid (HR6.out.own hg (fun e => row_ne HR6.out.row HO6.out.1 (by decide) e) (fun k hk => by have h1 := (HO6.out.lt k hk).1; have h2 := HLT.out; omega)); have HG7 := Lib.hid (HG6.out.andThen hg (fun j hj => .inl (HO6.out.lt j hj).1)); have HO7 := Lib.hid ho; clear ho hg))
       go_roundg (tl - (i + 1))
       case measure => have := HG.out; have := HI.out; omega
       case rel => exact ⟨i + 1, a7, c7, L ++ [(s, idZero)], by go_num, rfl, by have := HI.out; omega, HG7, HO7, .inr ⟨_, HR7, HPN⟩⟩
      ·have HPS : Hid (pList (pName B 256) (i + 1) tu = some (L ++ [(s, x)], u2)) := Lib.hid (by rw [pList_snoc, HPi.out]; show ((pName B 256) u).map _ = _; unfold pName; rw [hs]; show ((pD B u1).map _).map _ = _; rw [hd]; rfl)
       have HPD : Hid ((if true = true then pD B u1 else none) = some (x, u2)) := Lib.hid (by rw [if_pos rfl]; exact hd)
       clear hs hd
       go_wp2_with (first
        | (go_at_call 19; (with_reducible refine (HCT.out).mono ?_); rintro e w2 ⟨v, rfl, hv, hr, hg⟩; obtain rfl : v = .string (strB s) := hv; have HR2 := Lib.hid hr; have HG2 := Lib.hid (HGi.out.trans hg); have HO2 := Lib.hid (HOi.out.kept hg (row_apartq HRi.out.row HOi.out.1)); clear hr hg)
        | (go_at_call 20; go_must (refine (qid_any HR2.out (some (x, u2)) (HPD.out)).mono ?_); rintro e w3 ⟨v, rfl, hv, hr, hg⟩; obtain ⟨rfl, h32⟩ := hv; have HX3 := Lib.hid h32; clear h32; have HR3 := Lib.hid hr; have HG3 := Lib.hid (HG2.out.trans hg); have HO3 := Lib.hid (HO2.out.kept hg (row_apartq HR2.out.row HO2.out.1)); clear hr hg)
        | ((with_reducible refine atS 7 ?_); go_must (refine alloc_id rfl rfl ?_); intro w4 hi hb hs; have HI4 := Lib.hid hi; have HL3 := Lib.hid (show gr < w3.heap.size from HR3.out.row.lt); have HLW : Hid (w.heap.size ≤ w3.heap.size) := Lib.hid HG3.out.size; have HR4 := Lib.hid (HR3.out.below hb); have HG4 := Lib.hid (HG3.out.trans (grown_bel hb (some gr))); have HO4 := Lib.hid (HO3.out.below hb); clear hi hb hs; generalize w3.heap.size = g7 at HI4 HL3 HLW ⊢)
        | ((with_reducible refine atT 7 ?_); go_must (refine store_id rfl _ _ rfl g7 idZero x rfl rfl HI4.out HX3.out ?_); intro w5 hi hg hs; have HI5 := Lib.hid hi; have HR5 := Lib.hid (HR4.out.other hg HL3.out); have HG5 := Lib.hid (HG4.out.andThen hg (fun j hj => by cases hj; exact .inl HLW.out)); have HO5 := Lib.hid (HO4.out.kept hg (.inr (row_ne HI4.out.2 HO4.out.1 (by decide)).symm)); clear hi hg hs)
        | ((with_reducible refine atS 27 ?_); go_must (refine load_id rfl (.tmp 7) rfl g7 x rfl HI5.out ?_))
        | ((with_reducible refine atS 28 ?_); go_must (refine wl_ex rfl (Of.exec_rn _ _ rfl s x HX3.out _ rfl rfl rfl) ?_))
        | ((with_reducible refine atS 29 ?_); go_must (refine wpList_plain rfl fun _ hK => Of.wp_sl_rn _ rfl (s, x) HX3.out rfl (hK _ _ ?_)); have hb := (Below.refl w5.heap.size w5).alloc (Nat.le_refl _) (.cells (rnL (s, x)).toArray Of.ONEf); have HR6 := Lib.hid (HR5.out.below hb); have HG6 := Lib.hid (HG5.out.trans (grown_bel hb (some gr))); have HO6 := Lib.hid (HO5.out.below hb); have HV6 := Lib.hid (oneG (K := rnK) w5 (s, x) HX3.out Of.ONEf (rnL (s, x)).toArray rfl); clear hb; generalize w5.alloc (.cells (rnL (s, x)).toArray Of.ONEf) = w6 at HR6 HG6 HO6 HV6 ⊢; generalize w5.heap.size = gv at HV6 ⊢)
        | (at_builtin; go_must (refine appG rnK Tryd.underlying22 Of.infoNf (by kernel_rfl) rfl (.tmp 25) (.tmp 29) rfl w.heap.size _ L rfl HO6.out _ 1 1 [(s, x)] rfl HV6.out (by rw [HLN.out]; have h1 := HI.out; have h2 := HTL.out; omega) HG6.out.size (i + 1) (by rw [HLN.out]) ?_); intro a7 c7 w7 ho hg; have HR7 := Lib.hid (HR6.out.own hg (fun e => row_ne HR6.out.row HO6.out.1 (by decide) e) (fun k hk => by have h1 := (HO6.out.lt k hk).1; have h2 := HLT.out; omega)); have HG7 := Lib.hid (HG6.out.andThen hg (fun j hj => .inl (HO6.out.lt j hj).1)); have HO7 := Lib.hid ho; clear ho hg))
       go_roundg (tl - (i + 1))
       case measure => have := HG.out; have := HI.out; omega
       case rel => exact ⟨i + 1, a7, c7, L ++ [(s, x)], by go_num, rfl, by have := HI.out; omega, HG7, HO7, .inl ⟨u2, HR7, HPS⟩⟩
    ·have hin : i = tl := by omega
     have HPF : Hid (Pq = some (L, u)) := Lib.hid (HQP.out.symm.trans (hin ▸ HPi.out))
     have HIN := Lib.hid hin
     clear hg
     go_wp2
     go_ret
     rw [HPF.out]
     exact ⟨_, rfl, ⟨a3, tl, c3, rfl, HIN.out ▸ HOi.out⟩, HRi.out, HGi.out⟩
   ·have ck := HRi.out.row.cell 2 rfl
    by_cases hi : (i : Int) < (tl : Int)
    ·clear hg
     go_wp2
     go_ret
     rw [HPN.out]
     exact ⟨_, rfl, ⟨a3, i, c3, rfl⟩, _, HRi.out, HGi.out⟩
    ·clear hg
     go_wp2
     go_ret
     rw [HPN.out]
     exact ⟨_, rfl, ⟨a3, i, c3, rfl⟩, _, HRi.out, HGi.out⟩
end Go.Proofs.YthihmlojdopmfaaDoor
