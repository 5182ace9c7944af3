/-
 The walks of getList at names and at entries.
-/
import Derived.Test.YthihmlojdopmfaaDoorRfRead2
import Derived.Test.YthihmlojdopmfaaDoorGrp1
import Derived.Test.YthihmlojdopmfaaDoorRfPut
namespace Go.Proofs.YthihmlojdopmfaaDoor
open Go.RowKit

theorem pN_yes {B : List UInt8} {at_ n u : Nat} (h : getI B at_ = (n, u, 0)) (hn : n ≤ 64) : pN B at_ 64 = some (n, u) := by unfold pN; rw [h]; exact if_pos hn
theorem pN_big {B : List UInt8} {at_ n u : Nat} (h : getI B at_ = (n, u, 0)) (hn : ¬ n ≤ 64) : pN B at_ 64 = none := by unfold pN; rw [h]; exact if_neg hn
theorem pN_no {B : List UInt8} {at_ n u e : Nat} (h : getI B at_ = (n, u, e)) (he : e ≠ 0) : pN B at_ 64 = none := by
 unfold pN; rw [h]
 cases e with
 | zero => exact absurd rfl he
 | succ e => rfl
theorem pList_snoc {α : Type} (get : Nat → Option (α × Nat)) : ∀ (i at_ : Nat), pList get (i + 1) at_ = (pList get i at_).bind fun l => (get l.2).map fun x => (l.1 ++ [x.1], x.2)
 | 0, at_ => by
  unfold pList
  cases h : get at_ with
  | none => simp [pList, h]
  | some x => simp [pList, h]
 | i + 1, at_ => by
  have ih := fun u => pList_snoc get i u
  rw [show pList get (i + 1 + 1) at_ = (get at_).bind fun x => (pList get (i + 1) x.2).map fun l => (x.1 :: l.1, l.2) from rfl, show pList get (i + 1) at_ = (get at_).bind fun x => (pList get i x.2).map fun l => (x.1 :: l.1, l.2) from rfl]
  cases h : get at_ with
  | none => rfl
  | some x =>
   simp only [Option.bind_some, ih x.2]
   cases h2 : pList get i x.2 with
   | none => rfl
   | some l =>
    simp only [Option.bind_some, Option.map_some]
    cases h3 : get l.2 with
    | none => rfl
    | some y => rfl
theorem pList_more {α : Type} {get : Nat → Option (α × Nat)} {i at_ : Nat} (h : pList get i at_ = none) : ∀ k, pList get (i + k) at_ = none
 | 0 => h
 | k + 1 => by rw [show i + (k + 1) = (i + k) + 1 from rfl, pList_snoc, pList_more h k]; rfl
theorem pList_none {α : Type} {get : Nat → Option (α × Nat)} {i n at_ u : Nat} {L : List α} (h : pList get i at_ = some (L, u)) (hq : get u = none) (hi : i < n) : pList get n at_ = none := by
 have h1 : pList get (i + 1) at_ = none := by
  rw [pList_snoc, h]
  show (get u).map _ = none
  rw [hq]; rfl
 have := pList_more h1 (n - (i + 1))
 rwa [show i + 1 + (n - (i + 1)) = n from by omega] at this
def VL {α : Type} [Inhabited α] (K : Kind α) (E : TypeId) (base : Nat) (L : List α) (v : Value) (w : World) : Prop := ∃ a n c, v = .slice a n c ∧ OwnG K E w base (.slice a n c) L
theorem row_apart {w : World} {g base k n : Nat} {E E' : TypeId} {cs xs : List Value} {v : Value} (h : RowAt w g E cs) (h' : w.ownsRow base E' k v n xs) (hE : E ≠ E' := by decide) : v.ownBlock = none ∨ v.ownBlock ≠ some g := .inr (fun e => row_ne h h' hE e.symm)
theorem sl_en {ops : Array Oper} {rest : List Oper} {o : Oper} {a : Act} {w : World} {Q : Exit → Act → World → Prop} (hg : o.guard = none) (x : Operand) (ho : o.op = .buildSlice 25 1 #[(0, x)]) (X : EntV) (hX : UpOk X.upd) (hx : a.eval x = .agg (enL X).toArray)
  (h : wpList Tryd.prog ops Q rest (a.put o.dst (.slice (some ⟨w.heap.size, 0, none⟩) 1 1)) (w.alloc (.cells (enL X).toArray EEf))) : wpList Tryd.prog ops Q (o :: rest) a w :=
 wpList_plain hg fun _ hK => wp_sl_en x ho X hX hx (hK _ _ h)
set_option maxRecDepth 100000 in
set_option maxHeartbeats 8000000 in
theorem glist_rn {w0 w : World} {gr gb n c at_ : Nat} {a : Option Addr} {B : List UInt8} (h : Rdr w0 w gr a n c B at_) (hx : RowAt w gb PTf [.pointer (some ⟨gr, 0, none⟩)]) (hgb : gb ≠ gr) :
  Calls Tryd.prog 63 #[.pointer (some ⟨gr, 0, none⟩), .int .i64 64, (.func (.func 64) #[] #[.pointer (some ⟨gb, 0, none⟩)])] w (RdIs (VL rnK NEf w.heap.size) (((pN B at_ 64).bind fun n => pList (pName B 32) n.1 n.2)) w0 w gr a n c B) := by
 obtain ⟨tl, tu, te, hT⟩ : ∃ tl tu te, getI B at_ = (tl, tu, te) := ⟨_, _, _, rfl⟩
 have HT := Lib.hid hT
 have HD := Lib.hid h.drew
 have HR : Hid (RowAt w.drew gr RDf (rdL a n c at_)) := Lib.hid h.row
 have HSR := Lib.hid h.drew.bytes
 have HGD := Lib.hid (grown_bel (Below.refl w.heap.size w).drew (some gr))
 have HLT := Lib.hid h.lt
 have HXD : Hid (RowAt w.drew gb PTf [.pointer (some ⟨gr, 0, none⟩)]) := Lib.hid hx
 have HGB := Lib.hid hgb
 have HNX : Hid (some gb ≠ some gr) := Lib.hid (fun e => hgb (Option.some.inj e))
 clear hx hgb
 by_cases he : te = 0
 ·subst he
  by_cases hm : tl ≤ 64
  ·have HPW : Hid (((pN B at_ 64).bind fun n => pList (pName B 32) n.1 n.2) = pList (pName B 32) tl tu) := Lib.hid (by rw [pN_yes hT hm]; rfl)
   have HTL := Lib.hid hm
   have hmI : decide ((tl : Int) ≤ 64) = true := decide_eq_true (by omega)
   have htI : (tl : Int) ≤ 64 := by omega
   clear h hT hm
   go_enter Tryd.func63, Tryd.ntmps63
   go_wp2
   refine wp_region_held_drew (S := fun W => RowAt W gr RDf (rdL a n c at_)) (by kernel_rfl) HR.out (fun hHeld => ?_)
   refine tk 0 (mo 12 (.move (.tmp 0))) (.pointer (some ⟨gr, 0, none⟩)) rfl ?_
   refine tk 1 (mo 13 (.nilCheck (.tmp 12))) (.pointer (some ⟨gr, 0, none⟩)) rfl ?_
   refine tk 2 (mo 14 (.fieldAddr 88 (.tmp 13) 0)) (.pointer (some ⟨gr, 0, none⟩)) rfl ?_
   refine tk 3 (mo 15 (.load 28 (.tmp 14))) (.slice a n c) rfl ?_ (Or.inl ⟨by rfl, fun W hW => by have hcell := hW.cell 0 rfl; go_simp⟩)
   refine tk 4 (mo 16 (.move (.tmp 0))) (.pointer (some ⟨gr, 0, none⟩)) rfl ?_
   refine tk 5 (mo 17 (.nilCheck (.tmp 16))) (.pointer (some ⟨gr, 0, none⟩)) rfl ?_
   refine tk 6 (mo 18 (.fieldAddr 88 (.tmp 17) 1)) (.pointer (some ⟨gr, 1, none⟩)) rfl ?_
   refine tk 7 (mo 19 (.load 3 (.tmp 18))) (.int .i64 (at_ : Nat)) rfl ?_ (Or.inl ⟨by rfl, fun W hW => by have hcell := (hW.cell 1 rfl : W.cell? ⟨gr, 1, none⟩ = some (.int .i64 (at_ : Int))); go_simp⟩)
   refine rdH [8] ?_
   refine AllReadyH.cons (o := ⟨some 20, .call { callee := .value (.func 68), args := #[(.tmp 15), (.tmp 19)], argTypes := #[28, 3] }, _, _, _, _⟩) rfl (fun K hK => ?_) AllReadyH.nil
   go_simp
   refine (get_any a n c B at_ _ HSR.out tl tu 0 HT.out).mono ?_
   rintro e wt ⟨rfl, rfl⟩
   refine hK.out _ _ HR.out (fun hHeld => ?_)
   clear hK K
   refine tk 9 (mo 11 (.move (.tmp 20))) (.tuple #[(.int .i64 (tl : Nat)), (.int .i64 (tu : Nat)), (.int .i64 (0 : Nat))]) rfl ?_
   refine tk 10 (mo 21 (.extract (.tmp 11) 0)) (.int .i64 (tl : Nat)) rfl ?_
   refine tk 11 (mo 22 (.extract (.tmp 11) 1)) (.int .i64 (tu : Nat)) rfl ?_
   refine tk 12 (mo 23 (.extract (.tmp 11) 2)) (.int .i64 (0 : Nat)) rfl ?_
   refine tk 13 (mo 7 (.assign (.tmp 21))) (.int .i64 (tl : Nat)) rfl ?_
   refine tk 14 (mo 8 (.assign (.tmp 22))) (.int .i64 (tu : Nat)) rfl ?_
   refine tk 15 (mo 9 (.assign (.tmp 23))) (.int .i64 (0 : Nat)) rfl ?_
   refine wpAnyH_done (by kernel_rfl) ?_ _
   go_wp2_with (first
    | (go_at_call 66; go_must (refine (step_yes HD.out tu).mono ?_); rintro e w2 ⟨rfl, hr, hg⟩; have HR2 := Lib.hid hr; have HG2 := Lib.hid (HGD.out.trans hg); have HX2 := Lib.hid (HXD.out.grown hg HNX.out); clear hr hg)
    | (go_at_call 47; go_must (refine (must_yes _ _).mono ?_); rintro e w3 ⟨rfl, rfl⟩))
   go_loopg [10, 34] tl (fun g v10 v34 W => ∃ (i u : Nat) (a1 : Option Addr) (c1 : Nat) (L : List RName), v34 = .int .i64 i ∧ v10 = .slice a1 i c1 ∧ g + i = tl ∧ Hid (Rdr w0 W gr a n c B u) ∧ Hid (w.grownBy W (some gr)) ∧ Hid (OwnG rnK NEf W w.heap.size (.slice a1 i c1) L) ∧ Hid (pList (pName B 32) i tu = some (L, u)) ∧ Hid (RowAt W gb PTf [.pointer (some ⟨gr, 0, none⟩)]))
   case atStart => exact ⟨0, tu, none, 0, [], rfl, rfl, rfl, HR2, HG2, Lib.hid OwnG.nil, Lib.hid rfl, HX2⟩
   case round =>
    clear HR2 HG2 HX2
    obtain ⟨i, u, a1, c1, L, rfl, rfl, hg, HRi, HGi, HOi, HPi, HXi⟩ := hrel
    have HG := Lib.hid hg
    have hi0 : (0 : Int) ≤ (i : Int) := by omega
    have hiI : (i : Int) ≤ (tl : Int) := by omega
    by_cases hi : (i : Int) < (tl : Int)
    ·have HI := Lib.hid (show i < tl by omega)
     have HLN : Hid (L.length = i) := Lib.hid HOi.out.len
     clear hg
     rcases hq : (pName B 32) u with _ | ⟨x, u2⟩
     ·have HPN : Hid (((pN B at_ 64).bind fun n => pList (pName B 32) n.1 n.2) = none) := Lib.hid (by rw [HPW.out]; exact pList_none HPi.out hq HI.out)
      have HC := Lib.hid (hq ▸ rname_any HRi.out HXi.out HGB.out : Calls Tryd.prog 64 #[.pointer (some ⟨gb, 0, none⟩)] wr (RdIs VN (none) w0 wr gr a n c B))
      clear hq
      go_wp2_with (go_at_call 64; go_must (refine HC.out.mono ?_); rintro e w4 ⟨rfl, hg⟩; have HG4 := Lib.hid (HGi.out.trans hg); clear hg)
      rw [HPN.out]
      exact ⟨rfl, rfl, HG4.out⟩
     ·have HC := Lib.hid (hq ▸ rname_any HRi.out HXi.out HGB.out : Calls Tryd.prog 64 #[.pointer (some ⟨gb, 0, none⟩)] wr (RdIs VN (some (x, u2)) w0 wr gr a n c B))
      have HPS : Hid (pList (pName B 32) (i + 1) tu = some (L ++ [x], u2)) := Lib.hid (by rw [pList_snoc, HPi.out]; show ((pName B 32) u).map _ = _; rw [hq]; rfl)
      clear hq
      go_wp2_with (first
       | (go_at_call 64; go_must (refine HC.out.mono ?_); rintro e w4 ⟨v, rfl, hv, hr, hg⟩; obtain ⟨rfl, hx⟩ := hv; have HXO := Lib.hid hx; have HR4 := Lib.hid hr; have HG4 := Lib.hid (HGi.out.trans hg); have HO4 := Lib.hid (HOi.out.kept hg (row_apart HRi.out.row HOi.out.1)); have HX4 := Lib.hid (HXi.out.grown hg HNX.out); clear hx hr hg)
       | ((with_reducible refine atS 39 ?_); go_must (refine sl_rn rfl _ rfl x HXO.out rfl ?_); have hb := (Below.refl w4.heap.size w4).alloc (Nat.le_refl _) (.cells (rnL x).toArray NEf); have HR5 := Lib.hid (HR4.out.below hb); have HG5 := Lib.hid (HG4.out.trans (grown_bel hb (some gr))); have HO5 := Lib.hid (HO4.out.below hb); have HV5 := Lib.hid (oneG (K := rnK) w4 x HXO.out NEf (rnL x).toArray rfl); have HX5 := Lib.hid (HX4.out.below hb); clear hb; generalize w4.alloc (.cells (rnL x).toArray NEf) = w5 at HR5 HG5 HO5 HV5 HX5 ⊢; generalize w4.heap.size = gv at HV5 ⊢)
       | (at_builtin; go_must (refine appG rnK Tryd.underlying33 infoNf (by kernel_rfl) rfl (.tmp 36) (.tmp 39) rfl w.heap.size _ L rfl HO5.out _ 1 1 [x] rfl HV5.out (by rw [HLN.out]; have h1 := HI.out; have h2 := HTL.out; omega) HG5.out.size (i + 1) (by rw [HLN.out]) ?_); intro a6 c6 w6 ho hg; have HR6 := Lib.hid (HR5.out.own hg (fun e => row_ne HR5.out.row HO5.out.1 (by decide) e) (fun k hk => by have h1 := (HO5.out.lt k hk).1; have h2 := HLT.out; omega)); have HG6 := Lib.hid (HG5.out.andThen hg (fun j hj => .inl (HO5.out.lt j hj).1)); have HO6 := Lib.hid ho; have HX6 := Lib.hid (HX5.out.grown hg (row_ne HX5.out HO5.out.1 (by decide))); clear ho hg))
      go_roundg (tl - (i + 1))
      case measure => have := HG.out; have := HI.out; omega
      case rel => exact ⟨i + 1, u2, a6, c6, L ++ [x], by go_num, rfl, by have := HI.out; omega, HR6, HG6, HO6, HPS, HX6⟩
    ·have hin : i = tl := by omega
     have HPN : Hid (((pN B at_ 64).bind fun n => pList (pName B 32) n.1 n.2) = some (L, u)) := Lib.hid (by rw [HPW.out, ← hin]; exact HPi.out)
     have HIN := Lib.hid hin
     clear hg
     go_wp2
     go_ret
     rw [HPN.out]
     exact ⟨_, rfl, ⟨a1, tl, c1, rfl, HIN.out ▸ HOi.out⟩, HRi.out, HGi.out⟩
  ·have HP : Hid (((pN B at_ 64).bind fun n => pList (pName B 32) n.1 n.2) = none) := Lib.hid (by rw [pN_big hT hm]; rfl)
   have hmI : decide ((tl : Int) ≤ 64) = false := decide_eq_false (by omega)
   clear h hT hm
   go_enter Tryd.func63, Tryd.ntmps63
   go_wp2
   refine wp_region_held_drew (S := fun W => RowAt W gr RDf (rdL a n c at_)) (by kernel_rfl) HR.out (fun hHeld => ?_)
   refine tk 0 (mo 12 (.move (.tmp 0))) (.pointer (some ⟨gr, 0, none⟩)) rfl ?_
   refine tk 1 (mo 13 (.nilCheck (.tmp 12))) (.pointer (some ⟨gr, 0, none⟩)) rfl ?_
   refine tk 2 (mo 14 (.fieldAddr 88 (.tmp 13) 0)) (.pointer (some ⟨gr, 0, none⟩)) rfl ?_
   refine tk 3 (mo 15 (.load 28 (.tmp 14))) (.slice a n c) rfl ?_ (Or.inl ⟨by rfl, fun W hW => by have hcell := hW.cell 0 rfl; go_simp⟩)
   refine tk 4 (mo 16 (.move (.tmp 0))) (.pointer (some ⟨gr, 0, none⟩)) rfl ?_
   refine tk 5 (mo 17 (.nilCheck (.tmp 16))) (.pointer (some ⟨gr, 0, none⟩)) rfl ?_
   refine tk 6 (mo 18 (.fieldAddr 88 (.tmp 17) 1)) (.pointer (some ⟨gr, 1, none⟩)) rfl ?_
   refine tk 7 (mo 19 (.load 3 (.tmp 18))) (.int .i64 (at_ : Nat)) rfl ?_ (Or.inl ⟨by rfl, fun W hW => by have hcell := (hW.cell 1 rfl : W.cell? ⟨gr, 1, none⟩ = some (.int .i64 (at_ : Int))); go_simp⟩)
   refine rdH [8] ?_
   refine AllReadyH.cons (o := ⟨some 20, .call { callee := .value (.func 68), args := #[(.tmp 15), (.tmp 19)], argTypes := #[28, 3] }, _, _, _, _⟩) rfl (fun K hK => ?_) AllReadyH.nil
   go_simp
   refine (get_any a n c B at_ _ HSR.out tl tu 0 HT.out).mono ?_
   rintro e wt ⟨rfl, rfl⟩
   refine hK.out _ _ HR.out (fun hHeld => ?_)
   clear hK K
   refine tk 9 (mo 11 (.move (.tmp 20))) (.tuple #[(.int .i64 (tl : Nat)), (.int .i64 (tu : Nat)), (.int .i64 (0 : Nat))]) rfl ?_
   refine tk 10 (mo 21 (.extract (.tmp 11) 0)) (.int .i64 (tl : Nat)) rfl ?_
   refine tk 11 (mo 22 (.extract (.tmp 11) 1)) (.int .i64 (tu : Nat)) rfl ?_
   refine tk 12 (mo 23 (.extract (.tmp 11) 2)) (.int .i64 (0 : Nat)) rfl ?_
   refine tk 13 (mo 7 (.assign (.tmp 21))) (.int .i64 (tl : Nat)) rfl ?_
   refine tk 14 (mo 8 (.assign (.tmp 22))) (.int .i64 (tu : Nat)) rfl ?_
   refine tk 15 (mo 9 (.assign (.tmp 23))) (.int .i64 (0 : Nat)) rfl ?_
   refine wpAnyH_done (by kernel_rfl) ?_ _
   go_wp2_with (first
    | (go_at_call 66; go_must (refine (step_yes HD.out tu).mono ?_); rintro e w2 ⟨rfl, hr, hg⟩; have HR2 := Lib.hid hr; have HG2 := Lib.hid (HGD.out.trans hg); have HX2 := Lib.hid (HXD.out.grown hg HNX.out); clear hr hg)
    | (go_at_call 47; go_must (refine (must_no _ _).mono ?_); rintro e w3 ⟨rfl, rfl⟩))
   rw [HP.out]
   exact ⟨rfl, rfl, HG2.out⟩
 ·have HP : Hid (((pN B at_ 64).bind fun n => pList (pName B 32) n.1 n.2) = none) := Lib.hid (by rw [pN_no hT he]; rfl)
  have HE := Lib.hid he
  clear h hT he
  go_enter Tryd.func63, Tryd.ntmps63
  go_wp2
  refine wp_region_held_drew (S := fun W => RowAt W gr RDf (rdL a n c at_)) (by kernel_rfl) HR.out (fun hHeld => ?_)
  refine tk 0 (mo 12 (.move (.tmp 0))) (.pointer (some ⟨gr, 0, none⟩)) rfl ?_
  refine tk 1 (mo 13 (.nilCheck (.tmp 12))) (.pointer (some ⟨gr, 0, none⟩)) rfl ?_
  refine tk 2 (mo 14 (.fieldAddr 88 (.tmp 13) 0)) (.pointer (some ⟨gr, 0, none⟩)) rfl ?_
  refine tk 3 (mo 15 (.load 28 (.tmp 14))) (.slice a n c) rfl ?_ (Or.inl ⟨by rfl, fun W hW => by have hcell := hW.cell 0 rfl; go_simp⟩)
  refine tk 4 (mo 16 (.move (.tmp 0))) (.pointer (some ⟨gr, 0, none⟩)) rfl ?_
  refine tk 5 (mo 17 (.nilCheck (.tmp 16))) (.pointer (some ⟨gr, 0, none⟩)) rfl ?_
  refine tk 6 (mo 18 (.fieldAddr 88 (.tmp 17) 1)) (.pointer (some ⟨gr, 1, none⟩)) rfl ?_
  refine tk 7 (mo 19 (.load 3 (.tmp 18))) (.int .i64 (at_ : Nat)) rfl ?_ (Or.inl ⟨by rfl, fun W hW => by have hcell := (hW.cell 1 rfl : W.cell? ⟨gr, 1, none⟩ = some (.int .i64 (at_ : Int))); go_simp⟩)
  refine rdH [8] ?_
  refine AllReadyH.cons (o := ⟨some 20, .call { callee := .value (.func 68), args := #[(.tmp 15), (.tmp 19)], argTypes := #[28, 3] }, _, _, _, _⟩) rfl (fun K hK => ?_) AllReadyH.nil
  go_simp
  refine (get_any a n c B at_ _ HSR.out tl tu te HT.out).mono ?_
  rintro e wt ⟨rfl, rfl⟩
  refine hK.out _ _ HR.out (fun hHeld => ?_)
  clear hK K
  refine tk 9 (mo 11 (.move (.tmp 20))) (.tuple #[(.int .i64 (tl : Nat)), (.int .i64 (tu : Nat)), (.int .i64 (te : Nat))]) rfl ?_
  refine tk 10 (mo 21 (.extract (.tmp 11) 0)) (.int .i64 (tl : Nat)) rfl ?_
  refine tk 11 (mo 22 (.extract (.tmp 11) 1)) (.int .i64 (tu : Nat)) rfl ?_
  refine tk 12 (mo 23 (.extract (.tmp 11) 2)) (.int .i64 (te : Nat)) rfl ?_
  refine tk 13 (mo 7 (.assign (.tmp 21))) (.int .i64 (tl : Nat)) rfl ?_
  refine tk 14 (mo 8 (.assign (.tmp 22))) (.int .i64 (tu : Nat)) rfl ?_
  refine tk 15 (mo 9 (.assign (.tmp 23))) (.int .i64 (te : Nat)) rfl ?_
  refine wpAnyH_done (by kernel_rfl) ?_ _
  go_wp2_with (go_at_call 66; go_must (refine (step_no _ te HE.out).mono ?_); rintro e w2 ⟨rfl, rfl⟩)
  rw [HP.out]
  exact ⟨rfl, rfl, HGD.out⟩
set_option maxRecDepth 100000 in
set_option maxHeartbeats 8000000 in
theorem glist_en {w0 w : World} {gr n c at_ : Nat} {a : Option Addr} {B : List UInt8} (h : Rdr w0 w gr a n c B at_) :
  Calls Tryd.prog 45 #[.pointer (some ⟨gr, 0, none⟩), .int .i64 64, (.func (.func 46) #[.pointer (some ⟨gr, 0, none⟩)] #[])] w (RdIs (VL enK EEf w.heap.size) (((pN B at_ 64).bind fun n => pList (pEnt B 32) n.1 n.2)) w0 w gr a n c B) := by
 obtain ⟨tl, tu, te, hT⟩ : ∃ tl tu te, getI B at_ = (tl, tu, te) := ⟨_, _, _, rfl⟩
 have HT := Lib.hid hT
 have HD := Lib.hid h.drew
 have HR : Hid (RowAt w.drew gr RDf (rdL a n c at_)) := Lib.hid h.row
 have HSR := Lib.hid h.drew.bytes
 have HGD := Lib.hid (grown_bel (Below.refl w.heap.size w).drew (some gr))
 have HLT := Lib.hid h.lt
 by_cases he : te = 0
 ·subst he
  by_cases hm : tl ≤ 64
  ·have HPW : Hid (((pN B at_ 64).bind fun n => pList (pEnt B 32) n.1 n.2) = pList (pEnt B 32) tl tu) := Lib.hid (by rw [pN_yes hT hm]; rfl)
   have HTL := Lib.hid hm
   have hmI : decide ((tl : Int) ≤ 64) = true := decide_eq_true (by omega)
   have htI : (tl : Int) ≤ 64 := by omega
   clear h hT hm
   go_enter Tryd.func45, Tryd.ntmps45
   go_wp2
   refine wp_region_held_drew (S := fun W => RowAt W gr RDf (rdL a n c at_)) (by kernel_rfl) HR.out (fun hHeld => ?_)
   refine tk 0 (mo 12 (.move (.tmp 0))) (.pointer (some ⟨gr, 0, none⟩)) rfl ?_
   refine tk 1 (mo 13 (.nilCheck (.tmp 12))) (.pointer (some ⟨gr, 0, none⟩)) rfl ?_
   refine tk 2 (mo 14 (.fieldAddr 88 (.tmp 13) 0)) (.pointer (some ⟨gr, 0, none⟩)) rfl ?_
   refine tk 3 (mo 15 (.load 28 (.tmp 14))) (.slice a n c) rfl ?_ (Or.inl ⟨by rfl, fun W hW => by have hcell := hW.cell 0 rfl; go_simp⟩)
   refine tk 4 (mo 16 (.move (.tmp 0))) (.pointer (some ⟨gr, 0, none⟩)) rfl ?_
   refine tk 5 (mo 17 (.nilCheck (.tmp 16))) (.pointer (some ⟨gr, 0, none⟩)) rfl ?_
   refine tk 6 (mo 18 (.fieldAddr 88 (.tmp 17) 1)) (.pointer (some ⟨gr, 1, none⟩)) rfl ?_
   refine tk 7 (mo 19 (.load 3 (.tmp 18))) (.int .i64 (at_ : Nat)) rfl ?_ (Or.inl ⟨by rfl, fun W hW => by have hcell := (hW.cell 1 rfl : W.cell? ⟨gr, 1, none⟩ = some (.int .i64 (at_ : Int))); go_simp⟩)
   refine rdH [8] ?_
   refine AllReadyH.cons (o := ⟨some 20, .call { callee := .value (.func 68), args := #[(.tmp 15), (.tmp 19)], argTypes := #[28, 3] }, _, _, _, _⟩) rfl (fun K hK => ?_) AllReadyH.nil
   go_simp
   refine (get_any a n c B at_ _ HSR.out tl tu 0 HT.out).mono ?_
   rintro e wt ⟨rfl, rfl⟩
   refine hK.out _ _ HR.out (fun hHeld => ?_)
   clear hK K
   refine tk 9 (mo 11 (.move (.tmp 20))) (.tuple #[(.int .i64 (tl : Nat)), (.int .i64 (tu : Nat)), (.int .i64 (0 : Nat))]) rfl ?_
   refine tk 10 (mo 21 (.extract (.tmp 11) 0)) (.int .i64 (tl : Nat)) rfl ?_
   refine tk 11 (mo 22 (.extract (.tmp 11) 1)) (.int .i64 (tu : Nat)) rfl ?_
   refine tk 12 (mo 23 (.extract (.tmp 11) 2)) (.int .i64 (0 : Nat)) rfl ?_
   refine tk 13 (mo 7 (.assign (.tmp 21))) (.int .i64 (tl : Nat)) rfl ?_
   refine tk 14 (mo 8 (.assign (.tmp 22))) (.int .i64 (tu : Nat)) rfl ?_
   refine tk 15 (mo 9 (.assign (.tmp 23))) (.int .i64 (0 : Nat)) rfl ?_
   refine wpAnyH_done (by kernel_rfl) ?_ _
   go_wp2_with (first
    | (go_at_call 66; go_must (refine (step_yes HD.out tu).mono ?_); rintro e w2 ⟨rfl, hr, hg⟩; have HR2 := Lib.hid hr; have HG2 := Lib.hid (HGD.out.trans hg); clear hr hg)
    | (go_at_call 47; go_must (refine (must_yes _ _).mono ?_); rintro e w3 ⟨rfl, rfl⟩))
   go_loopg [10, 34] tl (fun g v10 v34 W => ∃ (i u : Nat) (a1 : Option Addr) (c1 : Nat) (L : List EntV), v34 = .int .i64 i ∧ v10 = .slice a1 i c1 ∧ g + i = tl ∧ Hid (Rdr w0 W gr a n c B u) ∧ Hid (w.grownBy W (some gr)) ∧ Hid (OwnG enK EEf W w.heap.size (.slice a1 i c1) L) ∧ Hid (pList (pEnt B 32) i tu = some (L, u)))
   case atStart => exact ⟨0, tu, none, 0, [], rfl, rfl, rfl, HR2, HG2, Lib.hid OwnG.nil, Lib.hid rfl⟩
   case round =>
    clear HR2 HG2
    obtain ⟨i, u, a1, c1, L, rfl, rfl, hg, HRi, HGi, HOi, HPi⟩ := hrel
    have HG := Lib.hid hg
    have hi0 : (0 : Int) ≤ (i : Int) := by omega
    have hiI : (i : Int) ≤ (tl : Int) := by omega
    by_cases hi : (i : Int) < (tl : Int)
    ·have HI := Lib.hid (show i < tl by omega)
     have HLN : Hid (L.length = i) := Lib.hid HOi.out.len
     clear hg
     rcases hq : (pEnt B 32) u with _ | ⟨x, u2⟩
     ·have HPN : Hid (((pN B at_ 64).bind fun n => pList (pEnt B 32) n.1 n.2) = none) := Lib.hid (by rw [HPW.out]; exact pList_none HPi.out hq HI.out)
      have HC := Lib.hid (hq ▸ rent_any HRi.out : Calls Tryd.prog 46 #[.pointer (some ⟨gr, 0, none⟩)] wr (RdIs VE (none) w0 wr gr a n c B))
      clear hq
      go_wp2_with (go_at_call 46; go_must (refine HC.out.mono ?_); rintro e w4 ⟨rfl, hg⟩; have HG4 := Lib.hid (HGi.out.trans hg); clear hg)
      rw [HPN.out]
      exact ⟨rfl, rfl, HG4.out⟩
     ·have HC := Lib.hid (hq ▸ rent_any HRi.out : Calls Tryd.prog 46 #[.pointer (some ⟨gr, 0, none⟩)] wr (RdIs VE (some (x, u2)) w0 wr gr a n c B))
      have HPS : Hid (pList (pEnt B 32) (i + 1) tu = some (L ++ [x], u2)) := Lib.hid (by rw [pList_snoc, HPi.out]; show ((pEnt B 32) u).map _ = _; rw [hq]; rfl)
      clear hq
      go_wp2_with (first
       | (go_at_call 46; go_must (refine HC.out.mono ?_); rintro e w4 ⟨v, rfl, hv, hr, hg⟩; obtain ⟨rfl, hx⟩ := hv; have HXO := Lib.hid hx; have HR4 := Lib.hid hr; have HG4 := Lib.hid (HGi.out.trans hg); have HO4 := Lib.hid (HOi.out.kept hg (row_apart HRi.out.row HOi.out.1)); clear hx hr hg)
       | ((with_reducible refine atS 39 ?_); go_must (refine sl_en rfl _ rfl x HXO.out rfl ?_); have hb := (Below.refl w4.heap.size w4).alloc (Nat.le_refl _) (.cells (enL x).toArray EEf); have HR5 := Lib.hid (HR4.out.below hb); have HG5 := Lib.hid (HG4.out.trans (grown_bel hb (some gr))); have HO5 := Lib.hid (HO4.out.below hb); have HV5 := Lib.hid (oneG (K := enK) w4 x HXO.out EEf (enL x).toArray rfl); clear hb; generalize w4.alloc (.cells (enL x).toArray EEf) = w5 at HR5 HG5 HO5 HV5 ⊢; generalize w4.heap.size = gv at HV5 ⊢)
       | (at_builtin; go_must (refine appG enK Tryd.underlying25 infoEf (by kernel_rfl) rfl (.tmp 36) (.tmp 39) rfl w.heap.size _ L rfl HO5.out _ 1 1 [x] rfl HV5.out (by rw [HLN.out]; have h1 := HI.out; have h2 := HTL.out; omega) HG5.out.size (i + 1) (by rw [HLN.out]) ?_); intro a6 c6 w6 ho hg; have HR6 := Lib.hid (HR5.out.own hg (fun e => row_ne HR5.out.row HO5.out.1 (by decide) e) (fun k hk => by have h1 := (HO5.out.lt k hk).1; have h2 := HLT.out; omega)); have HG6 := Lib.hid (HG5.out.andThen hg (fun j hj => .inl (HO5.out.lt j hj).1)); have HO6 := Lib.hid ho; clear ho hg))
      go_roundg (tl - (i + 1))
      case measure => have := HG.out; have := HI.out; omega
      case rel => exact ⟨i + 1, u2, a6, c6, L ++ [x], by go_num, rfl, by have := HI.out; omega, HR6, HG6, HO6, HPS⟩
    ·have hin : i = tl := by omega
     have HPN : Hid (((pN B at_ 64).bind fun n => pList (pEnt B 32) n.1 n.2) = some (L, u)) := Lib.hid (by rw [HPW.out, ← hin]; exact HPi.out)
     have HIN := Lib.hid hin
     clear hg
     go_wp2
     go_ret
     rw [HPN.out]
     exact ⟨_, rfl, ⟨a1, tl, c1, rfl, HIN.out ▸ HOi.out⟩, HRi.out, HGi.out⟩
  ·have HP : Hid (((pN B at_ 64).bind fun n => pList (pEnt B 32) n.1 n.2) = none) := Lib.hid (by rw [pN_big hT hm]; rfl)
   have hmI : decide ((tl : Int) ≤ 64) = false := decide_eq_false (by omega)
   clear h hT hm
   go_enter Tryd.func45, Tryd.ntmps45
   go_wp2
   refine wp_region_held_drew (S := fun W => RowAt W gr RDf (rdL a n c at_)) (by kernel_rfl) HR.out (fun hHeld => ?_)
   refine tk 0 (mo 12 (.move (.tmp 0))) (.pointer (some ⟨gr, 0, none⟩)) rfl ?_
   refine tk 1 (mo 13 (.nilCheck (.tmp 12))) (.pointer (some ⟨gr, 0, none⟩)) rfl ?_
   refine tk 2 (mo 14 (.fieldAddr 88 (.tmp 13) 0)) (.pointer (some ⟨gr, 0, none⟩)) rfl ?_
   refine tk 3 (mo 15 (.load 28 (.tmp 14))) (.slice a n c) rfl ?_ (Or.inl ⟨by rfl, fun W hW => by have hcell := hW.cell 0 rfl; go_simp⟩)
   refine tk 4 (mo 16 (.move (.tmp 0))) (.pointer (some ⟨gr, 0, none⟩)) rfl ?_
   refine tk 5 (mo 17 (.nilCheck (.tmp 16))) (.pointer (some ⟨gr, 0, none⟩)) rfl ?_
   refine tk 6 (mo 18 (.fieldAddr 88 (.tmp 17) 1)) (.pointer (some ⟨gr, 1, none⟩)) rfl ?_
   refine tk 7 (mo 19 (.load 3 (.tmp 18))) (.int .i64 (at_ : Nat)) rfl ?_ (Or.inl ⟨by rfl, fun W hW => by have hcell := (hW.cell 1 rfl : W.cell? ⟨gr, 1, none⟩ = some (.int .i64 (at_ : Int))); go_simp⟩)
   refine rdH [8] ?_
   refine AllReadyH.cons (o := ⟨some 20, .call { callee := .value (.func 68), args := #[(.tmp 15), (.tmp 19)], argTypes := #[28, 3] }, _, _, _, _⟩) rfl (fun K hK => ?_) AllReadyH.nil
   go_simp
   refine (get_any a n c B at_ _ HSR.out tl tu 0 HT.out).mono ?_
   rintro e wt ⟨rfl, rfl⟩
   refine hK.out _ _ HR.out (fun hHeld => ?_)
   clear hK K
   refine tk 9 (mo 11 (.move (.tmp 20))) (.tuple #[(.int .i64 (tl : Nat)), (.int .i64 (tu : Nat)), (.int .i64 (0 : Nat))]) rfl ?_
   refine tk 10 (mo 21 (.extract (.tmp 11) 0)) (.int .i64 (tl : Nat)) rfl ?_
   refine tk 11 (mo 22 (.extract (.tmp 11) 1)) (.int .i64 (tu : Nat)) rfl ?_
   refine tk 12 (mo 23 (.extract (.tmp 11) 2)) (.int .i64 (0 : Nat)) rfl ?_
   refine tk 13 (mo 7 (.assign (.tmp 21))) (.int .i64 (tl : Nat)) rfl ?_
   refine tk 14 (mo 8 (.assign (.tmp 22))) (.int .i64 (tu : Nat)) rfl ?_
   refine tk 15 (mo 9 (.assign (.tmp 23))) (.int .i64 (0 : Nat)) rfl ?_
   refine wpAnyH_done (by kernel_rfl) ?_ _
   go_wp2_with (first
    | (go_at_call 66; go_must (refine (step_yes HD.out tu).mono ?_); rintro e w2 ⟨rfl, hr, hg⟩; have HR2 := Lib.hid hr; have HG2 := Lib.hid (HGD.out.trans hg); clear hr hg)
    | (go_at_call 47; go_must (refine (must_no _ _).mono ?_); rintro e w3 ⟨rfl, rfl⟩))
   rw [HP.out]
   exact ⟨rfl, rfl, HG2.out⟩
 ·have HP : Hid (((pN B at_ 64).bind fun n => pList (pEnt B 32) n.1 n.2) = none) := Lib.hid (by rw [pN_no hT he]; rfl)
  have HE := Lib.hid he
  clear h hT he
  go_enter Tryd.func45, Tryd.ntmps45
  go_wp2
  refine wp_region_held_drew (S := fun W => RowAt W gr RDf (rdL a n c at_)) (by kernel_rfl) HR.out (fun hHeld => ?_)
  refine tk 0 (mo 12 (.move (.tmp 0))) (.pointer (some ⟨gr, 0, none⟩)) rfl ?_
  refine tk 1 (mo 13 (.nilCheck (.tmp 12))) (.pointer (some ⟨gr, 0, none⟩)) rfl ?_
  refine tk 2 (mo 14 (.fieldAddr 88 (.tmp 13) 0)) (.pointer (some ⟨gr, 0, none⟩)) rfl ?_
  refine tk 3 (mo 15 (.load 28 (.tmp 14))) (.slice a n c) rfl ?_ (Or.inl ⟨by rfl, fun W hW => by have hcell := hW.cell 0 rfl; go_simp⟩)
  refine tk 4 (mo 16 (.move (.tmp 0))) (.pointer (some ⟨gr, 0, none⟩)) rfl ?_
  refine tk 5 (mo 17 (.nilCheck (.tmp 16))) (.pointer (some ⟨gr, 0, none⟩)) rfl ?_
  refine tk 6 (mo 18 (.fieldAddr 88 (.tmp 17) 1)) (.pointer (some ⟨gr, 1, none⟩)) rfl ?_
  refine tk 7 (mo 19 (.load 3 (.tmp 18))) (.int .i64 (at_ : Nat)) rfl ?_ (Or.inl ⟨by rfl, fun W hW => by have hcell := (hW.cell 1 rfl : W.cell? ⟨gr, 1, none⟩ = some (.int .i64 (at_ : Int))); go_simp⟩)
  refine rdH [8] ?_
  refine AllReadyH.cons (o := ⟨some 20, .call { callee := .value (.func 68), args := #[(.tmp 15), (.tmp 19)], argTypes := #[28, 3] }, _, _, _, _⟩) rfl (fun K hK => ?_) AllReadyH.nil
  go_simp
  refine (get_any a n c B at_ _ HSR.out tl tu te HT.out).mono ?_
  rintro e wt ⟨rfl, rfl⟩
  refine hK.out _ _ HR.out (fun hHeld => ?_)
  clear hK K
  refine tk 9 (mo 11 (.move (.tmp 20))) (.tuple #[(.int .i64 (tl : Nat)), (.int .i64 (tu : Nat)), (.int .i64 (te : Nat))]) rfl ?_
  refine tk 10 (mo 21 (.extract (.tmp 11) 0)) (.int .i64 (tl : Nat)) rfl ?_
  refine tk 11 (mo 22 (.extract (.tmp 11) 1)) (.int .i64 (tu : Nat)) rfl ?_
  refine tk 12 (mo 23 (.extract (.tmp 11) 2)) (.int .i64 (te : Nat)) rfl ?_
  refine tk 13 (mo 7 (.assign (.tmp 21))) (.int .i64 (tl : Nat)) rfl ?_
  refine tk 14 (mo 8 (.assign (.tmp 22))) (.int .i64 (tu : Nat)) rfl ?_
  refine tk 15 (mo 9 (.assign (.tmp 23))) (.int .i64 (te : Nat)) rfl ?_
  refine wpAnyH_done (by kernel_rfl) ?_ _
  go_wp2_with (go_at_call 66; go_must (refine (step_no _ te HE.out).mono ?_); rintro e w2 ⟨rfl, rfl⟩)
  rw [HP.out]
  exact ⟨rfl, rfl, HGD.out⟩
set_option maxRecDepth 100000 in
theorem rnames_any {w0 w : World} {gr n c at_ : Nat} {a : Option Addr} {B : List UInt8} (h : Rdr w0 w gr a n c B at_) :
  Calls Tryd.prog 42 #[.pointer (some ⟨gr, 0, none⟩)] w (RdIs (VL rnK NEf w.heap.size) (pNames B 32 at_) w0 w gr a n c B) := by
 have hb := (Below.refl w.heap.size w).alloc (Nat.le_refl _) (.cells #[.pointer (some ⟨gr, 0, none⟩)] PTf)
 have HR := Lib.hid (h.below hb)
 have HX : Hid (RowAt (w.alloc (.cells #[.pointer (some ⟨gr, 0, none⟩)] PTf)) w.heap.size PTf [.pointer (some ⟨gr, 0, none⟩)]) := Lib.hid (heap_alloc_new w _)
 have HG := Lib.hid (grown_bel hb (some gr))
 have HLT := Lib.hid h.lt
 have cx := HX.out.cell 0 rfl
 have hmf : ∀ (fn : Fn) (first cap : Array Value) (w : World), (Instr.makeFunc fn first cap).run Tryd.prog w = .ok (.func fn first cap) w := fun _ _ _ _ => rfl
 have HC := Lib.hid (fun (P : Option (List RName × Nat)) (hP : pNames B 32 at_ = P) => (hP ▸ glist_rn HR.out HX.out (Nat.ne_of_gt HLT.out) : Calls Tryd.prog 63 #[.pointer (some ⟨gr, 0, none⟩), .int .i64 64, .func (.func 64) #[] #[.pointer (some ⟨w.heap.size, 0, none⟩)]] (w.alloc (.cells #[.pointer (some ⟨gr, 0, none⟩)] PTf)) (RdIs (VL rnK NEf (w.alloc (.cells #[.pointer (some ⟨gr, 0, none⟩)] PTf)).heap.size) P w0 (w.alloc (.cells #[.pointer (some ⟨gr, 0, none⟩)] PTf)) gr a n c B)))
 have HS := Lib.hid hb.size
 clear h hb
 rcases hq : pNames B 32 at_ with _ | ⟨L, u⟩
 ·have HQ := Lib.hid (HC.out _ hq)
  clear hq
  go_enter Tryd.func42, Tryd.ntmps42
  go_wp2_with (go_at_call 63; go_must (refine HQ.out.mono ?_); rintro e w2 ⟨rfl, hg⟩; have HG2 := Lib.hid (HG.out.trans hg); clear hg)
  exact ⟨rfl, rfl, HG2.out⟩
 ·have HQ := Lib.hid (HC.out _ hq)
  clear hq
  go_enter Tryd.func42, Tryd.ntmps42
  go_wp2_with (go_at_call 63; go_must (refine HQ.out.mono ?_); rintro e w2 ⟨v, rfl, ⟨a1, n1, c1, rfl, ho⟩, hr, hg⟩; have HG2 := Lib.hid (HG.out.trans hg); have HR2 := Lib.hid hr; have HO2 := Lib.hid (ho.mono HS.out); clear ho hr hg)
  go_ret
  exact ⟨_, rfl, ⟨a1, n1, c1, rfl, HO2.out⟩, HR2.out, HG2.out⟩
end Go.Proofs.YthihmlojdopmfaaDoor
