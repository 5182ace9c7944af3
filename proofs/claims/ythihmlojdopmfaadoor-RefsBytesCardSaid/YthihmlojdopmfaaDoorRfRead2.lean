/-
 A name with its id, an entry: read part by part.
-/
import Derived.Test.YthihmlojdopmfaaDoorRfRead
import Derived.Test.YthihmlojdopmfaaDoorGrp1
import Derived.Test.YthihmlojdopmfaaDoorRfActs
namespace Go.Proofs.YthihmlojdopmfaaDoor
open Go.RowKit

theorem row_th {w : World} {g : Nat} {E : TypeId} {cs : List Value} (h : RowAt w g E cs) (o n : Nat) (hn : o + n ≤ cs.length) : w.there g o n := fun j hj => ⟨by rw [h.cell (o + j) (List.getElem?_eq_getElem (by omega))]; rfl, h.free _⟩
theorem row_puts {g : Nat} {E : TypeId} : ∀ (vs : List Value) (o : Nat) {w : World} {cs : List Value}, RowAt w g E cs → RowAt (w.setCells g o vs) g E (putL cs o vs)
 | [], _, _, _, h => h
 | v :: vs, o, _, _, h => row_puts vs (o + 1) (h.set o v)
theorem grown_puts (g : Nat) : ∀ (vs : List Value) (o : Nat) (w : World), w.grownBy (w.setCells g o vs) (some g)
 | [], _, w => grown_refl w _
 | v :: vs, o, w => (grown_set w g o v).trans (grown_puts g vs (o + 1) _)
theorem results_row1 {E : TypeId} {vs : List Value} {w : World} {g : Nat} (hr : (loadVar E ⟨g, 0, none⟩).run Tryd.prog w = .ok (.agg vs.toArray) w) {fn : Func} {p : Tmp} (h : fn.results = #[.cell p E]) (tmps : Array Value)
  (hp : tmps.getD p undef = .pointer (some ⟨g, 0, none⟩)) : (results fn tmps).run Tryd.prog w = .ok (.agg vs.toArray) w := by
 have hp' : tmps[p]?.getD undef = .pointer (some ⟨g, 0, none⟩) := by simpa using hp
 simp [results, h, hp', asAddr, hr]
theorem wl_alloc_rowz {E : TypeId} {cs : List Value} (hz : ∀ w : World, (zeroValue E).run Tryd.prog w = .ok (.agg cs.toArray) w) {ops : Array Oper} {rest : List Oper} {o : Oper} {a : Act} {w : World} {Q : Exit → Act → World → Prop} (hg : o.guard = none) (ho : o.op = .alloc E)
  (h : ∀ w1, RowAt w1 w.heap.size E cs → Below w.heap.size w w1 → wpList Tryd.prog ops Q rest (a.put o.dst (.pointer (some ⟨w.heap.size, 0, none⟩))) w1) : wpList Tryd.prog ops Q (o :: rest) a w :=
 alloc_row hg E cs ho hz (fun w1 h1 h2 _ => h w1 h1 h2)
theorem zeroNf (w : World) : (zeroValue NEf).run Tryd.prog w = .ok (.agg (rnL ([], zId)).toArray) w := by kernel_rfl
theorem zeroEf (w : World) : (zeroValue EEf).run Tryd.prog w = .ok (.agg (enL default).toArray) w := by kernel_rfl
theorem cells_list {l : List UInt8} : (idCells l).toList = l.map B := by simp [idCells]
section
variable {w : World} {g : Nat} {E : TypeId}
theorem rn_set {s : List UInt8} {i : List UInt8} (s' : List UInt8) (p : ByteArray) (hp : strB s' = p) (h : RowAt w g E (rnL (s, i))) : RowAt (w.setCell ⟨g, 0, none⟩ (.string p)) g E (rnL (s', i)) := by
 subst hp; exact h.set 0 _
theorem rn_put {s : List UInt8} {i j : List UInt8} (hi : i.length = 32) (hj : j.length = 32) (h : RowAt w g E (rnL (s, i))) : RowAt (w.setCells g 1 (idCells j).toList) g E (rnL (s, j)) := by
 have := row_puts (idCells j).toList 1 h
 have e := putL_mid (idCells j).toList [.string (strB s)] (i.map B) [] (by simp [idCells, hi, hj])
 rw [List.append_nil, List.append_nil] at e
 unfold rnL at this
 have e2 : putL (Value.string (strB s) :: i.map B) 1 (idCells j).toList = [.string (strB s)] ++ (idCells j).toList := e
 rw [e2, cells_list] at this
 exact this
theorem en_set0 {e : EntV} (k : UInt8) (h : RowAt w g E (enL e)) : RowAt (w.setCell ⟨g, 0, none⟩ (.int .u8 (k.toNat : Int))) g E (enL ⟨⟨k.toNat, e.upd.name, e.upd.old, e.upd.new⟩, e.note⟩) := h.set 0 _
theorem en_set1 {e : EntV} (s : List UInt8) (p : ByteArray) (hp : strB s = p) (h : RowAt w g E (enL e)) : RowAt (w.setCell ⟨g, 1, none⟩ (.string p)) g E (enL ⟨⟨e.upd.kind, s, e.upd.old, e.upd.new⟩, e.note⟩) := by
 subst hp; exact h.set 1 _
theorem en_put2 {e : EntV} {o : List UInt8} (he : e.upd.old.length = 32) (ho : o.length = 32) (h : RowAt w g E (enL e)) : RowAt (w.setCells g 2 (idCells o).toList) g E (enL ⟨⟨e.upd.kind, e.upd.name, o, e.upd.new⟩, e.note⟩) := by
 have := row_puts (idCells o).toList 2 h
 have e1 := putL_mid (idCells o).toList [.int .u8 (e.upd.kind : Int), .string (strB e.upd.name)] (e.upd.old.map B) (e.upd.new.map B ++ [.string (strB e.note)]) (by simp [idCells, he, ho])
 have e2 : putL (enL e) 2 (idCells o).toList = [.int .u8 (e.upd.kind : Int), .string (strB e.upd.name)] ++ ((idCells o).toList ++ (e.upd.new.map B ++ [.string (strB e.note)])) := by
  rw [← e1]; unfold enL upL; simp only [List.append_assoc]; rfl
 rw [e2, cells_list] at this
 have e3 : enL ⟨⟨e.upd.kind, e.upd.name, o, e.upd.new⟩, e.note⟩ = [.int .u8 (e.upd.kind : Int), .string (strB e.upd.name)] ++ (o.map B ++ (e.upd.new.map B ++ [.string (strB e.note)])) := by unfold enL upL; simp only [List.append_assoc]
 rw [e3]; exact this
theorem en_put34 {e : EntV} {m : List UInt8} (he : e.upd.old.length = 32) (hn : e.upd.new.length = 32) (hm : m.length = 32) (h : RowAt w g E (enL e)) : RowAt (w.setCells g 34 (idCells m).toList) g E (enL ⟨⟨e.upd.kind, e.upd.name, e.upd.old, m⟩, e.note⟩) := by
 have := row_puts (idCells m).toList 34 h
 have e1 := putL_mid (idCells m).toList ([.int .u8 (e.upd.kind : Int), .string (strB e.upd.name)] ++ e.upd.old.map B) (e.upd.new.map B) [.string (strB e.note)] (by simp [idCells, hn, hm])
 have e0 : ([.int .u8 (e.upd.kind : Int), .string (strB e.upd.name)] ++ e.upd.old.map B : List Value).length = 34 := by simp [he]
 rw [e0] at e1
 have e2 : putL (enL e) 34 (idCells m).toList = ([.int .u8 (e.upd.kind : Int), .string (strB e.upd.name)] ++ e.upd.old.map B) ++ ((idCells m).toList ++ [.string (strB e.note)]) := by
  rw [← e1]; unfold enL upL; simp only [List.append_assoc]
 rw [e2, cells_list] at this
 have e3 : enL ⟨⟨e.upd.kind, e.upd.name, e.upd.old, m⟩, e.note⟩ = ([.int .u8 (e.upd.kind : Int), .string (strB e.upd.name)] ++ e.upd.old.map B) ++ (m.map B ++ [.string (strB e.note)]) := by unfold enL upL; simp only [List.append_assoc]
 rw [e3]; exact this
theorem en_set66 {e : EntV} (he : UpOk e.upd) (t : List UInt8) (p : ByteArray) (hp : strB t = p) (h : RowAt w g E (enL e)) : RowAt (w.setCell ⟨g, 66, none⟩ (.string p)) g E (enL ⟨e.upd, t⟩) := by
 subst hp
 have := h.set 66 (.string (strB t))
 have e1 : (upL e.upd).length = 66 := upL_len he
 have e2 : (enL e).set 66 (.string (strB t)) = enL ⟨e.upd, t⟩ := by
  unfold enL
  rw [List.set_append_right _ _ (by omega), e1]; rfl
 rw [e2] at this
 exact this
theorem en_c66 {e : EntV} (he : UpOk e.upd) (h : RowAt w g E (enL e)) : w.cell? ⟨g, 66, none⟩ = some (.string (strB e.note)) := h.cell 66 (by
 have e1 : (upL e.upd).length = 66 := upL_len he
 unfold enL
 rw [List.getElem?_append_right (by omega), e1]; rfl)
end
theorem RowAt.all {w : World} {g : Nat} {E : TypeId} {cs : List Value} (h : RowAt w g E cs) : w.rangeAt g 0 cs := fun j v hj => by rw [Nat.zero_add]; exact h.cell j hj
theorem putL_self (vs : List Value) : putL vs 0 vs.toArray.toList = vs := by
 have := putL_mid vs [] vs [] rfl
 simpa using this
theorem rn_allone (x : RName) : (rnL x).toArray.all (·.oneCell') = true := by
 rw [Array.all_eq_true_iff_forall_mem]; intro v hv; exact rnL_one x v (by simpa using hv)
theorem en_allone (x : EntV) : (enL x).toArray.all (·.oneCell') = true := by
 rw [Array.all_eq_true_iff_forall_mem]; intro v hv; exact enL_one x v (by simpa using hv)
def VN (x : RName) (v : Value) (_ : World) : Prop := v = .agg (rnL x).toArray ∧ x.2.length = 32
def VE (x : EntV) (v : Value) (_ : World) : Prop := v = .agg (enL x).toArray ∧ UpOk x.upd
abbrev PTf : TypeId := 86

set_option maxRecDepth 100000 in
set_option maxHeartbeats 4000000 in
theorem rname_any {w0 w : World} {gr gb n c at_ : Nat} {a : Option Addr} {B : List UInt8} (h : Rdr w0 w gr a n c B at_) (hx : RowAt w gb PTf [.pointer (some ⟨gr, 0, none⟩)]) (hgb : gb ≠ gr) :
  Calls Tryd.prog 64 #[.pointer (some ⟨gb, 0, none⟩)] w (RdIs VN (pName B 32 at_) w0 w gr a n c B) := by
 have HH := Lib.hid h
 have HXH := Lib.hid hx
 have HNX : Hid (some gb ≠ some gr) := Lib.hid (fun e => hgb (Option.some.inj e))
 clear h hx hgb
 rcases hq0 : pT B at_ 32 with _ | ⟨s, u1⟩
 ·have HP : Hid (pName B 32 at_ = none) := Lib.hid (by unfold pName; rw [hq0]; rfl)
  have HK0 := Lib.hid (fun W (hW : Rdr w0 W gr a n c B at_) => (hq0 ▸ rtext_any hW 32 : Calls Tryd.prog 43 #[.pointer (some ⟨gr, 0, none⟩), .int .i64 32] W (RdIs VS (none) w0 W gr a n c B)))
  clear hq0
  go_enter Tryd.func64, Tryd.ntmps64
  go_wp2_with (first
   | ((with_reducible refine atS 1 ?_); go_must (refine wl_alloc_rowz zeroNf rfl rfl ?_); intro w00 hi hb; have HT0 := Lib.hid hi; have HR0 := Lib.hid (HH.out.below hb); have HG0 := Lib.hid (grown_bel hb (some gr)); have HLT : Hid (gr < w.heap.size) := Lib.hid HH.out.lt; have HNE : Hid (some w.heap.size ≠ some gr) := Lib.hid (fun e => by have := HLT.out; have := Option.some.inj e; omega); have HX0 := Lib.hid (HXH.out.below hb); have cx := HX0.out.cell 0 rfl; have HN1 : Hid (some gb ≠ some w.heap.size) := Lib.hid (fun e => by have h1 := HXH.out.lt; have h2 := Option.some.inj e; omega); clear hb; generalize hG1 : w.heap.size = g1 at hi HT0 HLT HNE HN1 ⊢; have HLW : Hid (w.heap.size ≤ g1) := Lib.hid (Nat.le_of_eq hG1); clear hG1 hi)
   | (go_at_call 43; (with_reducible refine (HK0.out w00 HR0.out).mono ?_); rintro e wz ⟨rfl, hg⟩; have HGz := Lib.hid (HG0.out.trans hg); clear hg))
  rw [HP.out]
  exact ⟨rfl, rfl, HGz.out⟩
 ·have HK0 := Lib.hid (fun W (hW : Rdr w0 W gr a n c B at_) => (hq0 ▸ rtext_any hW 32 : Calls Tryd.prog 43 #[.pointer (some ⟨gr, 0, none⟩), .int .i64 32] W (RdIs VS (some (s, u1)) w0 W gr a n c B)))
  obtain ⟨p0, hp⟩ : ∃ p, strB s = p := ⟨_, rfl⟩
  have HPE0 := Lib.hid hp
  clear hp
  rcases hq1 : pD B u1 with _ | ⟨i, u2⟩
  ·have HP : Hid (pName B 32 at_ = none) := Lib.hid (by unfold pName; rw [hq0]; show (pD B u1).map _ = _; rw [hq1]; rfl)
   have HK1 := Lib.hid (fun W (hW : Rdr w0 W gr a n c B u1) => (hq1 ▸ rid_any hW : Calls Tryd.prog 44 #[.pointer (some ⟨gr, 0, none⟩)] W (RdIs VI (none) w0 W gr a n c B)))
   clear hq0
   clear hq1
   go_enter Tryd.func64, Tryd.ntmps64
   go_wp2_with (first
    | ((with_reducible refine atS 1 ?_); go_must (refine wl_alloc_rowz zeroNf rfl rfl ?_); intro w00 hi hb; have HT0 := Lib.hid hi; have HR0 := Lib.hid (HH.out.below hb); have HG0 := Lib.hid (grown_bel hb (some gr)); have HLT : Hid (gr < w.heap.size) := Lib.hid HH.out.lt; have HNE : Hid (some w.heap.size ≠ some gr) := Lib.hid (fun e => by have := HLT.out; have := Option.some.inj e; omega); have HX0 := Lib.hid (HXH.out.below hb); have cx := HX0.out.cell 0 rfl; have HN1 : Hid (some gb ≠ some w.heap.size) := Lib.hid (fun e => by have h1 := HXH.out.lt; have h2 := Option.some.inj e; omega); clear hb; generalize hG1 : w.heap.size = g1 at hi HT0 HLT HNE HN1 ⊢; have HLW : Hid (w.heap.size ≤ g1) := Lib.hid (Nat.le_of_eq hG1); clear hG1 hi)
    | (go_at_call 43; (with_reducible refine (HK0.out w00 HR0.out).mono ?_); rintro e wc0 ⟨v, rfl, hv, hr, hg⟩; obtain rfl : v = .string p0 := hv.trans (congrArg Value.string HPE0.out); have HRc0 := Lib.hid hr; have HGc0 := Lib.hid (HG0.out.trans hg); have HTc0 := Lib.hid (HT0.out.grown hg HNE.out); have HXc0 := Lib.hid (HX0.out.grown hg HNX.out); clear hr hg; have ct := HTc0.out.cell 0 rfl; have ft := HTc0.out.free 0; obtain ⟨w1, hw⟩ : ∃ W, wc0.setCell ⟨g1, 0, none⟩ (.string p0) = W := ⟨_, rfl⟩; have hgs : wc0.grownBy w1 (some g1) := hw ▸ grown_set _ _ _ _; have HT1 := Lib.hid (hw ▸ rn_set s p0 HPE0.out HTc0.out); have HR1 := Lib.hid (HRc0.out.other hgs HLT.out); have HG1 := Lib.hid (HGc0.out.andThen hgs (fun j hj => by cases hj; exact .inl HLW.out)); have HX1 := Lib.hid (HXc0.out.grown hgs HN1.out); have cx := HX1.out.cell 0 rfl; clear hgs)
    | (go_at_call 44; (with_reducible refine (HK1.out w1 HR1.out).mono ?_); rintro e wz ⟨rfl, hg⟩; have HGz := Lib.hid (HG1.out.trans hg); clear hg))
   rw [HP.out]
   exact ⟨rfl, rfl, HGz.out⟩
  ·have HK1 := Lib.hid (fun W (hW : Rdr w0 W gr a n c B u1) => (hq1 ▸ rid_any hW : Calls Tryd.prog 44 #[.pointer (some ⟨gr, 0, none⟩)] W (RdIs VI (some (i, u2)) w0 W gr a n c B)))
   have HP : Hid (pName B 32 at_ = some ((s, i), u2)) := Lib.hid (by unfold pName; rw [hq0]; show (pD B u1).map _ = _; rw [hq1]; rfl)
   go_enter Tryd.func64, Tryd.ntmps64
   go_wp2_with (first
    | ((with_reducible refine atS 1 ?_); go_must (refine wl_alloc_rowz zeroNf rfl rfl ?_); intro w00 hi hb; have HT0 := Lib.hid hi; have HR0 := Lib.hid (HH.out.below hb); have HG0 := Lib.hid (grown_bel hb (some gr)); have HLT : Hid (gr < w.heap.size) := Lib.hid HH.out.lt; have HNE : Hid (some w.heap.size ≠ some gr) := Lib.hid (fun e => by have := HLT.out; have := Option.some.inj e; omega); have HX0 := Lib.hid (HXH.out.below hb); have cx := HX0.out.cell 0 rfl; have HN1 : Hid (some gb ≠ some w.heap.size) := Lib.hid (fun e => by have h1 := HXH.out.lt; have h2 := Option.some.inj e; omega); clear hb; generalize hG1 : w.heap.size = g1 at hi HT0 HLT HNE HN1 ⊢; have HLW : Hid (w.heap.size ≤ g1) := Lib.hid (Nat.le_of_eq hG1); clear hG1 hi)
    | (go_at_call 43; (with_reducible refine (HK0.out w00 HR0.out).mono ?_); rintro e wc0 ⟨v, rfl, hv, hr, hg⟩; obtain rfl : v = .string p0 := hv.trans (congrArg Value.string HPE0.out); have HRc0 := Lib.hid hr; have HGc0 := Lib.hid (HG0.out.trans hg); have HTc0 := Lib.hid (HT0.out.grown hg HNE.out); have HXc0 := Lib.hid (HX0.out.grown hg HNX.out); clear hr hg; have ct := HTc0.out.cell 0 rfl; have ft := HTc0.out.free 0; obtain ⟨w1, hw⟩ : ∃ W, wc0.setCell ⟨g1, 0, none⟩ (.string p0) = W := ⟨_, rfl⟩; have hgs : wc0.grownBy w1 (some g1) := hw ▸ grown_set _ _ _ _; have HT1 := Lib.hid (hw ▸ rn_set s p0 HPE0.out HTc0.out); have HR1 := Lib.hid (HRc0.out.other hgs HLT.out); have HG1 := Lib.hid (HGc0.out.andThen hgs (fun j hj => by cases hj; exact .inl HLW.out)); have HX1 := Lib.hid (HXc0.out.grown hgs HN1.out); have cx := HX1.out.cell 0 rfl; clear hgs)
    | (go_at_call 44; (with_reducible refine (HK1.out w1 HR1.out).mono ?_); rintro e wc1 ⟨v, rfl, hv, hr, hg⟩; obtain ⟨rfl, h32⟩ := hv; have HL1 := Lib.hid h32; clear h32; have HRc1 := Lib.hid hr; have HGc1 := Lib.hid (HG1.out.trans hg); have HTc1 := Lib.hid (HT1.out.grown hg HNE.out); have HXc1 := Lib.hid (HX1.out.grown hg HNX.out); clear hr hg)
    | ((with_reducible refine atT 7 ?_); go_must (refine wpList_store_mid rfl _ _ _ rfl g1 1 (idCells i) rfl rfl (row_th HTc1.out 1 _ (by rw [idCells_size HL1.out]; rw [rnL_len (x := (s, zId)) len_idZero]; decide)) (by rw [idCells_size HL1.out]; exact info_id) (by unfold idCells; exact all_oneCell_toArray (fun v hv => by obtain ⟨x, _, rfl⟩ := List.mem_map.1 hv; rfl)) ?_); obtain ⟨w2, hw⟩ : ∃ W, wc1.setCells g1 1 (idCells i).toList = W := ⟨_, rfl⟩; rw [hw]; have hgs : wc1.grownBy w2 (some g1) := hw ▸ grown_puts _ _ _ _; have HT2 := Lib.hid (hw ▸ rn_put len_idZero HL1.out HTc1.out); have HR2 := Lib.hid (HRc1.out.other hgs HLT.out); have HG2 := Lib.hid (HGc1.out.andThen hgs (fun j hj => by cases hj; exact .inl HLW.out)); have HX2 := Lib.hid (HXc1.out.grown hgs HN1.out); have cx := HX2.out.cell 0 rfl; clear hgs hw)
    | ((with_reducible refine atS 8 ?_); go_must (refine wl_ex rfl (exec_loadRn _ rfl g1 0 (s, i) HL1.out rfl HT2.out.all) ?_))
    | ((with_reducible show wpList _ _ _ (⟨_, Op.store _ (.tmp 1) (.tmp 8), _, _, _, _⟩ :: _) _ _); go_must (refine wpList_store_mid rfl _ _ _ rfl g1 0 ((rnL (s, i)).toArray) rfl rfl (row_th HT2.out 0 _ (by simp)) (by simpa using size33 (X := (s, i)) HL1.out) (by simpa using rn_allone (s, i)) ?_); obtain ⟨wz, hw⟩ : ∃ W, w2.setCells g1 0 ((rnL (s, i)).toArray).toList = W := ⟨_, rfl⟩; rw [hw]; have hgs : w2.grownBy wz (some g1) := hw ▸ grown_puts _ _ _ _; have HTz := Lib.hid (show RowAt wz g1 NEf _ from hw ▸ row_puts _ 0 HT2.out); have HRz := Lib.hid (HR2.out.other hgs HLT.out); have HGz := Lib.hid (HG2.out.andThen hgs (fun j hj => by cases hj; exact .inl HLW.out)); clear hgs hw))
   have HTF : Hid (RowAt wz g1 NEf (rnL (s, i))) := Lib.hid (by have h := HTz.out; rwa [putL_self] at h)
   refine bodyPost_ret (results_row1 (vs := rnL (s, i)) (run_loadVar_mid (P := Tryd.prog) wz g1 0 NEf (rnL (s, i)) _ HTF.out.all Tryd.underlying55 rfl (size33 (X := (s, i)) HL1.out)) rfl _ rfl) rfl ?_
   rw [HP.out]
   exact ⟨_, rfl, ⟨rfl, HL1.out⟩, HRz.out, HGz.out⟩
set_option maxRecDepth 100000 in
set_option maxHeartbeats 4000000 in
theorem rent_any {w0 w : World} {gr n c at_ : Nat} {a : Option Addr} {B : List UInt8} (h : Rdr w0 w gr a n c B at_) :
  Calls Tryd.prog 46 #[.pointer (some ⟨gr, 0, none⟩)] w (RdIs VE (pEnt B 32 at_) w0 w gr a n c B) := by
 have HH := Lib.hid h
 clear h
 rcases hq0 : pB B at_ with _ | ⟨k, u1⟩
 ·have HP : Hid (pEnt B 32 at_ = none) := Lib.hid (by unfold pEnt; rw [hq0]; rfl)
  have HK0 := Lib.hid (fun W (hW : Rdr w0 W gr a n c B at_) => (hq0 ▸ rbyte_any hW : Calls Tryd.prog 69 #[.pointer (some ⟨gr, 0, none⟩)] W (RdIs VB (none) w0 W gr a n c B)))
  clear hq0
  go_enter Tryd.func46, Tryd.ntmps46
  go_wp2_with (first
   | ((with_reducible refine atS 2 ?_); go_must (refine wl_alloc_rowz zeroEf rfl rfl ?_); intro w00 hi hb; have HT0 := Lib.hid hi; have HR0 := Lib.hid (HH.out.below hb); have HG0 := Lib.hid (grown_bel hb (some gr)); have HLT : Hid (gr < w.heap.size) := Lib.hid HH.out.lt; have HNE : Hid (some w.heap.size ≠ some gr) := Lib.hid (fun e => by have := HLT.out; have := Option.some.inj e; omega); clear hb; generalize hG1 : w.heap.size = g1 at hi HT0 HLT HNE ⊢; have HLW : Hid (w.heap.size ≤ g1) := Lib.hid (Nat.le_of_eq hG1); clear hG1 hi)
   | (go_at_call 69; (with_reducible refine (HK0.out w00 HR0.out).mono ?_); rintro e wz ⟨rfl, hg⟩; have HGz := Lib.hid (HG0.out.trans hg); clear hg))
  rw [HP.out]
  exact ⟨rfl, rfl, HGz.out⟩
 ·have HK0 := Lib.hid (fun W (hW : Rdr w0 W gr a n c B at_) => (hq0 ▸ rbyte_any hW : Calls Tryd.prog 69 #[.pointer (some ⟨gr, 0, none⟩)] W (RdIs VB (some (k, u1)) w0 W gr a n c B)))
  rcases hq1 : pT B u1 32 with _ | ⟨s, u2⟩
  ·have HP : Hid (pEnt B 32 at_ = none) := Lib.hid (by unfold pEnt; rw [hq0]; show (pT B u1 32).bind _ = _; rw [hq1]; rfl)
   have HK1 := Lib.hid (fun W (hW : Rdr w0 W gr a n c B u1) => (hq1 ▸ rtext_any hW 32 : Calls Tryd.prog 43 #[.pointer (some ⟨gr, 0, none⟩), .int .i64 32] W (RdIs VS (none) w0 W gr a n c B)))
   clear hq0
   clear hq1
   go_enter Tryd.func46, Tryd.ntmps46
   go_wp2_with (first
    | ((with_reducible refine atS 2 ?_); go_must (refine wl_alloc_rowz zeroEf rfl rfl ?_); intro w00 hi hb; have HT0 := Lib.hid hi; have HR0 := Lib.hid (HH.out.below hb); have HG0 := Lib.hid (grown_bel hb (some gr)); have HLT : Hid (gr < w.heap.size) := Lib.hid HH.out.lt; have HNE : Hid (some w.heap.size ≠ some gr) := Lib.hid (fun e => by have := HLT.out; have := Option.some.inj e; omega); clear hb; generalize hG1 : w.heap.size = g1 at hi HT0 HLT HNE ⊢; have HLW : Hid (w.heap.size ≤ g1) := Lib.hid (Nat.le_of_eq hG1); clear hG1 hi)
    | (go_at_call 69; (with_reducible refine (HK0.out w00 HR0.out).mono ?_); rintro e wc0 ⟨v, rfl, hv, hr, hg⟩; obtain rfl : v = .int .u8 (k.toNat : Int) := hv; have HRc0 := Lib.hid hr; have HGc0 := Lib.hid (HG0.out.trans hg); have HTc0 := Lib.hid (HT0.out.grown hg HNE.out); clear hr hg; have ct := HTc0.out.cell 0 rfl; have ft := HTc0.out.free 0; obtain ⟨w1, hw⟩ : ∃ W, wc0.setCell ⟨g1, 0, none⟩ (.int .u8 (k.toNat : Int)) = W := ⟨_, rfl⟩; have hgs : wc0.grownBy w1 (some g1) := hw ▸ grown_set _ _ _ _; have HT1 := Lib.hid (hw ▸ en_set0 k HTc0.out); have HR1 := Lib.hid (HRc0.out.other hgs HLT.out); have HG1 := Lib.hid (HGc0.out.andThen hgs (fun j hj => by cases hj; exact .inl HLW.out)); clear hgs)
    | (go_at_call 43; (with_reducible refine (HK1.out w1 HR1.out).mono ?_); rintro e wz ⟨rfl, hg⟩; have HGz := Lib.hid (HG1.out.trans hg); clear hg))
   rw [HP.out]
   exact ⟨rfl, rfl, HGz.out⟩
  ·have HK1 := Lib.hid (fun W (hW : Rdr w0 W gr a n c B u1) => (hq1 ▸ rtext_any hW 32 : Calls Tryd.prog 43 #[.pointer (some ⟨gr, 0, none⟩), .int .i64 32] W (RdIs VS (some (s, u2)) w0 W gr a n c B)))
   obtain ⟨p1, hp⟩ : ∃ p, strB s = p := ⟨_, rfl⟩
   have HPE1 := Lib.hid hp
   clear hp
   rcases hq2 : pD B u2 with _ | ⟨o, u3⟩
   ·have HP : Hid (pEnt B 32 at_ = none) := Lib.hid (by unfold pEnt; rw [hq0]; show (pT B u1 32).bind _ = _; rw [hq1]; show (pD B u2).bind _ = _; rw [hq2]; rfl)
    have HK2 := Lib.hid (fun W (hW : Rdr w0 W gr a n c B u2) => (hq2 ▸ rid_any hW : Calls Tryd.prog 44 #[.pointer (some ⟨gr, 0, none⟩)] W (RdIs VI (none) w0 W gr a n c B)))
    clear hq0
    clear hq1
    clear hq2
    go_enter Tryd.func46, Tryd.ntmps46
    go_wp2_with (first
     | ((with_reducible refine atS 2 ?_); go_must (refine wl_alloc_rowz zeroEf rfl rfl ?_); intro w00 hi hb; have HT0 := Lib.hid hi; have HR0 := Lib.hid (HH.out.below hb); have HG0 := Lib.hid (grown_bel hb (some gr)); have HLT : Hid (gr < w.heap.size) := Lib.hid HH.out.lt; have HNE : Hid (some w.heap.size ≠ some gr) := Lib.hid (fun e => by have := HLT.out; have := Option.some.inj e; omega); clear hb; generalize hG1 : w.heap.size = g1 at hi HT0 HLT HNE ⊢; have HLW : Hid (w.heap.size ≤ g1) := Lib.hid (Nat.le_of_eq hG1); clear hG1 hi)
     | (go_at_call 69; (with_reducible refine (HK0.out w00 HR0.out).mono ?_); rintro e wc0 ⟨v, rfl, hv, hr, hg⟩; obtain rfl : v = .int .u8 (k.toNat : Int) := hv; have HRc0 := Lib.hid hr; have HGc0 := Lib.hid (HG0.out.trans hg); have HTc0 := Lib.hid (HT0.out.grown hg HNE.out); clear hr hg; have ct := HTc0.out.cell 0 rfl; have ft := HTc0.out.free 0; obtain ⟨w1, hw⟩ : ∃ W, wc0.setCell ⟨g1, 0, none⟩ (.int .u8 (k.toNat : Int)) = W := ⟨_, rfl⟩; have hgs : wc0.grownBy w1 (some g1) := hw ▸ grown_set _ _ _ _; have HT1 := Lib.hid (hw ▸ en_set0 k HTc0.out); have HR1 := Lib.hid (HRc0.out.other hgs HLT.out); have HG1 := Lib.hid (HGc0.out.andThen hgs (fun j hj => by cases hj; exact .inl HLW.out)); clear hgs)
     | (go_at_call 43; (with_reducible refine (HK1.out w1 HR1.out).mono ?_); rintro e wc1 ⟨v, rfl, hv, hr, hg⟩; obtain rfl : v = .string p1 := hv.trans (congrArg Value.string HPE1.out); have HRc1 := Lib.hid hr; have HGc1 := Lib.hid (HG1.out.trans hg); have HTc1 := Lib.hid (HT1.out.grown hg HNE.out); clear hr hg; have ct := HTc1.out.cell 1 rfl; have ft := HTc1.out.free 1; obtain ⟨w2, hw⟩ : ∃ W, wc1.setCell ⟨g1, 1, none⟩ (.string p1) = W := ⟨_, rfl⟩; have hgs : wc1.grownBy w2 (some g1) := hw ▸ grown_set _ _ _ _; have HT2 := Lib.hid (hw ▸ en_set1 s p1 HPE1.out HTc1.out); have HR2 := Lib.hid (HRc1.out.other hgs HLT.out); have HG2 := Lib.hid (HGc1.out.andThen hgs (fun j hj => by cases hj; exact .inl HLW.out)); clear hgs)
     | (go_at_call 44; (with_reducible refine (HK2.out w2 HR2.out).mono ?_); rintro e wz ⟨rfl, hg⟩; have HGz := Lib.hid (HG2.out.trans hg); clear hg))
    rw [HP.out]
    exact ⟨rfl, rfl, HGz.out⟩
   ·have HK2 := Lib.hid (fun W (hW : Rdr w0 W gr a n c B u2) => (hq2 ▸ rid_any hW : Calls Tryd.prog 44 #[.pointer (some ⟨gr, 0, none⟩)] W (RdIs VI (some (o, u3)) w0 W gr a n c B)))
    rcases hq3 : pD B u3 with _ | ⟨m, u4⟩
    ·have HP : Hid (pEnt B 32 at_ = none) := Lib.hid (by unfold pEnt; rw [hq0]; show (pT B u1 32).bind _ = _; rw [hq1]; show (pD B u2).bind _ = _; rw [hq2]; show (pD B u3).bind _ = _; rw [hq3]; rfl)
     have HK3 := Lib.hid (fun W (hW : Rdr w0 W gr a n c B u3) => (hq3 ▸ rid_any hW : Calls Tryd.prog 44 #[.pointer (some ⟨gr, 0, none⟩)] W (RdIs VI (none) w0 W gr a n c B)))
     clear hq0
     clear hq1
     clear hq2
     clear hq3
     go_enter Tryd.func46, Tryd.ntmps46
     go_wp2_with (first
      | ((with_reducible refine atS 2 ?_); go_must (refine wl_alloc_rowz zeroEf rfl rfl ?_); intro w00 hi hb; have HT0 := Lib.hid hi; have HR0 := Lib.hid (HH.out.below hb); have HG0 := Lib.hid (grown_bel hb (some gr)); have HLT : Hid (gr < w.heap.size) := Lib.hid HH.out.lt; have HNE : Hid (some w.heap.size ≠ some gr) := Lib.hid (fun e => by have := HLT.out; have := Option.some.inj e; omega); clear hb; generalize hG1 : w.heap.size = g1 at hi HT0 HLT HNE ⊢; have HLW : Hid (w.heap.size ≤ g1) := Lib.hid (Nat.le_of_eq hG1); clear hG1 hi)
      | (go_at_call 69; (with_reducible refine (HK0.out w00 HR0.out).mono ?_); rintro e wc0 ⟨v, rfl, hv, hr, hg⟩; obtain rfl : v = .int .u8 (k.toNat : Int) := hv; have HRc0 := Lib.hid hr; have HGc0 := Lib.hid (HG0.out.trans hg); have HTc0 := Lib.hid (HT0.out.grown hg HNE.out); clear hr hg; have ct := HTc0.out.cell 0 rfl; have ft := HTc0.out.free 0; obtain ⟨w1, hw⟩ : ∃ W, wc0.setCell ⟨g1, 0, none⟩ (.int .u8 (k.toNat : Int)) = W := ⟨_, rfl⟩; have hgs : wc0.grownBy w1 (some g1) := hw ▸ grown_set _ _ _ _; have HT1 := Lib.hid (hw ▸ en_set0 k HTc0.out); have HR1 := Lib.hid (HRc0.out.other hgs HLT.out); have HG1 := Lib.hid (HGc0.out.andThen hgs (fun j hj => by cases hj; exact .inl HLW.out)); clear hgs)
      | (go_at_call 43; (with_reducible refine (HK1.out w1 HR1.out).mono ?_); rintro e wc1 ⟨v, rfl, hv, hr, hg⟩; obtain rfl : v = .string p1 := hv.trans (congrArg Value.string HPE1.out); have HRc1 := Lib.hid hr; have HGc1 := Lib.hid (HG1.out.trans hg); have HTc1 := Lib.hid (HT1.out.grown hg HNE.out); clear hr hg; have ct := HTc1.out.cell 1 rfl; have ft := HTc1.out.free 1; obtain ⟨w2, hw⟩ : ∃ W, wc1.setCell ⟨g1, 1, none⟩ (.string p1) = W := ⟨_, rfl⟩; have hgs : wc1.grownBy w2 (some g1) := hw ▸ grown_set _ _ _ _; have HT2 := Lib.hid (hw ▸ en_set1 s p1 HPE1.out HTc1.out); have HR2 := Lib.hid (HRc1.out.other hgs HLT.out); have HG2 := Lib.hid (HGc1.out.andThen hgs (fun j hj => by cases hj; exact .inl HLW.out)); clear hgs)
      | (go_at_call 44; (with_reducible refine (HK2.out w2 HR2.out).mono ?_); rintro e wc2 ⟨v, rfl, hv, hr, hg⟩; obtain ⟨rfl, h32⟩ := hv; have HL2 := Lib.hid h32; clear h32; have HRc2 := Lib.hid hr; have HGc2 := Lib.hid (HG2.out.trans hg); have HTc2 := Lib.hid (HT2.out.grown hg HNE.out); clear hr hg)
      | ((with_reducible refine atT 14 ?_); go_must (refine wpList_store_mid rfl _ _ _ rfl g1 2 (idCells o) rfl rfl (row_th HTc2.out 2 _ (by rw [idCells_size HL2.out]; rw [enL_len ⟨by have := k.toNat_lt; omega, len_idZero, len_idZero⟩]; decide)) (by rw [idCells_size HL2.out]; exact info_id) (by unfold idCells; exact all_oneCell_toArray (fun v hv => by obtain ⟨x, _, rfl⟩ := List.mem_map.1 hv; rfl)) ?_); obtain ⟨w3, hw⟩ : ∃ W, wc2.setCells g1 2 (idCells o).toList = W := ⟨_, rfl⟩; rw [hw]; have hgs : wc2.grownBy w3 (some g1) := hw ▸ grown_puts _ _ _ _; have HT3 := Lib.hid (hw ▸ en_put2 (e := ⟨⟨k.toNat, s, zId, zId⟩, []⟩) len_idZero HL2.out HTc2.out); have HR3 := Lib.hid (HRc2.out.other hgs HLT.out); have HG3 := Lib.hid (HGc2.out.andThen hgs (fun j hj => by cases hj; exact .inl HLW.out)); clear hgs hw)
      | (go_at_call 44; (with_reducible refine (HK3.out w3 HR3.out).mono ?_); rintro e wz ⟨rfl, hg⟩; have HGz := Lib.hid (HG3.out.trans hg); clear hg))
     rw [HP.out]
     exact ⟨rfl, rfl, HGz.out⟩
    ·have HK3 := Lib.hid (fun W (hW : Rdr w0 W gr a n c B u3) => (hq3 ▸ rid_any hW : Calls Tryd.prog 44 #[.pointer (some ⟨gr, 0, none⟩)] W (RdIs VI (some (m, u4)) w0 W gr a n c B)))
     rcases hq4 : pT B u4 256 with _ | ⟨t, u5⟩
     ·have HP : Hid (pEnt B 32 at_ = none) := Lib.hid (by unfold pEnt; rw [hq0]; show (pT B u1 32).bind _ = _; rw [hq1]; show (pD B u2).bind _ = _; rw [hq2]; show (pD B u3).bind _ = _; rw [hq3]; show (pT B u4 256).map _ = _; rw [hq4]; rfl)
      have HK4 := Lib.hid (fun W (hW : Rdr w0 W gr a n c B u4) => (hq4 ▸ rtext_any hW 256 : Calls Tryd.prog 43 #[.pointer (some ⟨gr, 0, none⟩), .int .i64 256] W (RdIs VS (none) w0 W gr a n c B)))
      clear hq0
      clear hq1
      clear hq2
      clear hq3
      clear hq4
      go_enter Tryd.func46, Tryd.ntmps46
      go_wp2_with (first
       | ((with_reducible refine atS 2 ?_); go_must (refine wl_alloc_rowz zeroEf rfl rfl ?_); intro w00 hi hb; have HT0 := Lib.hid hi; have HR0 := Lib.hid (HH.out.below hb); have HG0 := Lib.hid (grown_bel hb (some gr)); have HLT : Hid (gr < w.heap.size) := Lib.hid HH.out.lt; have HNE : Hid (some w.heap.size ≠ some gr) := Lib.hid (fun e => by have := HLT.out; have := Option.some.inj e; omega); clear hb; generalize hG1 : w.heap.size = g1 at hi HT0 HLT HNE ⊢; have HLW : Hid (w.heap.size ≤ g1) := Lib.hid (Nat.le_of_eq hG1); clear hG1 hi)
       | (go_at_call 69; (with_reducible refine (HK0.out w00 HR0.out).mono ?_); rintro e wc0 ⟨v, rfl, hv, hr, hg⟩; obtain rfl : v = .int .u8 (k.toNat : Int) := hv; have HRc0 := Lib.hid hr; have HGc0 := Lib.hid (HG0.out.trans hg); have HTc0 := Lib.hid (HT0.out.grown hg HNE.out); clear hr hg; have ct := HTc0.out.cell 0 rfl; have ft := HTc0.out.free 0; obtain ⟨w1, hw⟩ : ∃ W, wc0.setCell ⟨g1, 0, none⟩ (.int .u8 (k.toNat : Int)) = W := ⟨_, rfl⟩; have hgs : wc0.grownBy w1 (some g1) := hw ▸ grown_set _ _ _ _; have HT1 := Lib.hid (hw ▸ en_set0 k HTc0.out); have HR1 := Lib.hid (HRc0.out.other hgs HLT.out); have HG1 := Lib.hid (HGc0.out.andThen hgs (fun j hj => by cases hj; exact .inl HLW.out)); clear hgs)
       | (go_at_call 43; (with_reducible refine (HK1.out w1 HR1.out).mono ?_); rintro e wc1 ⟨v, rfl, hv, hr, hg⟩; obtain rfl : v = .string p1 := hv.trans (congrArg Value.string HPE1.out); have HRc1 := Lib.hid hr; have HGc1 := Lib.hid (HG1.out.trans hg); have HTc1 := Lib.hid (HT1.out.grown hg HNE.out); clear hr hg; have ct := HTc1.out.cell 1 rfl; have ft := HTc1.out.free 1; obtain ⟨w2, hw⟩ : ∃ W, wc1.setCell ⟨g1, 1, none⟩ (.string p1) = W := ⟨_, rfl⟩; have hgs : wc1.grownBy w2 (some g1) := hw ▸ grown_set _ _ _ _; have HT2 := Lib.hid (hw ▸ en_set1 s p1 HPE1.out HTc1.out); have HR2 := Lib.hid (HRc1.out.other hgs HLT.out); have HG2 := Lib.hid (HGc1.out.andThen hgs (fun j hj => by cases hj; exact .inl HLW.out)); clear hgs)
       | (go_at_call 44; (with_reducible refine (HK2.out w2 HR2.out).mono ?_); rintro e wc2 ⟨v, rfl, hv, hr, hg⟩; obtain ⟨rfl, h32⟩ := hv; have HL2 := Lib.hid h32; clear h32; have HRc2 := Lib.hid hr; have HGc2 := Lib.hid (HG2.out.trans hg); have HTc2 := Lib.hid (HT2.out.grown hg HNE.out); clear hr hg)
       | ((with_reducible refine atT 14 ?_); go_must (refine wpList_store_mid rfl _ _ _ rfl g1 2 (idCells o) rfl rfl (row_th HTc2.out 2 _ (by rw [idCells_size HL2.out]; rw [enL_len ⟨by have := k.toNat_lt; omega, len_idZero, len_idZero⟩]; decide)) (by rw [idCells_size HL2.out]; exact info_id) (by unfold idCells; exact all_oneCell_toArray (fun v hv => by obtain ⟨x, _, rfl⟩ := List.mem_map.1 hv; rfl)) ?_); obtain ⟨w3, hw⟩ : ∃ W, wc2.setCells g1 2 (idCells o).toList = W := ⟨_, rfl⟩; rw [hw]; have hgs : wc2.grownBy w3 (some g1) := hw ▸ grown_puts _ _ _ _; have HT3 := Lib.hid (hw ▸ en_put2 (e := ⟨⟨k.toNat, s, zId, zId⟩, []⟩) len_idZero HL2.out HTc2.out); have HR3 := Lib.hid (HRc2.out.other hgs HLT.out); have HG3 := Lib.hid (HGc2.out.andThen hgs (fun j hj => by cases hj; exact .inl HLW.out)); clear hgs hw)
       | (go_at_call 44; (with_reducible refine (HK3.out w3 HR3.out).mono ?_); rintro e wc3 ⟨v, rfl, hv, hr, hg⟩; obtain ⟨rfl, h32⟩ := hv; have HL3 := Lib.hid h32; clear h32; have HRc3 := Lib.hid hr; have HGc3 := Lib.hid (HG3.out.trans hg); have HTc3 := Lib.hid (HT3.out.grown hg HNE.out); clear hr hg)
       | ((with_reducible refine atT 18 ?_); go_must (refine wpList_store_mid rfl _ _ _ rfl g1 34 (idCells m) rfl rfl (row_th HTc3.out 34 _ (by rw [idCells_size HL3.out]; rw [enL_len ⟨by have := k.toNat_lt; omega, HL2.out, len_idZero⟩]; decide)) (by rw [idCells_size HL3.out]; exact info_id) (by unfold idCells; exact all_oneCell_toArray (fun v hv => by obtain ⟨x, _, rfl⟩ := List.mem_map.1 hv; rfl)) ?_); obtain ⟨w4, hw⟩ : ∃ W, wc3.setCells g1 34 (idCells m).toList = W := ⟨_, rfl⟩; rw [hw]; have hgs : wc3.grownBy w4 (some g1) := hw ▸ grown_puts _ _ _ _; have HT4 := Lib.hid (hw ▸ en_put34 (e := ⟨⟨k.toNat, s, o, zId⟩, []⟩) HL2.out len_idZero HL3.out HTc3.out); have HR4 := Lib.hid (HRc3.out.other hgs HLT.out); have HG4 := Lib.hid (HGc3.out.andThen hgs (fun j hj => by cases hj; exact .inl HLW.out)); clear hgs hw)
       | (go_at_call 43; (with_reducible refine (HK4.out w4 HR4.out).mono ?_); rintro e wz ⟨rfl, hg⟩; have HGz := Lib.hid (HG4.out.trans hg); clear hg))
      rw [HP.out]
      exact ⟨rfl, rfl, HGz.out⟩
     ·have HK4 := Lib.hid (fun W (hW : Rdr w0 W gr a n c B u4) => (hq4 ▸ rtext_any hW 256 : Calls Tryd.prog 43 #[.pointer (some ⟨gr, 0, none⟩), .int .i64 256] W (RdIs VS (some (t, u5)) w0 W gr a n c B)))
      obtain ⟨p4, hp⟩ : ∃ p, strB t = p := ⟨_, rfl⟩
      have HPE4 := Lib.hid hp
      clear hp
      have HP : Hid (pEnt B 32 at_ = some ((⟨⟨k.toNat, s, o, m⟩, t⟩ : EntV), u5)) := Lib.hid (by unfold pEnt; rw [hq0]; show (pT B u1 32).bind _ = _; rw [hq1]; show (pD B u2).bind _ = _; rw [hq2]; show (pD B u3).bind _ = _; rw [hq3]; show (pT B u4 256).map _ = _; rw [hq4]; rfl)
      go_enter Tryd.func46, Tryd.ntmps46
      go_wp2_with (first
       | ((with_reducible refine atS 2 ?_); go_must (refine wl_alloc_rowz zeroEf rfl rfl ?_); intro w00 hi hb; have HT0 := Lib.hid hi; have HR0 := Lib.hid (HH.out.below hb); have HG0 := Lib.hid (grown_bel hb (some gr)); have HLT : Hid (gr < w.heap.size) := Lib.hid HH.out.lt; have HNE : Hid (some w.heap.size ≠ some gr) := Lib.hid (fun e => by have := HLT.out; have := Option.some.inj e; omega); clear hb; generalize hG1 : w.heap.size = g1 at hi HT0 HLT HNE ⊢; have HLW : Hid (w.heap.size ≤ g1) := Lib.hid (Nat.le_of_eq hG1); clear hG1 hi)
       | (go_at_call 69; (with_reducible refine (HK0.out w00 HR0.out).mono ?_); rintro e wc0 ⟨v, rfl, hv, hr, hg⟩; obtain rfl : v = .int .u8 (k.toNat : Int) := hv; have HRc0 := Lib.hid hr; have HGc0 := Lib.hid (HG0.out.trans hg); have HTc0 := Lib.hid (HT0.out.grown hg HNE.out); clear hr hg; have ct := HTc0.out.cell 0 rfl; have ft := HTc0.out.free 0; obtain ⟨w1, hw⟩ : ∃ W, wc0.setCell ⟨g1, 0, none⟩ (.int .u8 (k.toNat : Int)) = W := ⟨_, rfl⟩; have hgs : wc0.grownBy w1 (some g1) := hw ▸ grown_set _ _ _ _; have HT1 := Lib.hid (hw ▸ en_set0 k HTc0.out); have HR1 := Lib.hid (HRc0.out.other hgs HLT.out); have HG1 := Lib.hid (HGc0.out.andThen hgs (fun j hj => by cases hj; exact .inl HLW.out)); clear hgs)
       | (go_at_call 43; (with_reducible refine (HK1.out w1 HR1.out).mono ?_); rintro e wc1 ⟨v, rfl, hv, hr, hg⟩; obtain rfl : v = .string p1 := hv.trans (congrArg Value.string HPE1.out); have HRc1 := Lib.hid hr; have HGc1 := Lib.hid (HG1.out.trans hg); have HTc1 := Lib.hid (HT1.out.grown hg HNE.out); clear hr hg; have ct := HTc1.out.cell 1 rfl; have ft := HTc1.out.free 1; obtain ⟨w2, hw⟩ : ∃ W, wc1.setCell ⟨g1, 1, none⟩ (.string p1) = W := ⟨_, rfl⟩; have hgs : wc1.grownBy w2 (some g1) := hw ▸ grown_set _ _ _ _; have HT2 := Lib.hid (hw ▸ en_set1 s p1 HPE1.out HTc1.out); have HR2 := Lib.hid (HRc1.out.other hgs HLT.out); have HG2 := Lib.hid (HGc1.out.andThen hgs (fun j hj => by cases hj; exact .inl HLW.out)); clear hgs)
       | (go_at_call 44; (with_reducible refine (HK2.out w2 HR2.out).mono ?_); rintro e wc2 ⟨v, rfl, hv, hr, hg⟩; obtain ⟨rfl, h32⟩ := hv; have HL2 := Lib.hid h32; clear h32; have HRc2 := Lib.hid hr; have HGc2 := Lib.hid (HG2.out.trans hg); have HTc2 := Lib.hid (HT2.out.grown hg HNE.out); clear hr hg)
       | ((with_reducible refine atT 14 ?_); go_must (refine wpList_store_mid rfl _ _ _ rfl g1 2 (idCells o) rfl rfl (row_th HTc2.out 2 _ (by rw [idCells_size HL2.out]; rw [enL_len ⟨by have := k.toNat_lt; omega, len_idZero, len_idZero⟩]; decide)) (by rw [idCells_size HL2.out]; exact info_id) (by unfold idCells; exact all_oneCell_toArray (fun v hv => by obtain ⟨x, _, rfl⟩ := List.mem_map.1 hv; rfl)) ?_); obtain ⟨w3, hw⟩ : ∃ W, wc2.setCells g1 2 (idCells o).toList = W := ⟨_, rfl⟩; rw [hw]; have hgs : wc2.grownBy w3 (some g1) := hw ▸ grown_puts _ _ _ _; have HT3 := Lib.hid (hw ▸ en_put2 (e := ⟨⟨k.toNat, s, zId, zId⟩, []⟩) len_idZero HL2.out HTc2.out); have HR3 := Lib.hid (HRc2.out.other hgs HLT.out); have HG3 := Lib.hid (HGc2.out.andThen hgs (fun j hj => by cases hj; exact .inl HLW.out)); clear hgs hw)
       | (go_at_call 44; (with_reducible refine (HK3.out w3 HR3.out).mono ?_); rintro e wc3 ⟨v, rfl, hv, hr, hg⟩; obtain ⟨rfl, h32⟩ := hv; have HL3 := Lib.hid h32; clear h32; have HRc3 := Lib.hid hr; have HGc3 := Lib.hid (HG3.out.trans hg); have HTc3 := Lib.hid (HT3.out.grown hg HNE.out); clear hr hg)
       | ((with_reducible refine atT 18 ?_); go_must (refine wpList_store_mid rfl _ _ _ rfl g1 34 (idCells m) rfl rfl (row_th HTc3.out 34 _ (by rw [idCells_size HL3.out]; rw [enL_len ⟨by have := k.toNat_lt; omega, HL2.out, len_idZero⟩]; decide)) (by rw [idCells_size HL3.out]; exact info_id) (by unfold idCells; exact all_oneCell_toArray (fun v hv => by obtain ⟨x, _, rfl⟩ := List.mem_map.1 hv; rfl)) ?_); obtain ⟨w4, hw⟩ : ∃ W, wc3.setCells g1 34 (idCells m).toList = W := ⟨_, rfl⟩; rw [hw]; have hgs : wc3.grownBy w4 (some g1) := hw ▸ grown_puts _ _ _ _; have HT4 := Lib.hid (hw ▸ en_put34 (e := ⟨⟨k.toNat, s, o, zId⟩, []⟩) HL2.out len_idZero HL3.out HTc3.out); have HR4 := Lib.hid (HRc3.out.other hgs HLT.out); have HG4 := Lib.hid (HGc3.out.andThen hgs (fun j hj => by cases hj; exact .inl HLW.out)); clear hgs hw)
       | (go_at_call 43; (with_reducible refine (HK4.out w4 HR4.out).mono ?_); rintro e wc4 ⟨v, rfl, hv, hr, hg⟩; obtain rfl : v = .string p4 := hv.trans (congrArg Value.string HPE4.out); have HRc4 := Lib.hid hr; have HGc4 := Lib.hid (HG4.out.trans hg); have HTc4 := Lib.hid (HT4.out.grown hg HNE.out); clear hr hg; have ct := en_c66 (e := ⟨⟨k.toNat, s, o, m⟩, []⟩) ⟨by have := k.toNat_lt; show k.toNat < 256; omega, HL2.out, HL3.out⟩ HTc4.out; have ft := HTc4.out.free 66; obtain ⟨w5, hw⟩ : ∃ W, wc4.setCell ⟨g1, 66, none⟩ (.string p4) = W := ⟨_, rfl⟩; have hgs : wc4.grownBy w5 (some g1) := hw ▸ grown_set _ _ _ _; have HT5 := Lib.hid (hw ▸ en_set66 (e := ⟨⟨k.toNat, s, o, m⟩, []⟩) ⟨by have := k.toNat_lt; show k.toNat < 256; omega, HL2.out, HL3.out⟩ t p4 HPE4.out HTc4.out); have HR5 := Lib.hid (HRc4.out.other hgs HLT.out); have HG5 := Lib.hid (HGc4.out.andThen hgs (fun j hj => by cases hj; exact .inl HLW.out)); clear hgs)
       | ((with_reducible refine atS 22 ?_); go_must (refine wl_ex rfl (exec_loadEn _ rfl g1 0 (⟨⟨k.toNat, s, o, m⟩, t⟩ : EntV) ⟨by have := k.toNat_lt; show k.toNat < 256; omega, HL2.out, HL3.out⟩ rfl HT5.out.all) ?_))
       | ((with_reducible show wpList _ _ _ (⟨_, Op.store _ (.tmp 2) (.tmp 22), _, _, _, _⟩ :: _) _ _); go_must (refine wpList_store_mid rfl _ _ _ rfl g1 0 ((enL (⟨⟨k.toNat, s, o, m⟩, t⟩ : EntV)).toArray) rfl rfl (row_th HT5.out 0 _ (by simp)) (by simpa using size67 (X := (⟨⟨k.toNat, s, o, m⟩, t⟩ : EntV)) ⟨by have := k.toNat_lt; show k.toNat < 256; omega, HL2.out, HL3.out⟩) (by simpa using en_allone (⟨⟨k.toNat, s, o, m⟩, t⟩ : EntV)) ?_); obtain ⟨wz, hw⟩ : ∃ W, w5.setCells g1 0 ((enL (⟨⟨k.toNat, s, o, m⟩, t⟩ : EntV)).toArray).toList = W := ⟨_, rfl⟩; rw [hw]; have hgs : w5.grownBy wz (some g1) := hw ▸ grown_puts _ _ _ _; have HTz := Lib.hid (show RowAt wz g1 EEf _ from hw ▸ row_puts _ 0 HT5.out); have HRz := Lib.hid (HR5.out.other hgs HLT.out); have HGz := Lib.hid (HG5.out.andThen hgs (fun j hj => by cases hj; exact .inl HLW.out)); clear hgs hw))
      have HTF : Hid (RowAt wz g1 EEf (enL (⟨⟨k.toNat, s, o, m⟩, t⟩ : EntV))) := Lib.hid (by have h := HTz.out; rwa [putL_self] at h)
      refine bodyPost_ret (results_row1 (vs := enL (⟨⟨k.toNat, s, o, m⟩, t⟩ : EntV)) (run_loadVar_mid (P := Tryd.prog) wz g1 0 EEf (enL (⟨⟨k.toNat, s, o, m⟩, t⟩ : EntV)) _ HTF.out.all Tryd.underlying50 rfl (size67 (X := (⟨⟨k.toNat, s, o, m⟩, t⟩ : EntV)) ⟨by have := k.toNat_lt; show k.toNat < 256; omega, HL2.out, HL3.out⟩)) rfl _ rfl) rfl ?_
      rw [HP.out]
      exact ⟨_, rfl, ⟨rfl, ⟨by have := k.toNat_lt; show k.toNat < 256; omega, HL2.out, HL3.out⟩⟩, HRz.out, HGz.out⟩
end Go.Proofs.YthihmlojdopmfaaDoor
