/-
  Merged: RfEq, RfSame.
-/
import Derived.Test.YthihmlojdopmfaaDoorRfOf
import Derived.Test.YthihmlojdopmfaaDoorGrp1
namespace Go.Proofs.YthihmlojdopmfaaDoor
open Go.RowKit

theorem eqFields_self (w : World) (d : Nat) (c : Array Value) : ∀ fs : List Field, (∀ f ∈ fs, ∃ v, (part f.type c f.offset).run Tryd.prog w = .ok v w ∧ (Op.equalIn d f.type v v).run Tryd.prog w = .ok true w) → (Op.eqFields d c c fs).run Tryd.prog w = .ok true w
 | [], _ => rfl
 | f :: fs, h => by
  obtain ⟨v, h1, h2⟩ := h f List.mem_cons_self
  have h3 := eqFields_self w d c fs fun g hg => h g (List.mem_cons_of_mem _ hg)
  unfold Op.eqFields
  by_cases hn : f.name ≠ "_"
  ·rw [if_pos hn, Sem.run_bind, h1, Result.andThen_ok, Sem.run_bind, h1, Result.andThen_ok, Sem.run_bind, h2, Result.andThen_ok]
   rw [if_neg (by simp)]
   exact h3
  ·rw [if_neg hn]; exact h3
set_option maxRecDepth 100000 in
theorem run_eqIds_at (d : Nat) (w : World) {l k : List UInt8} (h : l.length = 32) (hk : k.length = 32) : (Op.equalIn (d + 2) 24 (.agg (idCells l)) (.agg (idCells k))).run Tryd.prog w = .ok (decide (l = k)) w := by
 obtain ⟨i0, hi, _⟩ := info_parts Tryd.info5
 have hc : Tryd.prog.cellsOf 5 = 1 := by kernel_rfl
 rw [run_equalIn_array w (d + 1) (idCells l) (idCells k) Tryd.underlying24 hi, hc]
 rw [run_items w d l k (by omega) (List.range 32) (fun i hi => by rw [h]; simpa using hi)]
 congr 1
 rw [Bool.eq_iff_iff, decide_eq_true_iff, List.all_eq_true]
 constructor
 ·intro hall
  apply List.ext_getElem (by omega)
  intro i hi1 hi2
  have := hall i (by simp; omega)
  rw [beq_iff_eq] at this
  simpa [hi1, hi2] using this
 ·rintro rfl i _
  simp
theorem part_rn0 (w : World) (x : RName) (hx : x.2.length = 32) : (part 9 (rnL x).toArray 0).run Tryd.prog w = .ok (.string (strB x.1)) w := by
 obtain ⟨s, l⟩ := x
 obtain ⟨b0, b1, b2, b3, b4, b5, b6, b7, b8, b9, b10, b11, b12, b13, b14, b15, b16, b17, b18, b19, b20, b21, b22, b23, b24, b25, b26, b27, b28, b29, b30, b31, rfl⟩ := list32 hx
 kernel_rfl
theorem part_rn1 (w : World) (x : RName) (hx : x.2.length = 32) : (part 24 (rnL x).toArray 1).run Tryd.prog w = .ok (.agg (idCells x.2)) w := by
 obtain ⟨s, l⟩ := x
 obtain ⟨b0, b1, b2, b3, b4, b5, b6, b7, b8, b9, b10, b11, b12, b13, b14, b15, b16, b17, b18, b19, b20, b21, b22, b23, b24, b25, b26, b27, b28, b29, b30, b31, rfl⟩ := list32 hx
 kernel_rfl
theorem rn_fields : (Tryd.prog.fieldsOf Of.ONEf).toList.map (fun f => (f.type, f.offset)) = [(9, 0), (24, 1)] := by kernel_rfl
theorem up_fields : (Tryd.prog.fieldsOf UEf).toList.map (fun f => (f.type, f.offset)) = [(5, 0), (9, 1), (24, 2), (24, 34)] := by kernel_rfl
theorem en_fields : (Tryd.prog.fieldsOf EEf).toList.map (fun f => (f.type, f.offset)) = [(UEf, 0), (9, 66)] := by kernel_rfl
theorem eq_str (w : World) (d : Nat) (s : ByteArray) : (Op.equalIn (d + 1) 9 (.string s) (.string s)).run Tryd.prog w = .ok true w := by
 rw [run_equalIn_string (P := Tryd.prog) w d 9 s s Tryd.underlying9]; simp
theorem eq_id (w : World) (d : Nat) (l : List UInt8) (hl : l.length = 32) : (Op.equalIn (d + 2) 24 (.agg (idCells l)) (.agg (idCells l))).run Tryd.prog w = .ok true w := by
 rw [run_eqIds_at d w hl hl, decide_eq_true rfl]
theorem field_in {fs : List Field} {ts : List (TypeId × Nat)} (h : fs.map (fun f => (f.type, f.offset)) = ts) {f : Field} (hf : f ∈ fs) : (f.type, f.offset) ∈ ts := by rw [← h]; exact List.mem_map.2 ⟨f, hf, rfl⟩
theorem eq_rn (w : World) (x : RName) (hx : x.2.length = 32) : (Op.equalIn 10000 Of.ONEf (.agg (rnL x).toArray) (.agg (rnL x).toArray)).run Tryd.prog w = .ok true w := by
 rw [show (10000 : Nat) = 9999 + 1 from rfl, run_equalIn_struct w 9999 _ _ _ (by kernel_rfl) (by kernel_rfl)]
 refine eqFields_self w 9999 _ _ fun f hf => ?_
 have hm := field_in rn_fields hf
 simp only [List.mem_cons, Prod.mk.injEq, List.not_mem_nil, or_false] at hm
 rcases hm with ⟨h1, h2⟩ | ⟨h1, h2⟩ <;> rw [h1, h2]
 ·exact ⟨_, part_rn0 w x hx, eq_str w 9998 _⟩
 ·exact ⟨_, part_rn1 w x hx, eq_id w 9997 _ hx⟩
theorem part_up (w : World) (u : UpdV) (hu : UpOk u) : (part 5 (upL u).toArray 0).run Tryd.prog w = .ok (.int .u8 (u.kind : Int)) w ∧ (part 9 (upL u).toArray 1).run Tryd.prog w = .ok (.string (strB u.name)) w ∧ (part 24 (upL u).toArray 2).run Tryd.prog w = .ok (.agg (idCells u.old)) w ∧ (part 24 (upL u).toArray 34).run Tryd.prog w = .ok (.agg (idCells u.new)) w := by
 obtain ⟨k, s, o, m⟩ := u
 obtain ⟨h1, h2, h3⟩ := hu
 simp only at h2 h3
 obtain ⟨b0, b1, b2, b3, b4, b5, b6, b7, b8, b9, b10, b11, b12, b13, b14, b15, b16, b17, b18, b19, b20, b21, b22, b23, b24, b25, b26, b27, b28, b29, b30, b31, rfl⟩ := list32 h2
 obtain ⟨c0, c1, c2, c3, c4, c5, c6, c7, c8, c9, c10, c11, c12, c13, c14, c15, c16, c17, c18, c19, c20, c21, c22, c23, c24, c25, c26, c27, c28, c29, c30, c31, rfl⟩ := list32 h3
 exact ⟨by kernel_rfl, by kernel_rfl, by kernel_rfl, by kernel_rfl⟩
theorem eq_up (w : World) (d : Nat) (u : UpdV) (hu : UpOk u) : (Op.equalIn (d + 3) UEf (.agg (upL u).toArray) (.agg (upL u).toArray)).run Tryd.prog w = .ok true w := by
 rw [run_equalIn_struct w (d + 2) _ _ _ (by kernel_rfl) (by kernel_rfl)]
 obtain ⟨p0, p1, p2, p3⟩ := part_up w u hu
 refine eqFields_self w (d + 2) _ _ fun f hf => ?_
 have hm := field_in up_fields hf
 simp only [List.mem_cons, Prod.mk.injEq, List.not_mem_nil, or_false] at hm
 rcases hm with ⟨h1, h2⟩ | ⟨h1, h2⟩ | ⟨h1, h2⟩ | ⟨h1, h2⟩ <;> rw [h1, h2]
 ·refine ⟨_, p0, ?_⟩
  rw [run_equalIn_int w (d + 1) _ _ _ _ _ Tryd.underlying5]; simp
 ·exact ⟨_, p1, eq_str w (d + 1) _⟩
 ·exact ⟨_, p2, eq_id w d _ hu.2.1⟩
 ·exact ⟨_, p3, eq_id w d _ hu.2.2⟩
theorem part_en (w : World) (x : EntV) (hx : UpOk x.upd) : (part UEf (enL x).toArray 0).run Tryd.prog w = .ok (.agg (upL x.upd).toArray) w ∧ (part 9 (enL x).toArray 66).run Tryd.prog w = .ok (.string (strB x.note)) w := by
 obtain ⟨⟨k, s, o, m⟩, n⟩ := x
 obtain ⟨h1, h2, h3⟩ := hx
 simp only at h2 h3
 obtain ⟨b0, b1, b2, b3, b4, b5, b6, b7, b8, b9, b10, b11, b12, b13, b14, b15, b16, b17, b18, b19, b20, b21, b22, b23, b24, b25, b26, b27, b28, b29, b30, b31, rfl⟩ := list32 h2
 obtain ⟨c0, c1, c2, c3, c4, c5, c6, c7, c8, c9, c10, c11, c12, c13, c14, c15, c16, c17, c18, c19, c20, c21, c22, c23, c24, c25, c26, c27, c28, c29, c30, c31, rfl⟩ := list32 h3
 exact ⟨by kernel_rfl, by kernel_rfl⟩
theorem eq_en (w : World) (x : EntV) (hx : UpOk x.upd) : (Op.equalIn 10000 EEf (.agg (enL x).toArray) (.agg (enL x).toArray)).run Tryd.prog w = .ok true w := by
 rw [show (10000 : Nat) = 9999 + 1 from rfl, run_equalIn_struct w 9999 _ _ _ (by kernel_rfl) (by kernel_rfl)]
 obtain ⟨p0, p1⟩ := part_en w x hx
 refine eqFields_self w 9999 _ _ fun f hf => ?_
 have hm := field_in en_fields hf
 simp only [List.mem_cons, Prod.mk.injEq, List.not_mem_nil, or_false] at hm
 rcases hm with ⟨h1, h2⟩ | ⟨h1, h2⟩ <;> rw [h1, h2]
 ·exact ⟨_, p0, eq_up w 9996 _ hx⟩
 ·exact ⟨_, p1, eq_str w 9998 _⟩
theorem noGuard_rn : Tryd.prog.eqGuardType Tryd.prog.depth Of.ONEf = false := by kernel_rfl
theorem noGuard_en : Tryd.prog.eqGuardType Tryd.prog.depth EEf = false := by kernel_rfl
theorem exec_neqRn {w : World} {o : Oper} {a : Act} (x y : Operand) (r : TypeId) (ho : o.op = .binOp .neq Of.ONEf x y r) (k : RName) (hk : k.2.length = 32) (hx : a.eval x = .agg (rnL k).toArray) (hy : a.eval y = .agg (rnL k).toArray) :
  (execOp a.eval o).run Tryd.prog w = .ok (.value (.bool false)) w := by
 unfold execOp
 simp only [ho, hx, hy, Sem.run_bind, run_eqGuard_agg w _ _ _ _ _ _ noGuard_rn, Result.andThen_ok, run_neq_struct, eq_rn w k hk, Sem.run_pure]
 rfl
theorem exec_neqEn {w : World} {o : Oper} {a : Act} (x y : Operand) (r : TypeId) (ho : o.op = .binOp .neq EEf x y r) (k : EntV) (hk : UpOk k.upd) (hx : a.eval x = .agg (enL k).toArray) (hy : a.eval y = .agg (enL k).toArray) :
  (execOp a.eval o).run Tryd.prog w = .ok (.value (.bool false)) w := by
 unfold execOp
 simp only [ho, hx, hy, Sem.run_bind, run_eqGuard_agg w _ _ _ _ _ _ noGuard_en, Result.andThen_ok, run_neq_struct, eq_en w k hk, Sem.run_pure]
 rfl
theorem exec_loadOn {w : World} {o : Oper} {a : Act} (x : Operand) (ho : o.op = .load Of.ONEf x) (b off : Nat) (X : RName) (hX : X.2.length = 32) (hx : a.eval x = .pointer (some ⟨b, off, none⟩)) (hc : w.rangeAt b off (rnL X)) :
  (execOp a.eval o).run Tryd.prog w = .ok (.value (.agg (rnL X).toArray)) w := by
 have hr := run_loadVar_mid (P := Tryd.prog) w b off Of.ONEf (rnL X) _ hc Tryd.underlying54 rfl (by rw [rnL_len hX]; kernel_rfl)
 unfold execOp
 simp only [ho, hx, Instr.loadAt, Instr.sureAddr, Sem.run_bind, Sem.run_pure, Result.andThen_ok, hr]
end Go.Proofs.YthihmlojdopmfaaDoor

namespace Go.Proofs.YthihmlojdopmfaaDoor
open Go.RowKit

set_option maxRecDepth 100000 in
set_option maxHeartbeats 4000000 in
theorem lists_any (a a' : Option Addr) (n c n' c' : Nat) (L : List RName) (w : World) (h : AtG rnK w a n c L) (h' : AtG rnK w a' n' c' L) (hn : L.length ≤ 100000) :
  Calls Tryd.prog 22 #[.slice a n c, .slice a' n' c'] w fun e w' => e = .returned (.bool true) ∧ Below w.heap.size w w' := by
 obtain rfl : n' = n := h'.1.symm.trans h.1
 have HA := Lib.hid h
 have HB := Lib.hid h'
 have hnI : (n' : Int) ≤ 100000 := by have := h.1; omega
 clear h h' hn
 go_enter Tryd.func22, Tryd.ntmps22
 go_wp2
 go_loopg [5] n' (fun g v5 W => ∃ i : Nat, v5 = .int .i64 i ∧ g + i = n' ∧ Hid (Below w.heap.size w W))
 case atStart => exact ⟨0, rfl, rfl, Lib.hid (Below.refl _ _)⟩
 case round =>
  obtain ⟨i, rfl, hg, HBW⟩ := hrel
  have HG := Lib.hid hg
  have hi0 : (0 : Int) ≤ (i : Int) := by omega
  have hiI : (i : Int) ≤ (n' : Int) := by omega
  by_cases hi : (i : Int) < (n' : Int)
  ·have hin : i < n' := by omega
   have HI := Lib.hid hin
   obtain ⟨b, o, rfl⟩ := HA.out.some_ (by omega)
   obtain ⟨b', o', rfl⟩ := HB.out.some_ (by omega)
   obtain ⟨X, hX⟩ : ∃ X, X = gd L i := ⟨_, rfl⟩
   have HXO : Hid (X.2.length = 32) := Lib.hid (hX ▸ HA.out.ok hin)
   have HX1 := Lib.hid (fun W (hW : Below w.heap.size w W) => (hX ▸ (HA.out.below hW).at_ i hin : W.rangeAt b (o + i * 33) (rnL X)))
   have HX2 := Lib.hid (fun W (hW : Below w.heap.size w W) => (hX ▸ (HB.out.below hW).at_ i hin : W.rangeAt b' (o' + i * 33) (rnL X)))
   clear hg hX
   go_wp2
   have HBd : Hid (Below w.heap.size w wr.drew) := Lib.hid HBW.out.drew
   refine wp_region_held_drew (S := fun W => Below w.heap.size w W) (by kernel_rfl) HBd.out (fun hHeld => ?_)
   refine tk 0 (mo 17 (.move (.tmp 0))) (.slice (some ⟨b, o, none⟩) n' c) rfl ?_
   refine tk 1 (mo 18 (.move (.tmp 5))) (.int .i64 (i : Nat)) rfl ?_
   refine tk 2 (mo 19 (.indexAddr 22 (.tmp 17) (.tmp 18))) (.pointer (some ⟨b, o + i * 33, none⟩)) rfl ?_
   refine tk 3 (mo 20 (.load 54 (.tmp 19))) (.agg (rnL X).toArray) rfl ?_ (Or.inl ⟨by rfl, fun W hW => exec_loadOn _ rfl _ _ X HXO.out rfl (HX1.out W hW)⟩)
   refine tk 4 (mo 21 (.move (.tmp 1))) (.slice (some ⟨b', o', none⟩) n' c') rfl ?_
   refine tk 5 (mo 22 (.move (.tmp 5))) (.int .i64 (i : Nat)) rfl ?_
   refine tk 6 (mo 23 (.indexAddr 22 (.tmp 21) (.tmp 22))) (.pointer (some ⟨b', o' + i * 33, none⟩)) rfl ?_
   refine tk 7 (mo 24 (.load 54 (.tmp 23))) (.agg (rnL X).toArray) rfl ?_ (Or.inl ⟨by rfl, fun W hW => exec_loadOn _ rfl _ _ X HXO.out rfl (HX2.out W hW)⟩)
   refine tk 8 (mo 25 (.binOp .neq 54 (.tmp 20) (.tmp 24) 54)) (.bool false) rfl ?_ (Or.inl ⟨by rfl, fun W hW => exec_neqRn _ _ _ rfl X HXO.out rfl rfl⟩)
   refine wpAnyH_done (by kernel_rfl) ?_ _
   have HBq := HBd
   go_wp2_with fail
   go_roundg (n' - (i + 1))
   case measure => have := HG.out; have := HI.out; omega
   case rel => exact ⟨i + 1, by go_num, by have := HI.out; omega, HBq⟩
  ·clear hg
   go_wp2
   go_ret
   exact ⟨rfl, HBW.out⟩
set_option maxRecDepth 100000 in
set_option maxHeartbeats 8000000 in
theorem sameRf_any (S S' : RfS) (r : RefsV) (w : World) (h : RfIn w S r) (h' : RfIn w S' r) (hr : RfFew S) :
  Calls Tryd.prog 10 #[.agg (rfC S r.head r.at_), .agg (rfC S' r.head r.at_)] w fun e w' => e = .returned (.bool true) ∧ Below w.heap.size w w' := by
 have hnl : S'.nl = S.nl := h'.log.1.symm.trans h.log.1
 have HAT := Lib.hid h.at_
 have hlI : (S.nl : Int) ≤ 100000 := by have := hr.2.2; omega
 have HL1 := Lib.hid (fun W (hW : Below w.heap.size w W) => lists_any S.ab S'.ab S.nb S.cb S'.nb S'.cb r.br W (h.br.below hW) (h'.br.below hW) (by rw [h.br.1]; exact hr.1))
 have HL2 := Lib.hid (fun W (hW : Below w.heap.size w W) => lists_any S.ag S'.ag S.ng S.cg S'.ng S'.cg r.tg W (h.tg.below hW) (h'.tg.below hW) (by rw [h.tg.1]; exact hr.2.1))
 have HA := Lib.hid h.log
 have HB := Lib.hid h'.log
 obtain ⟨p, hp⟩ : ∃ p, strB r.head = p := ⟨_, rfl⟩
 obtain ⟨w1, hw1⟩ : ∃ w1, w1 = w.alloc (.cells (rfC S r.head r.at_) RREf) := ⟨_, rfl⟩
 obtain ⟨w0, hw0⟩ : ∃ w0, w0 = w1.alloc (.cells (rfC S' r.head r.at_) RREf) := ⟨_, rfl⟩
 have hz1 : w1.heap.size = w.heap.size + 1 := by rw [hw1]; simp
 have hb1 : Below w.heap.size w w1 := by rw [hw1]; exact (Below.refl _ _).alloc (Nat.le_refl _) _
 have hb0 : Below w1.heap.size w1 w0 := by rw [hw0]; exact (Below.refl _ _).alloc (Nat.le_refl _) _
 have HB0 : Hid (Below w.heap.size w w0) := Lib.hid (hb1.trans (hb0.mono (by omega)))
 have hr1 : RowAt w1 w.heap.size RREf (rfL S r.head r.at_) := by rw [hw1]; exact heap_alloc_new w _
 have HR0 : Hid (RowAt w0 w.heap.size RREf (rfL S r.head r.at_)) := Lib.hid (hr1.below (w' := w0) hb0)
 have HS0 : Hid (RowAt w0 (w.heap.size + 1) RREf (rfL S' r.head r.at_)) := Lib.hid (show w0.heap[w.heap.size + 1]? = _ by rw [hw0, ← hz1]; exact heap_alloc_new w1 _)
 have HW1 := Lib.hid hw1
 have HW0 := Lib.hid hw0
 have HC := Lib.hid (fun W (h1 : RowAt W w.heap.size RREf (rfL S r.head r.at_)) (h2 : RowAt W (w.heap.size + 1) RREf (rfL S' r.head r.at_)) => (⟨rf_br h1, rf_br h2, rf_tg h1, rf_tg h2, hp ▸ rf_hd h1, hp ▸ rf_hd h2, rf_log HAT.out h1, hnl ▸ rf_log HAT.out h2⟩ :
  W.cell? ⟨w.heap.size, 0, none⟩ = some (.slice S.ab S.nb S.cb) ∧ W.cell? ⟨w.heap.size + 1, 0, none⟩ = some (.slice S'.ab S'.nb S'.cb) ∧ W.cell? ⟨w.heap.size, 1, none⟩ = some (.slice S.ag S.ng S.cg) ∧ W.cell? ⟨w.heap.size + 1, 1, none⟩ = some (.slice S'.ag S'.ng S'.cg) ∧ W.cell? ⟨w.heap.size, 2, none⟩ = some (.string p) ∧ W.cell? ⟨w.heap.size + 1, 2, none⟩ = some (.string p) ∧ W.cell? ⟨w.heap.size, 35, none⟩ = some (.slice S.al S.nl S.cl) ∧ W.cell? ⟨w.heap.size + 1, 35, none⟩ = some (.slice S'.al S.nl S'.cl)))
 have HNL := Lib.hid hnl
 obtain ⟨c10, c20, c11, c21, c12, c22, c13, c23⟩ := HC.out _ HR0.out HS0.out
 clear h h' hr hp hw1 hw0 hz1 hb1 hb0 hr1 hnl
 go_enter Tryd.func10, Tryd.ntmps10
 go_wp2_with (first
  | ((with_reducible show wpList _ _ _ (⟨some 6, _, _, _, _, _⟩ :: _) _ (World.alloc _ _)); rw [← HW1.out, ← HW0.out])
  | (go_at_call 22; (with_reducible refine (HL1.out _ HB0.out).mono ?_); rintro e w2 ⟨rfl, hb2⟩; have HB2 := thn HB0 hb2; have HR2 := Lib.hid (HR0.out.below hb2); have HS2 := Lib.hid (HS0.out.below hb2); obtain ⟨d10, d20, d11, d21, d12, d22, d13, d23⟩ := HC.out _ HR2.out HS2.out; clear hb2)
  | (go_at_call 22; (with_reducible refine (HL2.out _ HB2.out).mono ?_); rintro e w3 ⟨rfl, hb3⟩; have HB3 := thn HB2 hb3; have HR3 := Lib.hid (HR2.out.below hb3); have HS3 := Lib.hid (HS2.out.below hb3); obtain ⟨e10, e20, e11, e21, e12, e22, e13, e23⟩ := HC.out _ HR3.out HS3.out; clear hb3)
  | ((with_reducible refine atS 29 ?_); go_must (refine wl_load rfl _ rfl _ _ r.at_ HAT.out rfl (rf_at HR3.out) ?_))
  | ((with_reducible refine atS 31 ?_); go_must (refine wl_load rfl _ rfl _ _ r.at_ HAT.out rfl (rf_at HS3.out) ?_))
  | ((with_reducible refine atS 32 ?_); go_must (refine wl_ex rfl (exec_neqId _ _ _ rfl r.at_ r.at_ HAT.out HAT.out rfl rfl) ?_); rw [decide_eq_true rfl]))
 go_loopg [5] S.nl (fun g v5 W => ∃ i : Nat, v5 = .int .i64 i ∧ g + i = S.nl ∧ Hid (Below w.heap.size w W) ∧ Hid (RowAt W w.heap.size RREf (rfL S r.head r.at_)) ∧ Hid (RowAt W (w.heap.size + 1) RREf (rfL S' r.head r.at_)))
 case atStart => exact ⟨0, rfl, rfl, HB3, HR3, HS3⟩
 case round =>
  obtain ⟨i, rfl, hg, HBW, HRW, HSW⟩ := hrel
  have HG := Lib.hid hg
  have hi0 : (0 : Int) ≤ (i : Int) := by omega
  have hiI : (i : Int) ≤ (S.nl : Int) := by omega
  have hcW := rf_log HAT.out HRW.out
  by_cases hi : (i : Int) < (S.nl : Int)
  ·have hin : i < S.nl := by omega
   have HI := Lib.hid hin
   obtain ⟨b, o, hab⟩ := HA.out.some_ (by omega)
   obtain ⟨b', o', hab'⟩ := HB.out.some_ (by rw [HNL.out]; omega)
   have ha := HA.out
   have hb := HB.out
   rw [hab] at ha
   rw [hab', HNL.out] at hb
   obtain ⟨X, hX⟩ : ∃ X, X = gd r.log i := ⟨_, rfl⟩
   have HXO : Hid (UpOk X.upd) := Lib.hid (hX ▸ ha.ok hin)
   have HX1 := Lib.hid (fun W (hW : Below w.heap.size w W) => (hX ▸ (ha.below hW).at_ i hin : W.rangeAt b (o + i * 67) (enL X)))
   have HX2 := Lib.hid (fun W (hW : Below w.heap.size w W) => (hX ▸ (hb.below hW).at_ i hin : W.rangeAt b' (o' + i * 67) (enL X)))
   have HCA := Lib.hid (fun W (h1 : RowAt W w.heap.size RREf (rfL S r.head r.at_)) => (by rw [← hab]; exact rf_log HAT.out h1 : W.cell? ⟨w.heap.size, 35, none⟩ = some (.slice (some ⟨b, o, none⟩) S.nl S.cl)))
   have HCB := Lib.hid (fun W (h1 : RowAt W (w.heap.size + 1) RREf (rfL S' r.head r.at_)) => (by rw [← hab', ← HNL.out]; exact rf_log HAT.out h1 : W.cell? ⟨w.heap.size + 1, 35, none⟩ = some (.slice (some ⟨b', o', none⟩) S.nl S'.cl)))
   rw [hab] at hcW
   clear hg hX ha hb hab hab'
   go_wp2
   have HBd : Hid (Below w.heap.size w wr.drew) := Lib.hid HBW.out.drew
   have HRq : Hid (RowAt wr.drew w.heap.size RREf (rfL S r.head r.at_)) := Lib.hid HRW.out
   have HSq : Hid (RowAt wr.drew (w.heap.size + 1) RREf (rfL S' r.head r.at_)) := Lib.hid HSW.out
   refine wp_region_held_drew (S := fun W => Below w.heap.size w W ∧ RowAt W w.heap.size RREf (rfL S r.head r.at_) ∧ RowAt W (w.heap.size + 1) RREf (rfL S' r.head r.at_)) (by kernel_rfl) ⟨HBd.out, HRq.out, HSq.out⟩ (fun hHeld => ?_)
   refine tk 0 (mo 50 (.fieldAddr 27 (.tmp 2) 4)) (.pointer (some ⟨w.heap.size, 35, none⟩)) rfl ?_
   refine tk 1 (mo 51 (.load 25 (.tmp 50))) (.slice (some ⟨b, o, none⟩) S.nl S.cl) rfl ?_ (Or.inl ⟨by rfl, fun W hW => by have hcell := HCA.out W hW.2.1; go_simp⟩)
   refine tk 2 (mo 52 (.move (.tmp 5))) (.int .i64 (i : Nat)) rfl ?_
   refine tk 3 (mo 53 (.indexAddr 25 (.tmp 51) (.tmp 52))) (.pointer (some ⟨b, o + i * 67, none⟩)) rfl ?_
   refine tk 4 (mo 54 (.load 50 (.tmp 53))) (.agg (enL X).toArray) rfl ?_ (Or.inl ⟨by rfl, fun W hW => exec_loadEn _ rfl _ _ X HXO.out rfl (HX1.out W hW.1)⟩)
   refine tk 5 (mo 55 (.fieldAddr 27 (.tmp 3) 4)) (.pointer (some ⟨w.heap.size + 1, 35, none⟩)) rfl ?_
   refine tk 6 (mo 56 (.load 25 (.tmp 55))) (.slice (some ⟨b', o', none⟩) S.nl S'.cl) rfl ?_ (Or.inl ⟨by rfl, fun W hW => by have hcell := HCB.out W hW.2.2; go_simp⟩)
   refine tk 7 (mo 57 (.move (.tmp 5))) (.int .i64 (i : Nat)) rfl ?_
   refine tk 8 (mo 58 (.indexAddr 25 (.tmp 56) (.tmp 57))) (.pointer (some ⟨b', o' + i * 67, none⟩)) rfl ?_
   refine tk 9 (mo 59 (.load 50 (.tmp 58))) (.agg (enL X).toArray) rfl ?_ (Or.inl ⟨by rfl, fun W hW => exec_loadEn _ rfl _ _ X HXO.out rfl (HX2.out W hW.1)⟩)
   refine tk 10 (mo 60 (.binOp .neq 50 (.tmp 54) (.tmp 59) 50)) (.bool false) rfl ?_ (Or.inl ⟨by rfl, fun W hW => exec_neqEn _ _ _ rfl X HXO.out rfl rfl⟩)
   refine wpAnyH_done (by kernel_rfl) ?_ _
   have HBq := HBd
   go_wp2_with fail
   go_roundg (S.nl - (i + 1))
   case measure => have := HG.out; have := HI.out; omega
   case rel => exact ⟨i + 1, by go_num, by have := HI.out; omega, HBq, HRq, HSq⟩
  ·clear hg
   go_wp2
   go_ret
   exact ⟨rfl, HBW.out⟩
end Go.Proofs.YthihmlojdopmfaaDoor
