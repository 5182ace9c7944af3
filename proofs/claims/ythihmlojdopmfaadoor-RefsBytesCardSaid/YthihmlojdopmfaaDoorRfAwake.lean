/-
 The walks of Begin and awake.
-/
import Derived.Test.YthihmlojdopmfaaDoorRfApply
import Derived.Test.YthihmlojdopmfaaDoorGrp1
import Derived.Test.YthihmlojdopmfaaDoorRfLook
namespace Go.Proofs.YthihmlojdopmfaaDoor
open Go.RowKit

theorem eval_c (a : Act) (v : Value) : a.eval (.const v) = v := rfl
def mainB : List UInt8 := [109, 97, 105, 110]
def id1 : List UInt8 := 1 :: List.replicate 31 0
def uA : UpdV := ⟨1, mainB, idZero, id1⟩
def uB : UpdV := ⟨1, mainB, id1, idZero⟩
def rB : RefsV := ⟨[], [], mainB, zId, []⟩
def firstB : List UInt8 := [102, 105, 114, 115, 116]
def againB : List UInt8 := [97, 103, 97, 105, 110]
def r1 : RefsV := ⟨[(mainB, id1)], [], mainB, zId, [⟨uA, firstB⟩]⟩
theorem uA_ok : UpOk uA := ⟨by decide, rfl, rfl⟩
theorem uB_ok : UpOk uB := ⟨by decide, rfl, rfl⟩
theorem built_begin : Tryd.prog.built 35 [(2, .string ⟨#[109, 97, 105, 110]⟩)] = some (rfC noS mainB zId) := by kernel_rfl
theorem exec_begin {w : World} {o : Oper} {a : Act} (ho : o.op = .build 35 #[(2, .const (.string ⟨#[109, 97, 105, 110]⟩))]) : (execOp a.eval o).run Tryd.prog w = .ok (.value (.agg (rfC noS mainB zId))) w := by
 refine exec_build _ _ ho _ ?_
 have e : (#[(2, Operand.const (.string ⟨#[109, 97, 105, 110]⟩))].map fun (q : Nat × Operand) => (q.1, a.eval q.2)).toList = [(2, .string ⟨#[109, 97, 105, 110]⟩)] := by simp [Act.eval]
 exact (congrArg _ e).trans built_begin
theorem built_id1 : Tryd.prog.built 24 [(0, .int .u8 1)] = some (idCells id1) := by kernel_rfl
theorem exec_id1 {w : World} {o : Oper} {a : Act} (ho : o.op = .build 24 #[(0, .const (.int .u8 1))]) : (execOp a.eval o).run Tryd.prog w = .ok (.value (.agg (idCells id1))) w := by
 refine exec_build _ _ ho _ ?_
 have e : (#[(0, Operand.const (.int .u8 1))].map fun (q : Nat × Operand) => (q.1, a.eval q.2)).toList = [(0, .int .u8 1)] := by simp [Act.eval]
 exact (congrArg _ e).trans built_id1
theorem built_uA : Tryd.prog.built 48 [(0, .int .u8 1), (1, .string ⟨#[109, 97, 105, 110]⟩), (3, .agg (idCells id1))] = some (upL uA).toArray := by kernel_rfl
theorem exec_uA {w : World} {o : Oper} {a : Act} (x : Operand) (ho : o.op = .build 48 #[(0, .const (.int .u8 1)), (1, .const (.string ⟨#[109, 97, 105, 110]⟩)), (3, x)]) (hx : a.eval x = .agg (idCells id1)) : (execOp a.eval o).run Tryd.prog w = .ok (.value (.agg (upL uA).toArray)) w := by
 refine exec_build _ _ ho _ ?_
 have e : (#[(0, Operand.const (.int .u8 1)), (1, .const (.string ⟨#[109, 97, 105, 110]⟩)), (3, x)].map fun (q : Nat × Operand) => (q.1, a.eval q.2)).toList = [(0, .int .u8 1), (1, .string ⟨#[109, 97, 105, 110]⟩), (3, .agg (idCells id1))] := by
  simp [eval_c, hx]
 exact (congrArg _ e).trans built_uA
theorem built_uB : Tryd.prog.built 48 [(0, .int .u8 1), (1, .string ⟨#[109, 97, 105, 110]⟩), (2, .agg (idCells id1))] = some (upL uB).toArray := by kernel_rfl
theorem exec_uB {w : World} {o : Oper} {a : Act} (x : Operand) (ho : o.op = .build 48 #[(0, .const (.int .u8 1)), (1, .const (.string ⟨#[109, 97, 105, 110]⟩)), (2, x)]) (hx : a.eval x = .agg (idCells id1)) : (execOp a.eval o).run Tryd.prog w = .ok (.value (.agg (upL uB).toArray)) w := by
 refine exec_build _ _ ho _ ?_
 have e : (#[(0, Operand.const (.int .u8 1)), (1, .const (.string ⟨#[109, 97, 105, 110]⟩)), (2, x)].map fun (q : Nat × Operand) => (q.1, a.eval q.2)).toList = [(0, .int .u8 1), (1, .string ⟨#[109, 97, 105, 110]⟩), (2, .agg (idCells id1))] := by
  simp [eval_c, hx]
 exact (congrArg _ e).trans built_uB
theorem fill_up (u : UpdV) (hu : UpOk u) (z : Value) (hz : z = .agg (upL default).toArray) : Instr.fill (fun i => some (i * 66, 66)) ((Array.range (1 * 66)).map (z.cells[· % z.cells.size]!)) [(0, .agg (upL u).toArray)] = some (upL u).toArray := by
 subst hz
 obtain ⟨k, s, o, m⟩ := u
 obtain ⟨h1, h2, h3⟩ := hu
 simp only at h2 h3
 obtain ⟨b0, b1, b2, b3, b4, b5, b6, b7, b8, b9, b10, b11, b12, b13, b14, b15, b16, b17, b18, b19, b20, b21, b22, b23, b24, b25, b26, b27, b28, b29, b30, b31, rfl⟩ := list32 h2
 obtain ⟨c0, c1, c2, c3, c4, c5, c6, c7, c8, c9, c10, c11, c12, c13, c14, c15, c16, c17, c18, c19, c20, c21, c22, c23, c24, c25, c26, c27, c28, c29, c30, c31, rfl⟩ := list32 h3
 kernel_rfl
theorem wp_sl_up {o : Oper} {a : Act} {w : World} {K : Act → World → Prop} {Q : Exit → Act → World → Prop} (x : Operand) (ho : o.op = .buildSlice 69 1 #[(0, x)]) (X : UpdV) (hX : UpOk X) (hx : a.eval x = .agg (upL X).toArray)
  (h : K (a.put o.dst (.slice (some ⟨w.heap.size, 0, none⟩) 1 1)) (w.alloc (.cells (upL X).toArray UEf))) : o.wp Tryd.prog a w K Q := by
 obtain ⟨i0, hi, hz0, hz1, hz2⟩ := info_parts infoUf
 refine wp_buildSlice 69 UEf 1 #[(0, x)] ho (upL X).toArray i0 _ Tryd.underlying69 hi hz0 (by rw [hz1]; decide) (by rw [hz1]; decide) ?_ h
 rw [hz1]
 have e : (#[(0, x)].map fun (p : Nat × Operand) => (p.1, a.eval p.2)).toList = [(0, .agg (upL X).toArray)] := by simp [hx]
 exact (congrArg (Instr.fill (fun i => some (i * 66, 66)) _) e).trans (fill_up X hX _ rfl)
theorem sl_up {ops : Array Oper} {rest : List Oper} {o : Oper} {a : Act} {w : World} {Q : Exit → Act → World → Prop} (hg : o.guard = none) (x : Operand) (ho : o.op = .buildSlice 69 1 #[(0, x)]) (X : UpdV) (hX : UpOk X) (hx : a.eval x = .agg (upL X).toArray)
  (h : ∀ w', AtG upK w' (some ⟨w.heap.size, 0, none⟩) 1 1 [X] → Below w.heap.size w w' → wpList Tryd.prog ops Q rest (a.put o.dst (.slice (some ⟨w.heap.size, 0, none⟩) 1 1)) w') : wpList Tryd.prog ops Q (o :: rest) a w :=
 wpList_plain hg fun _ hK => wp_sl_up x ho X hX hx (hK _ _ (h _ (oneG (K := upK) w X hX UEf _ rfl) ((Below.refl _ _).alloc (Nat.le_refl _) _)))
theorem zeroRf (w : World) : (zeroValue REf).run Tryd.prog w = .ok (.agg (rfC noS [] zId)) w := by kernel_rfl
theorem run_alloc_rf (w : World) : (Instr.alloc REf true (.tuple #[])).run Tryd.prog w = .ok (.pointer (some ⟨w.heap.size, 0, none⟩)) (w.alloc (.cells (rfC noS [] zId) REf)) := by
 have h := zeroRf w
 unfold Instr.alloc
 simp only [Sem.run_bind, h, Result.andThen_ok]
 rfl
theorem wp_alloc_rf {o : Oper} {a : Act} {w : World} {K : Act → World → Prop} {Q : Exit → Act → World → Prop} (ho : o.op = .alloc REf)
  (h : ∀ w1, RowAt w1 w.heap.size REf (rfL noS [] zId) → Below w.heap.size w w1 → K (a.put o.dst (.pointer (some ⟨w.heap.size, 0, none⟩))) w1) : o.wp Tryd.prog a w K Q := by
 have hr : (execOp a.eval o).run Tryd.prog w = .ok (.value (.pointer (some ⟨w.heap.size, 0, none⟩))) (w.alloc (.cells (rfC noS [] zId) REf)) := by
  unfold execOp
  simp only [ho, Sem.run_bind, run_alloc_rf, Result.andThen_ok, Sem.run_pure]
 unfold Oper.wp
 rw [hr]
 exact h _ (heap_alloc_new w _) ((Below.refl _ _).alloc (Nat.le_refl _) _)
theorem alloc_rf {ops : Array Oper} {rest : List Oper} {o : Oper} {a : Act} {w : World} {Q : Exit → Act → World → Prop} (hg : o.guard = none) (ho : o.op = .alloc REf)
  (h : ∀ w1, RowAt w1 w.heap.size REf (rfL noS [] zId) → Below w.heap.size w w1 → wpList Tryd.prog ops Q rest (a.put o.dst (.pointer (some ⟨w.heap.size, 0, none⟩))) w1) : wpList Tryd.prog ops Q (o :: rest) a w :=
 wpList_plain hg fun _ hK => wp_alloc_rf ho fun w1 h1 h2 => hK _ _ (h w1 h1 h2)
theorem wp_store_rf {S : RfS} {h m : List UInt8} (hm : m.length = 32) {o : Oper} {a : Act} {w : World} {K : Act → World → Prop} {Q : Exit → Act → World → Prop} (x y : Operand) (ho : o.op = .store REf x y) (g : Nat) {us : List Value} (hR : RowAt w g REf us) (hl : us.length = 36)
  (hx : a.eval x = .pointer (some ⟨g, 0, none⟩)) (hy : a.eval y = .agg (rfC S h m)) (hK : ∀ w1, RowAt w1 g REf (rfL S h m) → w.grownBy w1 (some g) → K (a.put o.dst undef) w1) : o.wp Tryd.prog a w K Q := by
 have hs : (rfC S h m).size = 36 := by unfold rfC; rw [List.size_toArray]; exact rfL_len hm
 have hk : (Tryd.prog.info? REf).map (·.size) = some (rfC S h m).size := by rw [hs]; kernel_rfl
 have h1 : (rfC S h m).all (·.oneCell') = true := all_oneCell_toArray (rfL_one S h m)
 have hst := run_storeVar_row (P := Tryd.prog) w g REf REf us.toArray (rfC S h m) hR hk (by rw [hs]; simpa using hl) h1
 have hr : (execOp a.eval o).run Tryd.prog w = .ok .skip (w.setRow g (rfC S h m)) := by
  unfold execOp
  simp only [ho, hx, hy, Instr.storeAt, Instr.sureAddr, Sem.run_bind, Sem.run_pure, Result.andThen_ok, hst]
 unfold Oper.wp
 rw [hr]
 refine hK _ (setRow_heap _ _ us.toArray (rfC S h m) _ _ hR) ⟨rfl, rfl, rfl, by simp [World.setRow], fun k hk hne => ?_⟩
 unfold World.setRow
 rw [Array.getElem?_modify, if_neg (fun e => hne (by rw [e]))]

theorem rightB : RightV rB := ⟨⟨by decide, (fun x hx => by cases hx), fun j hj => absurd hj (Nat.not_lt_zero _)⟩, ⟨by decide, (fun x hx => by cases hx), fun j hj => absurd hj (Nat.not_lt_zero _)⟩, by decide, ⟨by decide, fun x hx => by cases hx⟩⟩
theorem step1 : applyF firstB rB [uA] = (r1, 0) := by kernel_rfl
theorem step2 : applyF againB r1 [uA] = (noRefs, 15) := by kernel_rfl
theorem step3 : applyF [] r1 [uB] = (noRefs, 16) := by kernel_rfl
theorem note1 : noteF firstB = true := by kernel_rfl
theorem note2 : noteF againB = true := by kernel_rfl
theorem note3 : noteF [] = true := by kernel_rfl
theorem right1 : RightV r1 := by
 have := applyF_right note1 [uA] rightB (by rw [step1])
 rw [step1] at this
 exact this
theorem lookAt : lookF r1 [] = (id1, 0) := by
 unfold lookF
 rw [if_pos rfl, if_neg (by decide)]
 unfold inL
 rw [if_pos (by decide)]
 rfl
theorem RfOwn.in_ {w : World} {base : Nat} {S : RfS} {r : RefsV} (h : RfOwn w base S r) : RfIn w S r := ⟨h.br.atG, h.tg.atG, h.log.atG, h.at_⟩
theorem beginIn (w : World) : RfIn w noS rB := ⟨AtG.nil, AtG.nil, AtG.nil, rfl⟩
theorem lenB : RfLen rB := fun e he => by cases he
theorem len1 : RfLen r1 := fun e he => by rw [List.mem_singleton.1 he]; exact ⟨by decide, by decide⟩
theorem apply_first (S : RfS) (a : Option Addr) (w : World) (h : RfIn w S rB) (hL : AtG upK w a 1 1 [uA]) (hT : Tabs w) :
  Calls Tryd.prog 23 #[.agg (rfC S mainB zId), .slice a 1 1, .string ⟨#[102, 105, 114, 115, 116]⟩] w fun e w' => ∃ S', e = .returned (.tuple #[.agg (rfC S' mainB zId), .int .i64 0]) ∧ RfOwn w' w.heap.size S' r1 ∧ Below w.heap.size w w' := by
 refine (apply_any S rB a 1 1 [uA] firstB _ rfl w h lenB hL (by decide) (by decide) hT true true (by simpa using rightB) note1).mono ?_
 rintro e w' ⟨S', h1, h2, h3⟩
 rw [Bool.and_self, if_pos rfl, step1] at h1 h2
 exact ⟨S', h1, h2, h3⟩
theorem apply_again (S : RfS) (a : Option Addr) (w : World) (h : RfIn w S r1) (hL : AtG upK w a 1 1 [uA]) (hT : Tabs w) :
  Calls Tryd.prog 23 #[.agg (rfC S mainB zId), .slice a 1 1, .string ⟨#[97, 103, 97, 105, 110]⟩] w fun e w' => ∃ S', e = .returned (.tuple #[.agg (rfC S' [] zId), .int .i64 15]) ∧ Below w.heap.size w w' := by
 refine (apply_any S r1 a 1 1 [uA] againB _ rfl w h len1 hL (by decide) (by decide) hT true true (by simpa using right1) note2).mono ?_
 rintro e w' ⟨S', h1, h2, h3⟩
 rw [Bool.and_self, if_pos rfl, step2] at h1
 exact ⟨S', h1, h3⟩
theorem apply_away (S : RfS) (a : Option Addr) (w : World) (h : RfIn w S r1) (hL : AtG upK w a 1 1 [uB]) (hT : Tabs w) :
  Calls Tryd.prog 23 #[.agg (rfC S mainB zId), .slice a 1 1, .string ⟨#[]⟩] w fun e w' => ∃ S', e = .returned (.tuple #[.agg (rfC S' [] zId), .int .i64 16]) ∧ Below w.heap.size w w' := by
 refine (apply_any S r1 a 1 1 [uB] [] _ rfl w h len1 hL (by decide) (by decide) hT true true (by simpa using right1) note3).mono ?_
 rintro e w' ⟨S', h1, h2, h3⟩
 rw [Bool.and_self, if_pos rfl, step3] at h1
 exact ⟨S', h1, h3⟩
theorem look_head (S : RfS) (w : World) (h : RfIn w S r1) (hT : Tabs w) :
  Calls Tryd.prog 25 #[.agg (rfC S mainB zId), .string ⟨#[]⟩] w fun e w' => e = .returned (.tuple #[.agg (idCells id1), .int .i64 0]) ∧ Below w.heap.size w w' := by
 refine (look_any S r1 [] _ rfl w h len1 (by decide) hT true (by simpa using right1)).mono ?_
 rintro e w' ⟨h1, h3⟩
 rw [if_pos rfl, lookAt] at h1
 exact ⟨h1, h3⟩
theorem in_grown {w w' : World} {g base : Nat} {S : RfS} {r : RefsV} {us : List Value} (h : RfOwn w base S r) (hR : RowAt w g REf us) (hg : w.grownBy w' (some g)) : RfOwn w' base S r :=
 ⟨h.holds.grownOut hg NEr hR, h.okb, h.okg, h.okl, h.at_⟩
theorem NEid {S : RfS} {r : RefsV} (x : Hold) (hx : x ∈ [hG rnK NEf (.slice S.ab S.nb S.cb) r.br, hG rnK NEf (.slice S.ag S.ng S.cg) r.tg, hG enK EEf (.slice S.al S.nl S.cl) r.log]) : x.E ≠ 24 := by
 simp only [List.mem_cons, List.not_mem_nil, or_false] at hx
 rcases hx with rfl | rfl | rfl
 ·show NEf ≠ _; decide
 ·show NEf ≠ _; decide
 ·show EEf ≠ _; decide
theorem in_grownId {w w' : World} {g base : Nat} {S : RfS} {r : RefsV} {l : List UInt8} (h : RfOwn w base S r) (hI : IdAt w g l) (hg : w.grownBy w' (some g)) : RfOwn w' base S r :=
 ⟨h.holds.grownOut (T := 24) (cs := l.map B) hg NEid hI.2, h.okb, h.okg, h.okl, h.at_⟩
set_option maxRecDepth 100000 in
theorem begin_any (w : World) : Calls Tryd.prog 24 #[] w fun e w' => e = .returned (.agg (rfC noS mainB zId)) ∧ Below w.heap.size w w' := by
 go_enter Tryd.func24, Tryd.ntmps24
 go_wp2_with (first
  | ((with_reducible refine atS 0 ?_); go_must (refine alloc_rf rfl rfl ?_); intro w1 hz1 hb1; have HZ1 := Lib.hid hz1; have HB1 := Lib.hid hb1; clear hz1 hb1)
  | ((with_reducible refine atS 1 ?_); go_must (refine wl_ex rfl (exec_begin rfl) ?_))
  | ((with_reducible refine atT 0 ?_); go_must (refine wl_store_rf (S := noS) (h := mainB) (a := zId) rfl HZ1.out (len36 rfl) rfl _ _ rfl rfl rfl ?_); intro w2 hz2 hg2; have HZ2 := Lib.hid hz2; have HG2 := Lib.hid hg2; clear hz2 hg2))
 refine bodyPost_ret (results_row rfl _ _ _ REf (rfL noS mainB zId) _ rfl HZ2.out Tryd.underlying35 rfl (size36 rfl)) rfl ?_
 exact ⟨rfl, HB1.out.grown HG2.out HB1.out.size (fun k hk => by cases hk; exact Nat.le_refl _)⟩
set_option maxRecDepth 100000 in
set_option maxHeartbeats 8000000 in
theorem awake_any (w : World) (hT : Tabs w) : Calls Tryd.prog 12 #[] w fun e w' => e = .returned (.bool true) ∧ Below w.heap.size w w' := by
 have HTB := Lib.hid (fun W (hW : Below w.heap.size w W) => hT.below hW)
 clear hT
 go_enter Tryd.func12, Tryd.ntmps12
 go_wp2_with (first
  | ((with_reducible refine atS 10 ?_); go_must (refine wl_ex rfl (exec_id1 rfl) ?_))
  | ((with_reducible refine atS 11 ?_); go_must (refine wl_ex rfl (exec_uA _ rfl rfl) ?_))
  | ((with_reducible refine atT 1 ?_); go_must (refine store_new (vs := upL uA) (size66 uA_ok) (upL_one _) (by rw [upL_len uA_ok]; rfl) rfl _ _ rfl rfl rfl ?_); intro w1 hu1 hb1 hs1; have HU1 := Lib.hid hu1; have HB1 := Lib.hid hb1; have HGZ := Lib.hid (show w.heap.size < w1.heap.size by omega); clear hu1 hb1 hs1))
 simp only [Act.put]
 go_cut [2, 3] from 12 to 18 (fun v2 v3 W => ∃ (g2 : Nat) (S1 : RfS), v2 = .pointer (some ⟨g2, 0, none⟩) ∧ v3 = .int .i64 0 ∧ Hid (Below w.heap.size w W) ∧ Hid (RowAt W w.heap.size UEf (upL uA)) ∧ Hid (RowAt W g2 REf (rfL S1 mainB zId)) ∧ Hid (RfOwn W w.heap.size S1 r1) ∧ Hid (w.heap.size < g2))
 case first =>
  refine wp_region_held_drew (S := fun W => RowAt W w.heap.size UEf (upL uA)) (by kernel_rfl) HU1.out (fun hHeld => ?_)
  have HB10 : Hid (Below w.heap.size w w1.drew) := Lib.hid HB1.out.drew
  have HU10 : Hid (RowAt w1.drew w.heap.size UEf (upL uA)) := Lib.hid HU1.out
  generalize w1.drew = w10 at hHeld HB10 HU10 ⊢
  refine tk 1 (mo 14 (.load 48 (.tmp 1))) (.agg (upL uA).toArray) rfl ?_ (Or.inl ⟨by rfl, fun W hW => exec_loadUp _ rfl _ 0 uA uA_ok rfl (fun i v hv => by rw [Nat.zero_add]; exact hW.cell i hv)⟩)
  refine rdH [0, 2, 7] ?_
  refine AllReadyH.cons (o := ⟨some 13, .call { callee := .value (.func 24), args := #[], argTypes := #[] }, _, _, _, _⟩) rfl (fun K hK => ?_) (AllReadyH.cons (o := ⟨some 15, .buildSlice 69 1 #[(0, (.tmp 14))], _, _, _, _⟩) rfl (fun K hK => ?_) (AllReadyH.cons (o := ⟨some 2, .alloc 35, _, _, _, _⟩) rfl (fun K hK => ?_) AllReadyH.nil))
  ·go_simp
   refine (begin_any _).mono ?_
   rintro e w11 ⟨rfl, hb⟩
   have HB11 := thn HB10 hb
   have HU11 := Lib.hid (HU10.out.below hb)
   clear hb
   refine hK.out _ _ HU11.out (fun hHeld => ?_)
   clear hK K
   refine rdH [2, 7] ?_
   refine AllReadyH.cons (o := ⟨some 15, .buildSlice 69 1 #[(0, (.tmp 14))], _, _, _, _⟩) rfl (fun K hK => ?_) (AllReadyH.cons (o := ⟨some 2, .alloc 35, _, _, _, _⟩) rfl (fun K hK => ?_) AllReadyH.nil)
   ·refine ready_step (wp_sl_up _ rfl uA uA_ok rfl ?_)
    have hb := (Below.refl w11.heap.size w11).alloc (Nat.le_refl _) (.cells (upL uA).toArray UEf)
    have HL12 := Lib.hid (oneG (K := upK) w11 uA uA_ok UEf (upL uA).toArray rfl)
    have HB12 := thn HB11 hb
    have HU12 := Lib.hid (HU11.out.below hb)
    clear hb
    generalize w11.alloc (.cells (upL uA).toArray UEf) = w12 at HB12 HU12 HL12 ⊢
    generalize w11.heap.size = gs at HL12 ⊢
    refine hK.out _ _ HU12.out (fun hHeld => ?_)
    clear hK K
    refine rdH [3, 7] ?_
    refine AllReadyH.cons (o := ⟨some 16, .call { callee := .value (.func 23), args := #[(.tmp 13), (.tmp 15), (.const (.string ⟨#[102, 105, 114, 115, 116]⟩))], argTypes := #[35, 69, 9] }, _, _, _, _⟩) rfl (fun K hK => ?_) (AllReadyH.cons (o := ⟨some 2, .alloc 35, _, _, _, _⟩) rfl (fun K hK => ?_) AllReadyH.nil)
    ·go_simp
     refine (apply_first _ _ _ (beginIn _) HL12.out (HTB.out _ HB12.out)).mono ?_
     rintro e w13 ⟨S1, rfl, ho, hb⟩
     have Hr13 := Lib.hid (ho.mono HB12.out.size)
     have HB13 := thn HB12 hb
     have HU13 := Lib.hid (HU12.out.below hb)
     have HL13 := Lib.hid (HL12.out.below hb)
     clear ho hb
     refine hK.out _ _ HU13.out (fun hHeld => ?_)
     clear hK K
     refine tk 4 (mo 12 (.move (.tmp 16))) (.tuple #[.agg (rfC S1 mainB zId), .int .i64 0]) rfl ?_
     refine tk 5 (mo 17 (.extract (.tmp 12) 0)) (.agg (rfC S1 mainB zId)) rfl ?_
     refine tk 6 (mo 18 (.extract (.tmp 12) 1)) (.int .i64 0) rfl ?_
     refine rdH [7] ?_
     refine AllReadyH.cons (o := ⟨some 2, .alloc 35, _, _, _, _⟩) rfl (fun K hK => ?_) AllReadyH.nil
     refine ready_step (wp_alloc_rf rfl ?_)
     intro w14 hz hb
     have HZ14 := Lib.hid hz
     have HB14 := thn HB13 hb
     have HU14 := Lib.hid (HU13.out.below hb)
     have HL14 := Lib.hid (HL13.out.below hb)
     have Hr14 := Lib.hid (Hr13.out.below hb)
     have HGG := Lib.hid HU13.out.lt
     clear hz hb
     generalize w13.heap.size = g2 at HZ14 HGG ⊢
     refine hK.out _ _ HU14.out (fun hHeld => ?_)
     clear hK K
     refine rdH [8] ?_
     refine AllReadyH.cons (o := ⟨none, .store 35 (.tmp 2) (.tmp 17), _, _, _, _⟩) rfl (fun K hK => ?_) AllReadyH.nil
     refine ready_step (wp_store_rf (S := S1) (h := mainB) (m := zId) rfl _ _ rfl g2 HZ14.out (len36 rfl) rfl rfl ?_)
     intro w15 hz hg
     have HZ15 := Lib.hid hz
     have HU15 := Lib.hid (HU14.out.grown hg (fun e => by cases e; exact Nat.lt_irrefl _ HGG.out))
     have HB15 := Lib.hid (HB14.out.grown hg HB14.out.size (fun k hk => by cases hk; exact Nat.le_of_lt HGG.out))
     have Hr15 := Lib.hid (in_grown Hr14.out HZ14.out hg)
     clear hz hg
     refine hK.out _ _ HU15.out (fun hHeld => ?_)
     clear hK K
     refine tk 9 (mo 3 (.assign (.tmp 18))) (.int .i64 0) rfl ?_
     refine wpAnyH_done (by kernel_rfl) ?_ _
     go_wp2_with fail
     go_meet
     exact ⟨g2, S1, rfl, rfl, HB15, HU15, HZ15, Hr15, HGG⟩
    ·refine ready_step (wp_alloc_rf rfl ?_)
     intro w13 hz hb
     have HZ13 := Lib.hid hz
     have HB13 := thn HB12 hb
     have HU13 := Lib.hid (HU12.out.below hb)
     have HL13 := Lib.hid (HL12.out.below hb)
     have HGG := Lib.hid HU12.out.lt
     clear hz hb
     generalize w12.heap.size = g2 at HZ13 HGG ⊢
     refine hK.out _ _ HU13.out (fun hHeld => ?_)
     clear hK K
     refine rdH [3] ?_
     refine AllReadyH.cons (o := ⟨some 16, .call { callee := .value (.func 23), args := #[(.tmp 13), (.tmp 15), (.const (.string ⟨#[102, 105, 114, 115, 116]⟩))], argTypes := #[35, 69, 9] }, _, _, _, _⟩) rfl (fun K hK => ?_) AllReadyH.nil
     go_simp
     refine (apply_first _ _ _ (beginIn _) HL13.out (HTB.out _ HB13.out)).mono ?_
     rintro e w14 ⟨S1, rfl, ho, hb⟩
     have Hr14 := Lib.hid (ho.mono HB13.out.size)
     have HB14 := thn HB13 hb
     have HU14 := Lib.hid (HU13.out.below hb)
     have HL14 := Lib.hid (HL13.out.below hb)
     have HZ14 := Lib.hid (HZ13.out.below hb)
     clear ho hb
     refine hK.out _ _ HU14.out (fun hHeld => ?_)
     clear hK K
     refine tk 4 (mo 12 (.move (.tmp 16))) (.tuple #[.agg (rfC S1 mainB zId), .int .i64 0]) rfl ?_
     refine tk 5 (mo 17 (.extract (.tmp 12) 0)) (.agg (rfC S1 mainB zId)) rfl ?_
     refine tk 6 (mo 18 (.extract (.tmp 12) 1)) (.int .i64 0) rfl ?_
     refine rdH [8] ?_
     refine AllReadyH.cons (o := ⟨none, .store 35 (.tmp 2) (.tmp 17), _, _, _, _⟩) rfl (fun K hK => ?_) AllReadyH.nil
     refine ready_step (wp_store_rf (S := S1) (h := mainB) (m := zId) rfl _ _ rfl g2 HZ14.out (len36 rfl) rfl rfl ?_)
     intro w15 hz hg
     have HZ15 := Lib.hid hz
     have HU15 := Lib.hid (HU14.out.grown hg (fun e => by cases e; exact Nat.lt_irrefl _ HGG.out))
     have HB15 := Lib.hid (HB14.out.grown hg HB14.out.size (fun k hk => by cases hk; exact Nat.le_of_lt HGG.out))
     have Hr15 := Lib.hid (in_grown Hr14.out HZ14.out hg)
     clear hz hg
     refine hK.out _ _ HU15.out (fun hHeld => ?_)
     clear hK K
     refine tk 9 (mo 3 (.assign (.tmp 18))) (.int .i64 0) rfl ?_
     refine wpAnyH_done (by kernel_rfl) ?_ _
     go_wp2_with fail
     go_meet
     exact ⟨g2, S1, rfl, rfl, HB15, HU15, HZ15, Hr15, HGG⟩
   ·refine ready_step (wp_alloc_rf rfl ?_)
    intro w12 hz hb
    have HZ12 := Lib.hid hz
    have HB12 := thn HB11 hb
    have HU12 := Lib.hid (HU11.out.below hb)
    have HGG := Lib.hid HU11.out.lt
    clear hz hb
    generalize w11.heap.size = g2 at HZ12 HGG ⊢
    refine hK.out _ _ HU12.out (fun hHeld => ?_)
    clear hK K
    refine rdH [2] ?_
    refine AllReadyH.cons (o := ⟨some 15, .buildSlice 69 1 #[(0, (.tmp 14))], _, _, _, _⟩) rfl (fun K hK => ?_) AllReadyH.nil
    refine ready_step (wp_sl_up _ rfl uA uA_ok rfl ?_)
    have hb := (Below.refl w12.heap.size w12).alloc (Nat.le_refl _) (.cells (upL uA).toArray UEf)
    have HL13 := Lib.hid (oneG (K := upK) w12 uA uA_ok UEf (upL uA).toArray rfl)
    have HB13 := thn HB12 hb
    have HU13 := Lib.hid (HU12.out.below hb)
    have HZ13 := Lib.hid (HZ12.out.below hb)
    clear hb
    generalize w12.alloc (.cells (upL uA).toArray UEf) = w13 at HB13 HU13 HZ13 HL13 ⊢
    generalize w12.heap.size = gs at HL13 ⊢
    refine hK.out _ _ HU13.out (fun hHeld => ?_)
    clear hK K
    refine rdH [3] ?_
    refine AllReadyH.cons (o := ⟨some 16, .call { callee := .value (.func 23), args := #[(.tmp 13), (.tmp 15), (.const (.string ⟨#[102, 105, 114, 115, 116]⟩))], argTypes := #[35, 69, 9] }, _, _, _, _⟩) rfl (fun K hK => ?_) AllReadyH.nil
    go_simp
    refine (apply_first _ _ _ (beginIn _) HL13.out (HTB.out _ HB13.out)).mono ?_
    rintro e w14 ⟨S1, rfl, ho, hb⟩
    have Hr14 := Lib.hid (ho.mono HB13.out.size)
    have HB14 := thn HB13 hb
    have HU14 := Lib.hid (HU13.out.below hb)
    have HZ14 := Lib.hid (HZ13.out.below hb)
    have HL14 := Lib.hid (HL13.out.below hb)
    clear ho hb
    refine hK.out _ _ HU14.out (fun hHeld => ?_)
    clear hK K
    refine tk 4 (mo 12 (.move (.tmp 16))) (.tuple #[.agg (rfC S1 mainB zId), .int .i64 0]) rfl ?_
    refine tk 5 (mo 17 (.extract (.tmp 12) 0)) (.agg (rfC S1 mainB zId)) rfl ?_
    refine tk 6 (mo 18 (.extract (.tmp 12) 1)) (.int .i64 0) rfl ?_
    refine rdH [8] ?_
    refine AllReadyH.cons (o := ⟨none, .store 35 (.tmp 2) (.tmp 17), _, _, _, _⟩) rfl (fun K hK => ?_) AllReadyH.nil
    refine ready_step (wp_store_rf (S := S1) (h := mainB) (m := zId) rfl _ _ rfl g2 HZ14.out (len36 rfl) rfl rfl ?_)
    intro w15 hz hg
    have HZ15 := Lib.hid hz
    have HU15 := Lib.hid (HU14.out.grown hg (fun e => by cases e; exact Nat.lt_irrefl _ HGG.out))
    have HB15 := Lib.hid (HB14.out.grown hg HB14.out.size (fun k hk => by cases hk; exact Nat.le_of_lt HGG.out))
    have Hr15 := Lib.hid (in_grown Hr14.out HZ14.out hg)
    clear hz hg
    refine hK.out _ _ HU15.out (fun hHeld => ?_)
    clear hK K
    refine tk 9 (mo 3 (.assign (.tmp 18))) (.int .i64 0) rfl ?_
    refine wpAnyH_done (by kernel_rfl) ?_ _
    go_wp2_with fail
    go_meet
    exact ⟨g2, S1, rfl, rfl, HB15, HU15, HZ15, Hr15, HGG⟩
  ·refine ready_step (wp_sl_up _ rfl uA uA_ok rfl ?_)
   have hb := (Below.refl w10.heap.size w10).alloc (Nat.le_refl _) (.cells (upL uA).toArray UEf)
   have HL11 := Lib.hid (oneG (K := upK) w10 uA uA_ok UEf (upL uA).toArray rfl)
   have HB11 := thn HB10 hb
   have HU11 := Lib.hid (HU10.out.below hb)
   clear hb
   generalize w10.alloc (.cells (upL uA).toArray UEf) = w11 at HB11 HU11 HL11 ⊢
   generalize w10.heap.size = gs at HL11 ⊢
   refine hK.out _ _ HU11.out (fun hHeld => ?_)
   clear hK K
   refine rdH [0, 7] ?_
   refine AllReadyH.cons (o := ⟨some 13, .call { callee := .value (.func 24), args := #[], argTypes := #[] }, _, _, _, _⟩) rfl (fun K hK => ?_) (AllReadyH.cons (o := ⟨some 2, .alloc 35, _, _, _, _⟩) rfl (fun K hK => ?_) AllReadyH.nil)
   ·go_simp
    refine (begin_any _).mono ?_
    rintro e w12 ⟨rfl, hb⟩
    have HB12 := thn HB11 hb
    have HU12 := Lib.hid (HU11.out.below hb)
    have HL12 := Lib.hid (HL11.out.below hb)
    clear hb
    refine hK.out _ _ HU12.out (fun hHeld => ?_)
    clear hK K
    refine rdH [3, 7] ?_
    refine AllReadyH.cons (o := ⟨some 16, .call { callee := .value (.func 23), args := #[(.tmp 13), (.tmp 15), (.const (.string ⟨#[102, 105, 114, 115, 116]⟩))], argTypes := #[35, 69, 9] }, _, _, _, _⟩) rfl (fun K hK => ?_) (AllReadyH.cons (o := ⟨some 2, .alloc 35, _, _, _, _⟩) rfl (fun K hK => ?_) AllReadyH.nil)
    ·go_simp
     refine (apply_first _ _ _ (beginIn _) HL12.out (HTB.out _ HB12.out)).mono ?_
     rintro e w13 ⟨S1, rfl, ho, hb⟩
     have Hr13 := Lib.hid (ho.mono HB12.out.size)
     have HB13 := thn HB12 hb
     have HU13 := Lib.hid (HU12.out.below hb)
     have HL13 := Lib.hid (HL12.out.below hb)
     clear ho hb
     refine hK.out _ _ HU13.out (fun hHeld => ?_)
     clear hK K
     refine tk 4 (mo 12 (.move (.tmp 16))) (.tuple #[.agg (rfC S1 mainB zId), .int .i64 0]) rfl ?_
     refine tk 5 (mo 17 (.extract (.tmp 12) 0)) (.agg (rfC S1 mainB zId)) rfl ?_
     refine tk 6 (mo 18 (.extract (.tmp 12) 1)) (.int .i64 0) rfl ?_
     refine rdH [7] ?_
     refine AllReadyH.cons (o := ⟨some 2, .alloc 35, _, _, _, _⟩) rfl (fun K hK => ?_) AllReadyH.nil
     refine ready_step (wp_alloc_rf rfl ?_)
     intro w14 hz hb
     have HZ14 := Lib.hid hz
     have HB14 := thn HB13 hb
     have HU14 := Lib.hid (HU13.out.below hb)
     have HL14 := Lib.hid (HL13.out.below hb)
     have Hr14 := Lib.hid (Hr13.out.below hb)
     have HGG := Lib.hid HU13.out.lt
     clear hz hb
     generalize w13.heap.size = g2 at HZ14 HGG ⊢
     refine hK.out _ _ HU14.out (fun hHeld => ?_)
     clear hK K
     refine rdH [8] ?_
     refine AllReadyH.cons (o := ⟨none, .store 35 (.tmp 2) (.tmp 17), _, _, _, _⟩) rfl (fun K hK => ?_) AllReadyH.nil
     refine ready_step (wp_store_rf (S := S1) (h := mainB) (m := zId) rfl _ _ rfl g2 HZ14.out (len36 rfl) rfl rfl ?_)
     intro w15 hz hg
     have HZ15 := Lib.hid hz
     have HU15 := Lib.hid (HU14.out.grown hg (fun e => by cases e; exact Nat.lt_irrefl _ HGG.out))
     have HB15 := Lib.hid (HB14.out.grown hg HB14.out.size (fun k hk => by cases hk; exact Nat.le_of_lt HGG.out))
     have Hr15 := Lib.hid (in_grown Hr14.out HZ14.out hg)
     clear hz hg
     refine hK.out _ _ HU15.out (fun hHeld => ?_)
     clear hK K
     refine tk 9 (mo 3 (.assign (.tmp 18))) (.int .i64 0) rfl ?_
     refine wpAnyH_done (by kernel_rfl) ?_ _
     go_wp2_with fail
     go_meet
     exact ⟨g2, S1, rfl, rfl, HB15, HU15, HZ15, Hr15, HGG⟩
    ·refine ready_step (wp_alloc_rf rfl ?_)
     intro w13 hz hb
     have HZ13 := Lib.hid hz
     have HB13 := thn HB12 hb
     have HU13 := Lib.hid (HU12.out.below hb)
     have HL13 := Lib.hid (HL12.out.below hb)
     have HGG := Lib.hid HU12.out.lt
     clear hz hb
     generalize w12.heap.size = g2 at HZ13 HGG ⊢
     refine hK.out _ _ HU13.out (fun hHeld => ?_)
     clear hK K
     refine rdH [3] ?_
     refine AllReadyH.cons (o := ⟨some 16, .call { callee := .value (.func 23), args := #[(.tmp 13), (.tmp 15), (.const (.string ⟨#[102, 105, 114, 115, 116]⟩))], argTypes := #[35, 69, 9] }, _, _, _, _⟩) rfl (fun K hK => ?_) AllReadyH.nil
     go_simp
     refine (apply_first _ _ _ (beginIn _) HL13.out (HTB.out _ HB13.out)).mono ?_
     rintro e w14 ⟨S1, rfl, ho, hb⟩
     have Hr14 := Lib.hid (ho.mono HB13.out.size)
     have HB14 := thn HB13 hb
     have HU14 := Lib.hid (HU13.out.below hb)
     have HL14 := Lib.hid (HL13.out.below hb)
     have HZ14 := Lib.hid (HZ13.out.below hb)
     clear ho hb
     refine hK.out _ _ HU14.out (fun hHeld => ?_)
     clear hK K
     refine tk 4 (mo 12 (.move (.tmp 16))) (.tuple #[.agg (rfC S1 mainB zId), .int .i64 0]) rfl ?_
     refine tk 5 (mo 17 (.extract (.tmp 12) 0)) (.agg (rfC S1 mainB zId)) rfl ?_
     refine tk 6 (mo 18 (.extract (.tmp 12) 1)) (.int .i64 0) rfl ?_
     refine rdH [8] ?_
     refine AllReadyH.cons (o := ⟨none, .store 35 (.tmp 2) (.tmp 17), _, _, _, _⟩) rfl (fun K hK => ?_) AllReadyH.nil
     refine ready_step (wp_store_rf (S := S1) (h := mainB) (m := zId) rfl _ _ rfl g2 HZ14.out (len36 rfl) rfl rfl ?_)
     intro w15 hz hg
     have HZ15 := Lib.hid hz
     have HU15 := Lib.hid (HU14.out.grown hg (fun e => by cases e; exact Nat.lt_irrefl _ HGG.out))
     have HB15 := Lib.hid (HB14.out.grown hg HB14.out.size (fun k hk => by cases hk; exact Nat.le_of_lt HGG.out))
     have Hr15 := Lib.hid (in_grown Hr14.out HZ14.out hg)
     clear hz hg
     refine hK.out _ _ HU15.out (fun hHeld => ?_)
     clear hK K
     refine tk 9 (mo 3 (.assign (.tmp 18))) (.int .i64 0) rfl ?_
     refine wpAnyH_done (by kernel_rfl) ?_ _
     go_wp2_with fail
     go_meet
     exact ⟨g2, S1, rfl, rfl, HB15, HU15, HZ15, Hr15, HGG⟩
   ·refine ready_step (wp_alloc_rf rfl ?_)
    intro w12 hz hb
    have HZ12 := Lib.hid hz
    have HB12 := thn HB11 hb
    have HU12 := Lib.hid (HU11.out.below hb)
    have HL12 := Lib.hid (HL11.out.below hb)
    have HGG := Lib.hid HU11.out.lt
    clear hz hb
    generalize w11.heap.size = g2 at HZ12 HGG ⊢
    refine hK.out _ _ HU12.out (fun hHeld => ?_)
    clear hK K
    refine rdH [0] ?_
    refine AllReadyH.cons (o := ⟨some 13, .call { callee := .value (.func 24), args := #[], argTypes := #[] }, _, _, _, _⟩) rfl (fun K hK => ?_) AllReadyH.nil
    go_simp
    refine (begin_any _).mono ?_
    rintro e w13 ⟨rfl, hb⟩
    have HB13 := thn HB12 hb
    have HU13 := Lib.hid (HU12.out.below hb)
    have HL13 := Lib.hid (HL12.out.below hb)
    have HZ13 := Lib.hid (HZ12.out.below hb)
    clear hb
    refine hK.out _ _ HU13.out (fun hHeld => ?_)
    clear hK K
    refine rdH [3] ?_
    refine AllReadyH.cons (o := ⟨some 16, .call { callee := .value (.func 23), args := #[(.tmp 13), (.tmp 15), (.const (.string ⟨#[102, 105, 114, 115, 116]⟩))], argTypes := #[35, 69, 9] }, _, _, _, _⟩) rfl (fun K hK => ?_) AllReadyH.nil
    go_simp
    refine (apply_first _ _ _ (beginIn _) HL13.out (HTB.out _ HB13.out)).mono ?_
    rintro e w14 ⟨S1, rfl, ho, hb⟩
    have Hr14 := Lib.hid (ho.mono HB13.out.size)
    have HB14 := thn HB13 hb
    have HU14 := Lib.hid (HU13.out.below hb)
    have HL14 := Lib.hid (HL13.out.below hb)
    have HZ14 := Lib.hid (HZ13.out.below hb)
    clear ho hb
    refine hK.out _ _ HU14.out (fun hHeld => ?_)
    clear hK K
    refine tk 4 (mo 12 (.move (.tmp 16))) (.tuple #[.agg (rfC S1 mainB zId), .int .i64 0]) rfl ?_
    refine tk 5 (mo 17 (.extract (.tmp 12) 0)) (.agg (rfC S1 mainB zId)) rfl ?_
    refine tk 6 (mo 18 (.extract (.tmp 12) 1)) (.int .i64 0) rfl ?_
    refine rdH [8] ?_
    refine AllReadyH.cons (o := ⟨none, .store 35 (.tmp 2) (.tmp 17), _, _, _, _⟩) rfl (fun K hK => ?_) AllReadyH.nil
    refine ready_step (wp_store_rf (S := S1) (h := mainB) (m := zId) rfl _ _ rfl g2 HZ14.out (len36 rfl) rfl rfl ?_)
    intro w15 hz hg
    have HZ15 := Lib.hid hz
    have HU15 := Lib.hid (HU14.out.grown hg (fun e => by cases e; exact Nat.lt_irrefl _ HGG.out))
    have HB15 := Lib.hid (HB14.out.grown hg HB14.out.size (fun k hk => by cases hk; exact Nat.le_of_lt HGG.out))
    have Hr15 := Lib.hid (in_grown Hr14.out HZ14.out hg)
    clear hz hg
    refine hK.out _ _ HU15.out (fun hHeld => ?_)
    clear hK K
    refine tk 9 (mo 3 (.assign (.tmp 18))) (.int .i64 0) rfl ?_
    refine wpAnyH_done (by kernel_rfl) ?_ _
    go_wp2_with fail
    go_meet
    exact ⟨g2, S1, rfl, rfl, HB15, HU15, HZ15, Hr15, HGG⟩
  ·refine ready_step (wp_alloc_rf rfl ?_)
   intro w11 hz hb
   have HZ11 := Lib.hid hz
   have HB11 := thn HB10 hb
   have HU11 := Lib.hid (HU10.out.below hb)
   have HGG := Lib.hid HU10.out.lt
   clear hz hb
   generalize w10.heap.size = g2 at HZ11 HGG ⊢
   refine hK.out _ _ HU11.out (fun hHeld => ?_)
   clear hK K
   refine rdH [0, 2] ?_
   refine AllReadyH.cons (o := ⟨some 13, .call { callee := .value (.func 24), args := #[], argTypes := #[] }, _, _, _, _⟩) rfl (fun K hK => ?_) (AllReadyH.cons (o := ⟨some 15, .buildSlice 69 1 #[(0, (.tmp 14))], _, _, _, _⟩) rfl (fun K hK => ?_) AllReadyH.nil)
   ·go_simp
    refine (begin_any _).mono ?_
    rintro e w12 ⟨rfl, hb⟩
    have HB12 := thn HB11 hb
    have HU12 := Lib.hid (HU11.out.below hb)
    have HZ12 := Lib.hid (HZ11.out.below hb)
    clear hb
    refine hK.out _ _ HU12.out (fun hHeld => ?_)
    clear hK K
    refine rdH [2] ?_
    refine AllReadyH.cons (o := ⟨some 15, .buildSlice 69 1 #[(0, (.tmp 14))], _, _, _, _⟩) rfl (fun K hK => ?_) AllReadyH.nil
    refine ready_step (wp_sl_up _ rfl uA uA_ok rfl ?_)
    have hb := (Below.refl w12.heap.size w12).alloc (Nat.le_refl _) (.cells (upL uA).toArray UEf)
    have HL13 := Lib.hid (oneG (K := upK) w12 uA uA_ok UEf (upL uA).toArray rfl)
    have HB13 := thn HB12 hb
    have HU13 := Lib.hid (HU12.out.below hb)
    have HZ13 := Lib.hid (HZ12.out.below hb)
    clear hb
    generalize w12.alloc (.cells (upL uA).toArray UEf) = w13 at HB13 HU13 HZ13 HL13 ⊢
    generalize w12.heap.size = gs at HL13 ⊢
    refine hK.out _ _ HU13.out (fun hHeld => ?_)
    clear hK K
    refine rdH [3] ?_
    refine AllReadyH.cons (o := ⟨some 16, .call { callee := .value (.func 23), args := #[(.tmp 13), (.tmp 15), (.const (.string ⟨#[102, 105, 114, 115, 116]⟩))], argTypes := #[35, 69, 9] }, _, _, _, _⟩) rfl (fun K hK => ?_) AllReadyH.nil
    go_simp
    refine (apply_first _ _ _ (beginIn _) HL13.out (HTB.out _ HB13.out)).mono ?_
    rintro e w14 ⟨S1, rfl, ho, hb⟩
    have Hr14 := Lib.hid (ho.mono HB13.out.size)
    have HB14 := thn HB13 hb
    have HU14 := Lib.hid (HU13.out.below hb)
    have HZ14 := Lib.hid (HZ13.out.below hb)
    have HL14 := Lib.hid (HL13.out.below hb)
    clear ho hb
    refine hK.out _ _ HU14.out (fun hHeld => ?_)
    clear hK K
    refine tk 4 (mo 12 (.move (.tmp 16))) (.tuple #[.agg (rfC S1 mainB zId), .int .i64 0]) rfl ?_
    refine tk 5 (mo 17 (.extract (.tmp 12) 0)) (.agg (rfC S1 mainB zId)) rfl ?_
    refine tk 6 (mo 18 (.extract (.tmp 12) 1)) (.int .i64 0) rfl ?_
    refine rdH [8] ?_
    refine AllReadyH.cons (o := ⟨none, .store 35 (.tmp 2) (.tmp 17), _, _, _, _⟩) rfl (fun K hK => ?_) AllReadyH.nil
    refine ready_step (wp_store_rf (S := S1) (h := mainB) (m := zId) rfl _ _ rfl g2 HZ14.out (len36 rfl) rfl rfl ?_)
    intro w15 hz hg
    have HZ15 := Lib.hid hz
    have HU15 := Lib.hid (HU14.out.grown hg (fun e => by cases e; exact Nat.lt_irrefl _ HGG.out))
    have HB15 := Lib.hid (HB14.out.grown hg HB14.out.size (fun k hk => by cases hk; exact Nat.le_of_lt HGG.out))
    have Hr15 := Lib.hid (in_grown Hr14.out HZ14.out hg)
    clear hz hg
    refine hK.out _ _ HU15.out (fun hHeld => ?_)
    clear hK K
    refine tk 9 (mo 3 (.assign (.tmp 18))) (.int .i64 0) rfl ?_
    refine wpAnyH_done (by kernel_rfl) ?_ _
    go_wp2_with fail
    go_meet
    exact ⟨g2, S1, rfl, rfl, HB15, HU15, HZ15, Hr15, HGG⟩
   ·refine ready_step (wp_sl_up _ rfl uA uA_ok rfl ?_)
    have hb := (Below.refl w11.heap.size w11).alloc (Nat.le_refl _) (.cells (upL uA).toArray UEf)
    have HL12 := Lib.hid (oneG (K := upK) w11 uA uA_ok UEf (upL uA).toArray rfl)
    have HB12 := thn HB11 hb
    have HU12 := Lib.hid (HU11.out.below hb)
    have HZ12 := Lib.hid (HZ11.out.below hb)
    clear hb
    generalize w11.alloc (.cells (upL uA).toArray UEf) = w12 at HB12 HU12 HZ12 HL12 ⊢
    generalize w11.heap.size = gs at HL12 ⊢
    refine hK.out _ _ HU12.out (fun hHeld => ?_)
    clear hK K
    refine rdH [0] ?_
    refine AllReadyH.cons (o := ⟨some 13, .call { callee := .value (.func 24), args := #[], argTypes := #[] }, _, _, _, _⟩) rfl (fun K hK => ?_) AllReadyH.nil
    go_simp
    refine (begin_any _).mono ?_
    rintro e w13 ⟨rfl, hb⟩
    have HB13 := thn HB12 hb
    have HU13 := Lib.hid (HU12.out.below hb)
    have HZ13 := Lib.hid (HZ12.out.below hb)
    have HL13 := Lib.hid (HL12.out.below hb)
    clear hb
    refine hK.out _ _ HU13.out (fun hHeld => ?_)
    clear hK K
    refine rdH [3] ?_
    refine AllReadyH.cons (o := ⟨some 16, .call { callee := .value (.func 23), args := #[(.tmp 13), (.tmp 15), (.const (.string ⟨#[102, 105, 114, 115, 116]⟩))], argTypes := #[35, 69, 9] }, _, _, _, _⟩) rfl (fun K hK => ?_) AllReadyH.nil
    go_simp
    refine (apply_first _ _ _ (beginIn _) HL13.out (HTB.out _ HB13.out)).mono ?_
    rintro e w14 ⟨S1, rfl, ho, hb⟩
    have Hr14 := Lib.hid (ho.mono HB13.out.size)
    have HB14 := thn HB13 hb
    have HU14 := Lib.hid (HU13.out.below hb)
    have HZ14 := Lib.hid (HZ13.out.below hb)
    have HL14 := Lib.hid (HL13.out.below hb)
    clear ho hb
    refine hK.out _ _ HU14.out (fun hHeld => ?_)
    clear hK K
    refine tk 4 (mo 12 (.move (.tmp 16))) (.tuple #[.agg (rfC S1 mainB zId), .int .i64 0]) rfl ?_
    refine tk 5 (mo 17 (.extract (.tmp 12) 0)) (.agg (rfC S1 mainB zId)) rfl ?_
    refine tk 6 (mo 18 (.extract (.tmp 12) 1)) (.int .i64 0) rfl ?_
    refine rdH [8] ?_
    refine AllReadyH.cons (o := ⟨none, .store 35 (.tmp 2) (.tmp 17), _, _, _, _⟩) rfl (fun K hK => ?_) AllReadyH.nil
    refine ready_step (wp_store_rf (S := S1) (h := mainB) (m := zId) rfl _ _ rfl g2 HZ14.out (len36 rfl) rfl rfl ?_)
    intro w15 hz hg
    have HZ15 := Lib.hid hz
    have HU15 := Lib.hid (HU14.out.grown hg (fun e => by cases e; exact Nat.lt_irrefl _ HGG.out))
    have HB15 := Lib.hid (HB14.out.grown hg HB14.out.size (fun k hk => by cases hk; exact Nat.le_of_lt HGG.out))
    have Hr15 := Lib.hid (in_grown Hr14.out HZ14.out hg)
    clear hz hg
    refine hK.out _ _ HU15.out (fun hHeld => ?_)
    clear hK K
    refine tk 9 (mo 3 (.assign (.tmp 18))) (.int .i64 0) rfl ?_
    refine wpAnyH_done (by kernel_rfl) ?_ _
    go_wp2_with fail
    go_meet
    exact ⟨g2, S1, rfl, rfl, HB15, HU15, HZ15, Hr15, HGG⟩
 case rest =>
  obtain ⟨g2, S1, rfl, rfl, HBa, HUa, HZa, Hra, HGG⟩ := hcut
  have HNL : Hid ((S1.nl : Int) = 1) := Lib.hid (by have := Hra.out.log.len; have e : r1.log.length = 1 := rfl; rw [e] at this; rw [← this]; rfl)
  go_wp2_with (first
   | ((with_reducible refine atS 20 ?_); go_must (refine wl_ex rfl (exec_loadRf _ rfl _ S1 mainB zId rfl rfl HZa.out) ?_))
   | (go_at_call 25; go_must (refine (look_head S1 _ Hra.out.in_ (HTB.out _ HBa.out)).mono ?_); rintro e wb ⟨rfl, hb⟩; have HBb := thn HBa hb; have HUb := Lib.hid (HUa.out.below hb); have HZb := Lib.hid (HZa.out.below hb); have Hrb := Lib.hid (Hra.out.below hb); clear hb)
   | ((with_reducible refine atS 4 ?_); go_must (refine alloc_id rfl rfl ?_); intro wc hi hb hs; have HIc := Lib.hid hi; have HBc := thn HBb hb; have HUc := Lib.hid (HUb.out.below hb); have HZc := Lib.hid (HZb.out.below hb); have Hrc := Lib.hid (Hrb.out.below hb); have HG4 := Lib.hid HBb.out.size; have HF4 : Hid (g2 < wb.heap.size ∧ w.heap.size < wb.heap.size) := Lib.hid ⟨HZb.out.lt, HUb.out.lt⟩; clear hb; generalize wb.heap.size = g4 at hi hs HIc HG4 HF4 ⊢; clear hi hs)
   | ((with_reducible refine atT 4 ?_); go_must (refine store_id rfl _ _ rfl _ idZero id1 rfl rfl HIc.out rfl ?_); intro wd hi hg hs; have HId := Lib.hid hi; have HUd := Lib.hid (HUc.out.grown hg (fun e => by cases e; exact Nat.lt_irrefl _ HF4.out.2)); have HZd := Lib.hid (HZc.out.grown hg (fun e => by cases e; exact Nat.lt_irrefl _ HF4.out.1)); have Hrd := Lib.hid (in_grownId Hrc.out HIc.out hg); have HBd := Lib.hid (HBc.out.grown hg HBc.out.size (fun k hk => by cases hk; exact HG4.out)); clear hi hg hs)
   | ((with_reducible refine atS 25 ?_); go_must (refine wl_ex rfl (exec_loadRf _ rfl _ S1 mainB zId rfl rfl HZd.out) ?_))
   | ((with_reducible refine atS 26 ?_); go_must (refine wl_ex rfl (exec_loadUp _ rfl _ 0 uA uA_ok rfl (fun i v hv => by rw [Nat.zero_add]; exact HUd.out.cell i hv)) ?_))
   | ((with_reducible refine atS 27 ?_); go_must (refine sl_up rfl _ rfl uA uA_ok rfl ?_); intro we1 hl hb; have HLe1 := Lib.hid hl; have HBe1 := thn HBd hb; have HUe1 := Lib.hid (HUd.out.below hb); have HZe1 := Lib.hid (HZd.out.below hb); have Hre1 := Lib.hid (Hrd.out.below hb); have HIe1 := Lib.hid (HId.out.below hb); clear hb; generalize wd.heap.size = gle1 at hl HLe1 ⊢; clear hl)
   | (go_at_call 23; (with_reducible refine (apply_again S1 _ we1 Hre1.out.in_ HLe1.out (HTB.out _ HBe1.out)).mono ?_); rintro e we2 ⟨Se2, rfl, hb⟩; have HBe2 := thn HBe1 hb; have HUe2 := Lib.hid (HUe1.out.below hb); have HZe2 := Lib.hid (HZe1.out.below hb); have Hre2 := Lib.hid (Hre1.out.below hb); have HIe2 := Lib.hid (HIe1.out.below hb); clear hb)
   | ((with_reducible refine atS 6 ?_); go_must (refine alloc_rf rfl rfl ?_); intro we3 hz hb; have HYe3 := Lib.hid hz; have HBe3 := thn HBe2 hb; have HUe3 := Lib.hid (HUe2.out.below hb); have HZe3 := Lib.hid (HZe2.out.below hb); have Hre3 := Lib.hid (Hre2.out.below hb); have HIe3 := Lib.hid (HIe2.out.below hb); have HGge3 : Hid (w.heap.size ≤ we2.heap.size ∧ g2 < we2.heap.size ∧ w.heap.size < we2.heap.size ∧ g4 < we2.heap.size) := Lib.hid ⟨HBe2.out.size, HZe2.out.lt, HUe2.out.lt, (Array.getElem?_eq_some_iff.1 HIe2.out.2).1⟩; clear hb; generalize we2.heap.size = gge3 at hz HYe3 HGge3 ⊢; clear hz)
   | ((with_reducible refine atT 6 ?_); go_must (refine wl_store_rf (S := Se2) (h := []) (a := zId) rfl HYe3.out (len36 rfl) rfl _ _ rfl rfl rfl ?_); intro wf hz hg; have HUf := Lib.hid (HUe3.out.grown hg (fun e => by cases e; exact Nat.lt_irrefl _ HGge3.out.2.2.1)); have HZf := Lib.hid (HZe3.out.grown hg (fun e => by cases e; exact Nat.lt_irrefl _ HGge3.out.2.1)); have HIf := Lib.hid (id_grown HIe3.out hg (fun e => by cases e; exact Nat.lt_irrefl _ HGge3.out.2.2.2)); have Hrf := Lib.hid (in_grown Hre3.out HYe3.out hg); have HBf := Lib.hid (HBe3.out.grown hg HBe3.out.size (fun k hk => by cases hk; exact HGge3.out.1)); clear hz hg)
   | ((with_reducible refine atS 32 ?_); go_must (refine wl_ex rfl (exec_loadRf _ rfl _ S1 mainB zId rfl rfl HZf.out) ?_))
   | ((with_reducible refine atS 33 ?_); go_must (refine wl_ex rfl (exec_id1 rfl) ?_))
   | ((with_reducible refine atS 34 ?_); go_must (refine wl_ex rfl (exec_uB _ rfl rfl) ?_))
   | ((with_reducible refine atS 35 ?_); go_must (refine sl_up rfl _ rfl uB uB_ok rfl ?_); intro wh1 hl hb; have HLh1 := Lib.hid hl; have HBh1 := thn HBf hb; have HUh1 := Lib.hid (HUf.out.below hb); have HZh1 := Lib.hid (HZf.out.below hb); have Hrh1 := Lib.hid (Hrf.out.below hb); have HIh1 := Lib.hid (HIf.out.below hb); clear hb; generalize wf.heap.size = glh1 at hl HLh1 ⊢; clear hl)
   | (go_at_call 23; (with_reducible refine (apply_away S1 _ wh1 Hrh1.out.in_ HLh1.out (HTB.out _ HBh1.out)).mono ?_); rintro e wh2 ⟨Sh2, rfl, hb⟩; have HBh2 := thn HBh1 hb; have HUh2 := Lib.hid (HUh1.out.below hb); have HZh2 := Lib.hid (HZh1.out.below hb); have Hrh2 := Lib.hid (Hrh1.out.below hb); have HIh2 := Lib.hid (HIh1.out.below hb); clear hb)
   | ((with_reducible refine atS 8 ?_); go_must (refine alloc_rf rfl rfl ?_); intro wh3 hz hb; have HYh3 := Lib.hid hz; have HBh3 := thn HBh2 hb; have HUh3 := Lib.hid (HUh2.out.below hb); have HZh3 := Lib.hid (HZh2.out.below hb); have Hrh3 := Lib.hid (Hrh2.out.below hb); have HIh3 := Lib.hid (HIh2.out.below hb); have HGgh3 : Hid (w.heap.size ≤ wh2.heap.size ∧ g2 < wh2.heap.size ∧ w.heap.size < wh2.heap.size ∧ g4 < wh2.heap.size) := Lib.hid ⟨HBh2.out.size, HZh2.out.lt, HUh2.out.lt, (Array.getElem?_eq_some_iff.1 HIh2.out.2).1⟩; clear hb; generalize wh2.heap.size = ggh3 at hz HYh3 HGgh3 ⊢; clear hz)
   | ((with_reducible refine atT 8 ?_); go_must (refine wl_store_rf (S := Sh2) (h := []) (a := zId) rfl HYh3.out (len36 rfl) rfl _ _ rfl rfl rfl ?_); intro wk hz hg; have HUk := Lib.hid (HUh3.out.grown hg (fun e => by cases e; exact Nat.lt_irrefl _ HGgh3.out.2.2.1)); have HZk := Lib.hid (HZh3.out.grown hg (fun e => by cases e; exact Nat.lt_irrefl _ HGgh3.out.2.1)); have HIk := Lib.hid (id_grown HIh3.out hg (fun e => by cases e; exact Nat.lt_irrefl _ HGgh3.out.2.2.2)); have Hrk := Lib.hid (in_grown Hrh3.out HYh3.out hg); have HBk := Lib.hid (HBh3.out.grown hg HBh3.out.size (fun k hk => by cases hk; exact HGgh3.out.1)); clear hz hg; have c35 := rf_log rfl HZk.out; have hnl := HNL.out)
   | ((with_reducible refine atS 46 ?_); go_must (refine wl_load rfl _ rfl _ _ id1 rfl rfl HIk.out.range ?_))
   | ((with_reducible refine atS 47 ?_); go_must (refine wl_ex rfl (exec_id1 rfl) ?_))
   | ((with_reducible refine atS 48 ?_); go_must (refine wl_ex rfl (exec_eqlId _ _ _ rfl id1 id1 rfl rfl rfl rfl) ?_)))
  go_ret
  exact ⟨rfl, HBk.out⟩
end Go.Proofs.YthihmlojdopmfaaDoor
