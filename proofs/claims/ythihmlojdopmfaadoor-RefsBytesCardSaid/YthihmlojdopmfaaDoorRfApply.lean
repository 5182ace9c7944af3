/-
 The walk of Apply.
-/
import Derived.Test.YthihmlojdopmfaaDoorGrp11
import Derived.Test.YthihmlojdopmfaaDoorGrp1
namespace Go.Proofs.YthihmlojdopmfaaDoor
open Go.RowKit

theorem built_zrf : Tryd.prog.built 35 [] = some (rfC noS [] zId) := by kernel_rfl
set_option maxRecDepth 100000 in
theorem exec_zrf {w : World} {o : Oper} {a : Act} (ho : o.op = .build 35 #[]) : (execOp a.eval o).run Tryd.prog w = .ok (.value (.agg (rfC noS [] zId))) w := by
 refine exec_build _ _ ho _ ?_
 have e : (#[].map fun (q : Nat × Operand) => (q.1, a.eval q.2)).toList = [] := by simp
 exact (congrArg _ e).trans built_zrf
theorem gd_is {α : Type} [Inhabited α] {l : List α} {i : Nat} (hi : i < l.length) : gd l i = l[i] := by unfold gd; simp [hi]
theorem exec_loadUp {w : World} {o : Oper} {a : Act} (x : Operand) (ho : o.op = .load UEf x) (b off : Nat) (u : UpdV) (hu : UpOk u) (hx : a.eval x = .pointer (some ⟨b, off, none⟩)) (hc : w.rangeAt b off (upL u)) :
  (execOp a.eval o).run Tryd.prog w = .ok (.value (.agg (upL u).toArray)) w := by
 have hr := run_loadVar_mid (P := Tryd.prog) w b off UEf (upL u) _ hc Tryd.underlying48 rfl (size66 hu)
 unfold execOp
 simp only [ho, hx, Instr.loadAt, Instr.sureAddr, Sem.run_bind, Sem.run_pure, Result.andThen_ok, hr]
theorem exec_lookup {w : World} {o : Oper} {a : Act} (x y : Operand) (ho : o.op = .lookup ActM x y true) (b : Nat) (k : Nat) (hx : a.eval x = .map (some b)) (hy : a.eval y = .int .u8 (k : Int)) (v : Value) (h : (Instr.lookup ActM (.map (some b)) (.int .u8 (k : Int)) true).run Tryd.prog w = .ok v w) :
  (execOp a.eval o).run Tryd.prog w = .ok (.value v) w := by
 unfold execOp
 simp only [ho, hx, hy, Sem.run_bind, h, Result.andThen_ok, Sem.run_pure]
theorem results_rf {S : RfS} {h m : List UInt8} (hm : m.length = 32) {w : World} {g : Nat} (hR : RowAt w g REf (rfL S h m)) {fn : Func} {p t : Tmp} (hf : fn.results = #[.cell p REf, .tmp t]) (tmps : Array Value) (hp : tmps.getD p undef = .pointer (some ⟨g, 0, none⟩)) :
  (results fn tmps).run Tryd.prog w = .ok (.tuple #[.agg (rfC S h m), tmps.getD t undef]) w := by
 have hr := run_loadVar_mid (P := Tryd.prog) w g 0 REf (rfL S h m) _ (fun i v hv => by rw [Nat.zero_add]; exact hR.cell i hv) Tryd.underlying35 rfl (size36 hm)
 have hp' : tmps[p]?.getD undef = .pointer (some ⟨g, 0, none⟩) := by simpa using hp
 simp [results, hf, hp', asAddr, hr, rfC]
theorem upd_at {w : World} {b o n c i : Nat} {L : List UpdV} (h : AtG upK w (some ⟨b, o, none⟩) n c L) (hi : i < n) : w.rangeAt b (o + i * 66) (upL (gd L i)) := fun j v hv => h.at_ i hi j v hv
section
variable {w w' : World} {base g k : Nat} {S : RfS} {r : RefsV} {E : TypeId} {cs us : List Value}
theorem kept_row (hk : Kept3 w w' g S) (hO : RfOwn w base S r) (hR : RowAt w k E cs) (hg : k ≠ g) (h1 : E ≠ NEf := by decide) (h2 : E ≠ EEf := by decide) : RowAt w' k E cs := by
 unfold RowAt
 rw [hk k hR.lt hg (row_ne hR hO.br.1 h1) (row_ne hR hO.tg.1 h1) (row_ne hR hO.log.1 h2)]
 exact hR
theorem map_ne {es : Array MapEntry} {cl n sz : Nat} {v : Value} {xs : List Value} (h : w.heap[k]? = some (.map es cl)) (h' : w.ownsRow base E sz v n xs) : some k ≠ v.ownBlock := by
 obtain ⟨_, h2'⟩ := h'
 intro e
 rcases h2' with ⟨rfl, _⟩ | ⟨g', cap', cur', rfl, _, hg', _⟩
 ·simp [Value.ownBlock] at e
 ·simp only [Value.ownBlock, Option.some.injEq] at e
  subst e
  rw [h] at hg'
  simp at hg'
theorem kept_acts (hk : Kept3 w w' g S) (hO : RfOwn w base S r) (hR : RowAt w g REf us) (h : ActsAt w k) : ActsAt w' k := by
 obtain ⟨es, clock, he, F⟩ := h
 refine ⟨es, clock, ?_, F⟩
 have hg : k ≠ g := fun e => by
  subst e
  unfold RowAt at hR
  rw [he] at hR
  simp at hR
 rw [hk k ((Array.getElem?_eq_some_iff.1 he).1) hg (map_ne he hO.br.1) (map_ne he hO.tg.1) (map_ne he hO.log.1)]
 exact he
theorem RfOwn.few (h : RfOwn w base S r) (hr : RightV r) : RfFew S := by
 have h1 := h.br.len
 have h2 := h.tg.len
 have h3 := h.log.len
 have h4 := hr.1.1
 have h5 := hr.2.1.1
 have h6 := hr.2.2.2.1
 exact ⟨by omega, by omega, by omega⟩
theorem RfOwn.noneOwn (w : World) (base : Nat) : RfOwn w base noS noRefs := ⟨⟨fun x hx => by
  simp only [List.mem_cons, List.not_mem_nil, or_false] at hx
  rcases hx with rfl | rfl | rfl <;> exact World.ownsRow_nil _ _ _ _, by simp [Apart, noS, noRefs, Value.ownBlock]⟩, (fun _ h => by cases h), (fun _ h => by cases h), (fun _ h => by cases h), rfl⟩
end
theorem look_1 {w : World} {b k : Nat} (h : ActsAt w b) (hk : k = 1) : (Instr.lookup ActM (.map (some b)) (.int .u8 (k : Int)) true).run Tryd.prog w = .ok (.tuple #[.func (.func 74) #[] #[], .bool true]) w := by
 subst hk
 obtain ⟨v, h1, h2, _⟩ := look_act h 1 (by decide)
 rw [h1, h2 rfl]; rfl
theorem look_2 {w : World} {b k : Nat} (h : ActsAt w b) (hk : k = 2) : (Instr.lookup ActM (.map (some b)) (.int .u8 (k : Int)) true).run Tryd.prog w = .ok (.tuple #[.func (.func 75) #[] #[], .bool true]) w := by
 subst hk
 obtain ⟨v, h1, _, h2, _⟩ := look_act h 2 (by decide)
 rw [h1, h2 rfl]; rfl
theorem look_3 {w : World} {b k : Nat} (h : ActsAt w b) (hk : k = 3) : (Instr.lookup ActM (.map (some b)) (.int .u8 (k : Int)) true).run Tryd.prog w = .ok (.tuple #[.func (.func 76) #[] #[], .bool true]) w := by
 subst hk
 obtain ⟨v, h1, _, _, h2⟩ := look_act h 3 (by decide)
 rw [h1, h2 rfl]; rfl
theorem look_none {w : World} {b k : Nat} (h : ActsAt w b) (hk : k < 256) (hn : ¬ (k = 1 ∨ k = 2 ∨ k = 3)) : ∃ v, (Instr.lookup ActM (.map (some b)) (.int .u8 (k : Int)) true).run Tryd.prog w = .ok (.tuple #[v, .bool false]) w := by
 obtain ⟨v, h1, _⟩ := look_act h k hk
 exact ⟨v, by rw [h1, decide_eq_false hn]⟩
theorem RfIn.few {w : World} {S : RfS} {r : RefsV} (h : RfIn w S r) (hr : RightV r) : RfFew S := by
 have h1 := h.br.1
 have h2 := h.tg.1
 have h3 := h.log.1
 have h4 := hr.1.1
 have h5 := hr.2.1.1
 have h6 := hr.2.2.2.1
 exact ⟨by omega, by omega, by omega⟩
theorem act_any (f k : Nat) (hk : (k = 1 ∧ f = 74) ∨ (k = 2 ∧ f = 75) ∨ (k = 3 ∧ f = 76)) (g base : Nat) (S : RfS) (r : RefsV) (u : UpdV) (hu1 : u.kind = k) (w : World) (hR : RowAt w g REf (rfL S r.head r.at_)) (hO : RfOwn w base S r) (hr : RightV r) (hu : UpOk u) (hgb : base ≤ g) (hb : base ≤ w.heap.size) :
  Calls Tryd.prog f #[.pointer (some ⟨g, 0, none⟩), .agg (upL u).toArray] w (ActIs w base g S (oneR r u)) := by
 obtain ⟨n1, n2, _⟩ := hO.few hr
 unfold oneR
 rcases hk with ⟨rfl, rfl⟩ | ⟨rfl, rfl⟩ | ⟨rfl, rfl⟩
 ·rw [if_pos hu1]; exact branch_any g base S r u w hR hO hr.1.asc hu hgb hb n1
 ·rw [if_neg (by omega), if_pos hu1]; exact tag_any g base S r u w hR hO hr.2.1.asc hu hgb hb n2
 ·rw [if_neg (by omega), if_neg (by omega), if_pos hu1]; exact headU_any g base S r u w hR hO hu hgb hb
theorem act_ok {f k : Nat} (hk : (k = 1 ∧ f = 74) ∨ (k = 2 ∧ f = 75) ∨ (k = 3 ∧ f = 76)) {g base : Nat} {S : RfS} {r : RefsV} {u : UpdV} (hu1 : u.kind = k) {w : World} (hR : RowAt w g REf (rfL S r.head r.at_)) (hO : RfOwn w base S r) (hr : RightV r) (hu : UpOk u) (hgb : base ≤ g) (hb : base ≤ w.heap.size) (h0 : (oneR r u).2 = 0) :
  Calls Tryd.prog f #[.pointer (some ⟨g, 0, none⟩), .agg (upL u).toArray] w fun e w' => e = .returned (.int .i64 0) ∧ ∃ S', RowAt w' g REf (rfL S' (oneR r u).1.head (oneR r u).1.at_) ∧ RfOwn w' base S' (oneR r u).1 ∧ Below base w w' ∧ Kept3 w w' g S :=
 (act_any f k hk g base S r u hu1 w hR hO hr hu hgb hb).mono fun e w' ⟨h1, h2, h3, h4⟩ => by
  obtain ⟨S', h5, h6⟩ := h2 h0
  exact ⟨by rw [h1, h0]; rfl, S', h5, h6, h3, h4⟩
theorem act_no {f k c : Nat} (hk : (k = 1 ∧ f = 74) ∨ (k = 2 ∧ f = 75) ∨ (k = 3 ∧ f = 76)) {g base : Nat} {S : RfS} {r : RefsV} {u : UpdV} (hu1 : u.kind = k) {w : World} (hR : RowAt w g REf (rfL S r.head r.at_)) (hO : RfOwn w base S r) (hr : RightV r) (hu : UpOk u) (hgb : base ≤ g) (hb : base ≤ w.heap.size) (h0 : (oneR r u).2 = c) :
  Calls Tryd.prog f #[.pointer (some ⟨g, 0, none⟩), .agg (upL u).toArray] w fun e w' => e = .returned (.int .i64 (c : Nat)) ∧ Below base w w' ∧ Kept3 w w' g S :=
 (act_any f k hk g base S r u hu1 w hR hO hr hu hgb hb).mono fun e w' ⟨h1, _, h3, h4⟩ => ⟨by rw [h1, h0], h3, h4⟩
def ApplyIs (w : World) (R : RefsV × Nat) (e : Ending) (w' : World) : Prop := ∃ S, e = .returned (.tuple #[.agg (rfC S R.1.head R.1.at_), .int .i64 (R.2 : Nat)]) ∧ RfOwn w' w.heap.size S R.1 ∧ Below w.heap.size w w'

set_option maxRecDepth 100000 in
set_option maxHeartbeats 4000000 in
theorem apply_any (S : RfS) (r : RefsV) (a : Option Addr) (n c : Nat) (L : List UpdV) (nn : List UInt8) (p : ByteArray) (hp : strB nn = p) (w : World) (h : RfIn w S r) (hs : RfLen r) (hL : AtG upK w a n c L) (hnn : nn.length ≤ 100000) (hn : n ≤ 100000) (hT : Tabs w) (q t : Bool) (hq : q = true ↔ RightV r) (ht : noteF nn = t) :
  Calls Tryd.prog 23 #[.agg (rfC S r.head r.at_), .slice a n c, .string p] w (ApplyIs w (if q && t then applyF nn r L else (noRefs, 1))) := by
 have HAT := Lib.hid h.at_
 have HPE := Lib.hid hp
 have HIN := Lib.hid h
 have HLA := Lib.hid hL
 have HLN := Lib.hid hL.1
 have hnI : (n : Int) ≤ 100000 := by omega
 have HRT := Lib.hid (fun W (hW : Below w.heap.size w W) => right_any S r W (h.below hW) hs (hT.below hW) q hq)
 have HNT := Lib.hid (fun W (hW : Below w.heap.size w W) => hp ▸ note_is nn t ht hnn W (hT.below hW))
 obtain ⟨w1, hw1⟩ : ∃ w1, w1 = w.alloc (.cells (rfC S r.head r.at_) REf) := ⟨_, rfl⟩
 obtain ⟨w0, hw0⟩ : ∃ w0, w0 = w1.alloc (.cells (rfC noS [] zId) REf) := ⟨_, rfl⟩
 have hz1 : w1.heap.size = w.heap.size + 1 := by rw [hw1]; simp
 have hb1 : Below w.heap.size w w1 := by rw [hw1]; exact (Below.refl _ _).alloc (Nat.le_refl _) _
 have hb0 : Below w1.heap.size w1 w0 := by rw [hw0]; exact (Below.refl _ _).alloc (Nat.le_refl _) _
 have HB0 : Hid (Below w.heap.size w w0) := Lib.hid (hb1.trans (hb0.mono (by omega)))
 have hr1 : RowAt w1 w.heap.size REf (rfL S r.head r.at_) := by rw [hw1]; exact heap_alloc_new w _
 have HR0 : Hid (RowAt w0 w.heap.size REf (rfL S r.head r.at_)) := Lib.hid (hr1.below (w' := w0) hb0)
 have HZ0 : Hid (RowAt w0 (w.heap.size + 1) REf (rfL noS [] zId)) := Lib.hid (show w0.heap[w.heap.size + 1]? = _ by rw [hw0, ← hz1]; exact heap_alloc_new w1 _)
 have HW1 := Lib.hid hw1
 have HW0 := Lib.hid hw0
 have HQ := Lib.hid hq
 have HNF := Lib.hid ht
 have HNL := Lib.hid hnn
 clear h hs hL hnn hn hT hq ht hp hw1 hw0 hz1 hb1 hb0 hr1
 cases q
 ·go_enter Tryd.func23, Tryd.ntmps23
  go_wp2_with (first
   | ((with_reducible refine atS 15 ?_); rw [← HW1.out]; (show wpList _ _ _ _ _ (w1.alloc (.cells (rfC noS [] zId) REf))); rw [← HW0.out]; go_must (refine wl_ex rfl (exec_loadRf _ rfl _ S r.head r.at_ HAT.out rfl HR0.out) ?_))
   | (go_at_call 13; go_must (refine (HRT.out _ HB0.out).mono ?_); rintro e w2 ⟨rfl, hb2⟩; have HB2 := thn HB0 hb2; have HR2 := Lib.hid (HR0.out.below hb2); have HZ2 := Lib.hid (HZ0.out.below hb2); clear hb2)
   | ((with_reducible refine atS 23 ?_); go_must (refine wl_ex rfl (exec_zrf rfl) ?_))
   | ((with_reducible refine atT 6 ?_); go_must (refine wl_store_rf (S := noS) (h := []) (a := zId) rfl HZ2.out (len36 rfl) rfl _ _ rfl rfl rfl ?_); intro wz hrz hgz; have HRz := Lib.hid hrz; have HGz := Lib.hid hgz; clear hrz hgz))
  refine bodyPost_ret (results_rf (S := noS) (h := []) (m := zId) rfl HRz.out rfl _ rfl) rfl ?_
  exact ⟨noS, rfl, RfOwn.noneOwn _ _, HB2.out.grown HGz.out HB2.out.size (fun k hk => by cases hk; omega)⟩
 ·cases t
  ·go_enter Tryd.func23, Tryd.ntmps23
   go_wp2_with (first
    | ((with_reducible refine atS 15 ?_); rw [← HW1.out]; (show wpList _ _ _ _ _ (w1.alloc (.cells (rfC noS [] zId) REf))); rw [← HW0.out]; go_must (refine wl_ex rfl (exec_loadRf _ rfl _ S r.head r.at_ HAT.out rfl HR0.out) ?_))
    | (go_at_call 13; go_must (refine (HRT.out _ HB0.out).mono ?_); rintro e w2 ⟨rfl, hb2⟩; have HB2 := thn HB0 hb2; have HR2 := Lib.hid (HR0.out.below hb2); have HZ2 := Lib.hid (HZ0.out.below hb2); clear hb2)
    | (go_at_call 51; go_must (refine (HNT.out _ HB2.out).mono ?_); rintro e w3 ⟨rfl, hb3⟩; have HB3 := thn HB2 hb3; have HR3 := Lib.hid (HR2.out.below hb3); have HZ3 := Lib.hid (HZ2.out.below hb3); clear hb3)
    | ((with_reducible refine atS 23 ?_); go_must (refine wl_ex rfl (exec_zrf rfl) ?_))
    | ((with_reducible refine atT 6 ?_); go_must (refine wl_store_rf (S := noS) (h := []) (a := zId) rfl HZ3.out (len36 rfl) rfl _ _ rfl rfl rfl ?_); intro wz hrz hgz; have HRz := Lib.hid hrz; have HGz := Lib.hid hgz; clear hrz hgz))
   refine bodyPost_ret (results_rf (S := noS) (h := []) (m := zId) rfl HRz.out rfl _ rfl) rfl ?_
   exact ⟨noS, rfl, RfOwn.noneOwn _ _, HB3.out.grown HGz.out HB3.out.size (fun k hk => by cases hk; omega)⟩
  ·have HRV := Lib.hid (HQ.out.1 rfl)
   have HFW : Hid (RfFew S) := Lib.hid (HIN.out.few HRV.out)
   obtain ⟨Z, hZ⟩ : ∃ Z, applyF nn r L = Z := ⟨_, rfl⟩
   have HZE := Lib.hid hZ
   rw [Bool.and_self, if_pos rfl, hZ]
   clear hZ
   go_enter Tryd.func23, Tryd.ntmps23
   go_wp2_with (first
    | ((with_reducible refine atS 15 ?_); rw [← HW1.out]; (show wpList _ _ _ _ _ (w1.alloc (.cells (rfC noS [] zId) REf))); rw [← HW0.out]; go_must (refine wl_ex rfl (exec_loadRf _ rfl _ S r.head r.at_ HAT.out rfl HR0.out) ?_))
    | (go_at_call 13; go_must (refine (HRT.out _ HB0.out).mono ?_); rintro e w2 ⟨rfl, hb2⟩; have HB2 := thn HB0 hb2; have HR2 := Lib.hid (HR0.out.below hb2); have HZ2 := Lib.hid (HZ0.out.below hb2); clear hb2)
    | (go_at_call 51; go_must (refine (HNT.out _ HB2.out).mono ?_); rintro e w3 ⟨rfl, hb3⟩; have HB3 := thn HB2 hb3; have HR3 := Lib.hid (HR2.out.below hb3); have HZ3 := Lib.hid (HZ2.out.below hb3); clear hb3)
    | ((with_reducible refine atS 24 ?_); go_must (refine wl_ex rfl (exec_loadRf _ rfl _ S r.head r.at_ HAT.out rfl HR3.out) ?_))
    | (go_at_call 52; go_must (refine (clone_any S r _ (HIN.out.below HB3.out) (HFW.out)).mono ?_); rintro e w4 ⟨S4, rfl, ho4, hb4⟩; have HB4 := thn HB3 hb4; have HZ4 := Lib.hid (HZ3.out.below hb4); have HO4 := Lib.hid (ho4.mono HB3.out.size); clear ho4 hb4)
    | ((with_reducible refine atT 8 ?_); go_must (refine store_new (vs := rfL S4 r.head r.at_) (size36 HAT.out) (rfL_one _ _ _) (by rw [rfL_len HAT.out]; rfl) rfl _ _ rfl rfl rfl ?_); intro w5 hr5 hb5 hs5; have HB5 := thn HB4 hb5; have HZ5 := Lib.hid (HZ4.out.below hb5); have HO5 := Lib.hid (HO4.out.below hb5); have HR5 := Lib.hid hr5; have HG8 := Lib.hid HB4.out.size; have HG6 := Lib.hid (Nat.ne_of_lt HZ4.out.lt); generalize w4.heap.size = g8 at hr5 hs5 HR5 HG8 HG6 ⊢; clear hr5 hb5 hs5)
    | (go_at_call 53; go_must (refine (acts_any _).mono ?_); rintro e w6 ⟨rfl, ha6, hb6⟩; have HB6 := thn HB5 hb6; have HZ6 := Lib.hid (HZ5.out.below hb6); have HO6 := Lib.hid (HO5.out.below hb6); have HR6 := Lib.hid (HR5.out.below hb6); have HA6 := Lib.hid ha6; generalize w5.heap.size = gm at ha6 HA6 ⊢; clear ha6 hb6))
   go_loopg [29] n (fun g v29 W => ∃ (i : Nat) (S' : RfS) (r' : RefsV), v29 = .int .i64 i ∧ g + i = n ∧ Hid (Below w.heap.size w W) ∧ Hid (RowAt W (w.heap.size + 1) REf (rfL noS [] zId)) ∧ Hid (RowAt W g8 REf (rfL S' r'.head r'.at_)) ∧ Hid (RfOwn W w.heap.size S' r') ∧ Hid (ActsAt W gm) ∧ Hid (RightV r' ∧ applyF nn r' (L.drop i) = Z))
   case atStart => exact ⟨0, S4, r, rfl, rfl, HB6, HZ6, HR6, HO6, HA6, Lib.hid ⟨HRV.out, by rw [List.drop_zero]; exact HZE.out⟩⟩
   case round =>
    obtain ⟨i, S', r', rfl, hg, HB, HZ, HR, HO, HA, HM⟩ := hrel
    have HG := Lib.hid hg
    have hi0 : (0 : Int) ≤ (i : Int) := by omega
    have hiI : (i : Int) ≤ (n : Int) := by omega
    by_cases hi : (i : Int) < (n : Int)
    ·have hin : i < n := by omega
     have HI := Lib.hid hin
     obtain ⟨b, o, rfl⟩ := HLA.out.some_ (by omega)
     obtain ⟨u, hu⟩ : ∃ u, u = gd L i := ⟨_, rfl⟩
     have HUO : Hid (UpOk u) := Lib.hid (hu ▸ HLA.out.ok hin)
     have HUA : Hid (wr.rangeAt b (o + i * 66) (upL u)) := Lib.hid (hu ▸ upd_at (HLA.out.below HB.out) hin)
     have HDR : Hid (L.drop i = u :: L.drop (i + 1)) := Lib.hid (by rw [List.drop_eq_getElem_cons (by rw [HLN.out]; exact hin), hu, gd_is (by rw [HLN.out]; exact hin)])
     clear hg hu
     by_cases h1 : u.kind = 1
     ·have HKD : Hid (u.kind = 1) := Lib.hid h1
      clear h1
      by_cases hE : (oneR r' u).2 = 0
      ·have HE := Lib.hid hE
       have HRO := Lib.hid (oneR_right HM.out.1 hE).1
       have HST := Lib.hid (step_right HM.out.1 HNF.out hE)
       have HM2 : Hid (applyF nn (logF (oneR r' u).1 ⟨u, nn⟩) (L.drop (i + 1)) = Z) := Lib.hid (by rw [← HM.out.2, HDR.out]; show _ = if _ then _ else _; rw [if_pos hE])
       clear hE
       go_wp2_with (first
        | ((with_reducible refine atS 32 ?_); go_must (refine wl_ex rfl (exec_loadUp _ rfl _ _ u HUO.out rfl (HUA.out)) ?_))
        | ((with_reducible refine atT 11 ?_); go_must (refine store_new (vs := upL u) (size66 HUO.out) (upL_one _) (by rw [upL_len HUO.out]; rfl) rfl _ _ rfl rfl rfl ?_); intro w7 hu7 hb7 hs7; have HB7 := thn HB hb7; have HZ7 := Lib.hid (HZ.out.below hb7); have HR7 := Lib.hid (HR.out.below hb7); have HO7 := Lib.hid (HO.out.below hb7); have HA7 := Lib.hid (HA.out.below hb7); have HU7 := Lib.hid hu7; have HG11 := Lib.hid (Nat.ne_of_gt HR.out.lt); have c7 := HU7.out.cell 0 (v := .int .u8 (u.kind : Int)) rfl; generalize wr.heap.size = g11 at hu7 hs7 HU7 HG11 c7 ⊢; clear hu7 hb7 hs7)
        | ((with_reducible refine atS 37 ?_); go_must (refine wl_ex rfl (exec_lookup _ _ rfl gm u.kind rfl rfl (.tuple #[.func (.func 74) #[] #[], .bool true]) (look_1 HA7.out HKD.out)) ?_))
        | ((with_reducible refine atS 44 ?_); go_must (refine wl_ex rfl (exec_loadUp _ rfl _ _ u HUO.out rfl (fun i v hv => by rw [Nat.zero_add]; exact HU7.out.cell i hv)) ?_))
        | (go_at_call 74; go_must (refine (act_ok (.inl ⟨rfl, rfl⟩) HKD.out HR7.out HO7.out HM.out.1 HUO.out HG8.out HB7.out.size HE.out).mono ?_); rintro e w8 ⟨rfl, S8, hr8, ho8, hb8, hk8⟩; have HZ8 := Lib.hid (kept_row hk8 HO7.out HZ7.out HG6.out); have HA8 := Lib.hid (kept_acts hk8 HO7.out HR7.out HA7.out); have HU8 := Lib.hid (kept_row hk8 HO7.out HU7.out HG11.out); have HB8 := Lib.hid (HB7.out.trans hb8); have HR8 := Lib.hid hr8; have HO8 := Lib.hid ho8; clear hr8 ho8 hb8 hk8)
        | ((with_reducible refine atS 50 ?_); go_must (refine wl_ex rfl (exec_loadUp _ rfl _ _ u HUO.out rfl (fun i v hv => by rw [Nat.zero_add]; exact HU8.out.cell i hv)) ?_))
        | ((with_reducible refine atS 52 ?_); go_must (refine wl_ex rfl (exec_en _ _ rfl u HUO.out nn p HPE.out.symm rfl rfl) ?_))
        | (go_at_call 54; go_must (refine (log_put g8 w.heap.size S8 (oneR r' u).1 ⟨u, nn⟩ _ HR8.out HO8.out HUO.out HG8.out HB8.out.size (HO8.out.few HRO.out).2.2).mono ?_); rintro e w9 ⟨rfl, S9, hr9, ho9, hb9, hk9⟩; have HZ9 := Lib.hid (kept_row hk9 HO8.out HZ8.out HG6.out); have HA9 := Lib.hid (kept_acts hk9 HO8.out HR8.out HA8.out); have HB9 := Lib.hid (HB8.out.trans hb9); have HR9 := Lib.hid hr9; have HO9 := Lib.hid ho9; clear hr9 ho9 hb9 hk9))
       go_roundg (n - (i + 1))
       case measure => have := HG.out; have := HI.out; omega
       case rel => exact ⟨i + 1, S9, logF (oneR r' u).1 ⟨u, nn⟩, by go_num, by have := HI.out; omega, HB9, HZ9, HR9, HO9, HA9, Lib.hid ⟨HST.out, HM2.out⟩⟩
      ·obtain ⟨d, hd⟩ : ∃ d, (oneR r' u).2 = d := ⟨_, rfl⟩
       have HE := Lib.hid hd
       rw [hd] at hE
       have hE2 : ¬ (d : Int) = 0 := fun h => hE (Int.natCast_eq_zero.1 h)
       have hZ : Z = (noRefs, d) := by rw [← HM.out.2, HDR.out]; unfold applyF; rw [hd, if_neg hE]
       subst hZ
       clear hd
       go_wp2_with (first
        | ((with_reducible refine atS 32 ?_); go_must (refine wl_ex rfl (exec_loadUp _ rfl _ _ u HUO.out rfl (HUA.out)) ?_))
        | ((with_reducible refine atT 11 ?_); go_must (refine store_new (vs := upL u) (size66 HUO.out) (upL_one _) (by rw [upL_len HUO.out]; rfl) rfl _ _ rfl rfl rfl ?_); intro w7 hu7 hb7 hs7; have HB7 := thn HB hb7; have HZ7 := Lib.hid (HZ.out.below hb7); have HR7 := Lib.hid (HR.out.below hb7); have HO7 := Lib.hid (HO.out.below hb7); have HA7 := Lib.hid (HA.out.below hb7); have HU7 := Lib.hid hu7; have HG11 := Lib.hid (Nat.ne_of_gt HR.out.lt); have c7 := HU7.out.cell 0 (v := .int .u8 (u.kind : Int)) rfl; generalize wr.heap.size = g11 at hu7 hs7 HU7 HG11 c7 ⊢; clear hu7 hb7 hs7)
        | ((with_reducible refine atS 37 ?_); go_must (refine wl_ex rfl (exec_lookup _ _ rfl gm u.kind rfl rfl (.tuple #[.func (.func 74) #[] #[], .bool true]) (look_1 HA7.out HKD.out)) ?_))
        | ((with_reducible refine atS 44 ?_); go_must (refine wl_ex rfl (exec_loadUp _ rfl _ _ u HUO.out rfl (fun i v hv => by rw [Nat.zero_add]; exact HU7.out.cell i hv)) ?_))
        | (go_at_call 74; go_must (refine (act_no (.inl ⟨rfl, rfl⟩) HKD.out HR7.out HO7.out HM.out.1 HUO.out HG8.out HB7.out.size HE.out).mono ?_); rintro e w8 ⟨rfl, hb8, hk8⟩; have HZ8 := Lib.hid (kept_row hk8 HO7.out HZ7.out HG6.out); have HA8 := Lib.hid (kept_acts hk8 HO7.out HR7.out HA7.out); have HU8 := Lib.hid (kept_row hk8 HO7.out HU7.out HG11.out); have HB8 := Lib.hid (HB7.out.trans hb8); clear hb8 hk8)
        | ((with_reducible refine atS 48 ?_); go_must (refine wl_ex rfl (exec_zrf rfl) ?_))
        | ((with_reducible refine atT 6 ?_); go_must (refine wl_store_rf (S := noS) (h := []) (a := zId) rfl HZ8.out (len36 rfl) rfl _ _ rfl rfl rfl ?_); intro wz hrz hgz; have HRz := Lib.hid hrz; have HGz := Lib.hid hgz; clear hrz hgz))
       refine bodyPost_ret (results_rf (S := noS) (h := []) (m := zId) rfl HRz.out rfl _ rfl) rfl ?_
       exact ⟨noS, rfl, RfOwn.noneOwn _ _, HB8.out.grown HGz.out HB8.out.size (fun k hk => by cases hk; omega)⟩
     by_cases h2 : u.kind = 2
     ·clear h1
      have HKD : Hid (u.kind = 2) := Lib.hid h2
      clear h2
      by_cases hE : (oneR r' u).2 = 0
      ·have HE := Lib.hid hE
       have HRO := Lib.hid (oneR_right HM.out.1 hE).1
       have HST := Lib.hid (step_right HM.out.1 HNF.out hE)
       have HM2 : Hid (applyF nn (logF (oneR r' u).1 ⟨u, nn⟩) (L.drop (i + 1)) = Z) := Lib.hid (by rw [← HM.out.2, HDR.out]; show _ = if _ then _ else _; rw [if_pos hE])
       clear hE
       go_wp2_with (first
        | ((with_reducible refine atS 32 ?_); go_must (refine wl_ex rfl (exec_loadUp _ rfl _ _ u HUO.out rfl (HUA.out)) ?_))
        | ((with_reducible refine atT 11 ?_); go_must (refine store_new (vs := upL u) (size66 HUO.out) (upL_one _) (by rw [upL_len HUO.out]; rfl) rfl _ _ rfl rfl rfl ?_); intro w7 hu7 hb7 hs7; have HB7 := thn HB hb7; have HZ7 := Lib.hid (HZ.out.below hb7); have HR7 := Lib.hid (HR.out.below hb7); have HO7 := Lib.hid (HO.out.below hb7); have HA7 := Lib.hid (HA.out.below hb7); have HU7 := Lib.hid hu7; have HG11 := Lib.hid (Nat.ne_of_gt HR.out.lt); have c7 := HU7.out.cell 0 (v := .int .u8 (u.kind : Int)) rfl; generalize wr.heap.size = g11 at hu7 hs7 HU7 HG11 c7 ⊢; clear hu7 hb7 hs7)
        | ((with_reducible refine atS 37 ?_); go_must (refine wl_ex rfl (exec_lookup _ _ rfl gm u.kind rfl rfl (.tuple #[.func (.func 75) #[] #[], .bool true]) (look_2 HA7.out HKD.out)) ?_))
        | ((with_reducible refine atS 44 ?_); go_must (refine wl_ex rfl (exec_loadUp _ rfl _ _ u HUO.out rfl (fun i v hv => by rw [Nat.zero_add]; exact HU7.out.cell i hv)) ?_))
        | (go_at_call 75; go_must (refine (act_ok (.inr (.inl ⟨rfl, rfl⟩)) HKD.out HR7.out HO7.out HM.out.1 HUO.out HG8.out HB7.out.size HE.out).mono ?_); rintro e w8 ⟨rfl, S8, hr8, ho8, hb8, hk8⟩; have HZ8 := Lib.hid (kept_row hk8 HO7.out HZ7.out HG6.out); have HA8 := Lib.hid (kept_acts hk8 HO7.out HR7.out HA7.out); have HU8 := Lib.hid (kept_row hk8 HO7.out HU7.out HG11.out); have HB8 := Lib.hid (HB7.out.trans hb8); have HR8 := Lib.hid hr8; have HO8 := Lib.hid ho8; clear hr8 ho8 hb8 hk8)
        | ((with_reducible refine atS 50 ?_); go_must (refine wl_ex rfl (exec_loadUp _ rfl _ _ u HUO.out rfl (fun i v hv => by rw [Nat.zero_add]; exact HU8.out.cell i hv)) ?_))
        | ((with_reducible refine atS 52 ?_); go_must (refine wl_ex rfl (exec_en _ _ rfl u HUO.out nn p HPE.out.symm rfl rfl) ?_))
        | (go_at_call 54; go_must (refine (log_put g8 w.heap.size S8 (oneR r' u).1 ⟨u, nn⟩ _ HR8.out HO8.out HUO.out HG8.out HB8.out.size (HO8.out.few HRO.out).2.2).mono ?_); rintro e w9 ⟨rfl, S9, hr9, ho9, hb9, hk9⟩; have HZ9 := Lib.hid (kept_row hk9 HO8.out HZ8.out HG6.out); have HA9 := Lib.hid (kept_acts hk9 HO8.out HR8.out HA8.out); have HB9 := Lib.hid (HB8.out.trans hb9); have HR9 := Lib.hid hr9; have HO9 := Lib.hid ho9; clear hr9 ho9 hb9 hk9))
       go_roundg (n - (i + 1))
       case measure => have := HG.out; have := HI.out; omega
       case rel => exact ⟨i + 1, S9, logF (oneR r' u).1 ⟨u, nn⟩, by go_num, by have := HI.out; omega, HB9, HZ9, HR9, HO9, HA9, Lib.hid ⟨HST.out, HM2.out⟩⟩
      ·obtain ⟨d, hd⟩ : ∃ d, (oneR r' u).2 = d := ⟨_, rfl⟩
       have HE := Lib.hid hd
       rw [hd] at hE
       have hE2 : ¬ (d : Int) = 0 := fun h => hE (Int.natCast_eq_zero.1 h)
       have hZ : Z = (noRefs, d) := by rw [← HM.out.2, HDR.out]; unfold applyF; rw [hd, if_neg hE]
       subst hZ
       clear hd
       go_wp2_with (first
        | ((with_reducible refine atS 32 ?_); go_must (refine wl_ex rfl (exec_loadUp _ rfl _ _ u HUO.out rfl (HUA.out)) ?_))
        | ((with_reducible refine atT 11 ?_); go_must (refine store_new (vs := upL u) (size66 HUO.out) (upL_one _) (by rw [upL_len HUO.out]; rfl) rfl _ _ rfl rfl rfl ?_); intro w7 hu7 hb7 hs7; have HB7 := thn HB hb7; have HZ7 := Lib.hid (HZ.out.below hb7); have HR7 := Lib.hid (HR.out.below hb7); have HO7 := Lib.hid (HO.out.below hb7); have HA7 := Lib.hid (HA.out.below hb7); have HU7 := Lib.hid hu7; have HG11 := Lib.hid (Nat.ne_of_gt HR.out.lt); have c7 := HU7.out.cell 0 (v := .int .u8 (u.kind : Int)) rfl; generalize wr.heap.size = g11 at hu7 hs7 HU7 HG11 c7 ⊢; clear hu7 hb7 hs7)
        | ((with_reducible refine atS 37 ?_); go_must (refine wl_ex rfl (exec_lookup _ _ rfl gm u.kind rfl rfl (.tuple #[.func (.func 75) #[] #[], .bool true]) (look_2 HA7.out HKD.out)) ?_))
        | ((with_reducible refine atS 44 ?_); go_must (refine wl_ex rfl (exec_loadUp _ rfl _ _ u HUO.out rfl (fun i v hv => by rw [Nat.zero_add]; exact HU7.out.cell i hv)) ?_))
        | (go_at_call 75; go_must (refine (act_no (.inr (.inl ⟨rfl, rfl⟩)) HKD.out HR7.out HO7.out HM.out.1 HUO.out HG8.out HB7.out.size HE.out).mono ?_); rintro e w8 ⟨rfl, hb8, hk8⟩; have HZ8 := Lib.hid (kept_row hk8 HO7.out HZ7.out HG6.out); have HA8 := Lib.hid (kept_acts hk8 HO7.out HR7.out HA7.out); have HU8 := Lib.hid (kept_row hk8 HO7.out HU7.out HG11.out); have HB8 := Lib.hid (HB7.out.trans hb8); clear hb8 hk8)
        | ((with_reducible refine atS 48 ?_); go_must (refine wl_ex rfl (exec_zrf rfl) ?_))
        | ((with_reducible refine atT 6 ?_); go_must (refine wl_store_rf (S := noS) (h := []) (a := zId) rfl HZ8.out (len36 rfl) rfl _ _ rfl rfl rfl ?_); intro wz hrz hgz; have HRz := Lib.hid hrz; have HGz := Lib.hid hgz; clear hrz hgz))
       refine bodyPost_ret (results_rf (S := noS) (h := []) (m := zId) rfl HRz.out rfl _ rfl) rfl ?_
       exact ⟨noS, rfl, RfOwn.noneOwn _ _, HB8.out.grown HGz.out HB8.out.size (fun k hk => by cases hk; omega)⟩
     by_cases h3 : u.kind = 3
     ·clear h1 h2
      have HKD : Hid (u.kind = 3) := Lib.hid h3
      clear h3
      by_cases hE : (oneR r' u).2 = 0
      ·have HE := Lib.hid hE
       have HRO := Lib.hid (oneR_right HM.out.1 hE).1
       have HST := Lib.hid (step_right HM.out.1 HNF.out hE)
       have HM2 : Hid (applyF nn (logF (oneR r' u).1 ⟨u, nn⟩) (L.drop (i + 1)) = Z) := Lib.hid (by rw [← HM.out.2, HDR.out]; show _ = if _ then _ else _; rw [if_pos hE])
       clear hE
       go_wp2_with (first
        | ((with_reducible refine atS 32 ?_); go_must (refine wl_ex rfl (exec_loadUp _ rfl _ _ u HUO.out rfl (HUA.out)) ?_))
        | ((with_reducible refine atT 11 ?_); go_must (refine store_new (vs := upL u) (size66 HUO.out) (upL_one _) (by rw [upL_len HUO.out]; rfl) rfl _ _ rfl rfl rfl ?_); intro w7 hu7 hb7 hs7; have HB7 := thn HB hb7; have HZ7 := Lib.hid (HZ.out.below hb7); have HR7 := Lib.hid (HR.out.below hb7); have HO7 := Lib.hid (HO.out.below hb7); have HA7 := Lib.hid (HA.out.below hb7); have HU7 := Lib.hid hu7; have HG11 := Lib.hid (Nat.ne_of_gt HR.out.lt); have c7 := HU7.out.cell 0 (v := .int .u8 (u.kind : Int)) rfl; generalize wr.heap.size = g11 at hu7 hs7 HU7 HG11 c7 ⊢; clear hu7 hb7 hs7)
        | ((with_reducible refine atS 37 ?_); go_must (refine wl_ex rfl (exec_lookup _ _ rfl gm u.kind rfl rfl (.tuple #[.func (.func 76) #[] #[], .bool true]) (look_3 HA7.out HKD.out)) ?_))
        | ((with_reducible refine atS 44 ?_); go_must (refine wl_ex rfl (exec_loadUp _ rfl _ _ u HUO.out rfl (fun i v hv => by rw [Nat.zero_add]; exact HU7.out.cell i hv)) ?_))
        | (go_at_call 76; go_must (refine (act_ok (.inr (.inr ⟨rfl, rfl⟩)) HKD.out HR7.out HO7.out HM.out.1 HUO.out HG8.out HB7.out.size HE.out).mono ?_); rintro e w8 ⟨rfl, S8, hr8, ho8, hb8, hk8⟩; have HZ8 := Lib.hid (kept_row hk8 HO7.out HZ7.out HG6.out); have HA8 := Lib.hid (kept_acts hk8 HO7.out HR7.out HA7.out); have HU8 := Lib.hid (kept_row hk8 HO7.out HU7.out HG11.out); have HB8 := Lib.hid (HB7.out.trans hb8); have HR8 := Lib.hid hr8; have HO8 := Lib.hid ho8; clear hr8 ho8 hb8 hk8)
        | ((with_reducible refine atS 50 ?_); go_must (refine wl_ex rfl (exec_loadUp _ rfl _ _ u HUO.out rfl (fun i v hv => by rw [Nat.zero_add]; exact HU8.out.cell i hv)) ?_))
        | ((with_reducible refine atS 52 ?_); go_must (refine wl_ex rfl (exec_en _ _ rfl u HUO.out nn p HPE.out.symm rfl rfl) ?_))
        | (go_at_call 54; go_must (refine (log_put g8 w.heap.size S8 (oneR r' u).1 ⟨u, nn⟩ _ HR8.out HO8.out HUO.out HG8.out HB8.out.size (HO8.out.few HRO.out).2.2).mono ?_); rintro e w9 ⟨rfl, S9, hr9, ho9, hb9, hk9⟩; have HZ9 := Lib.hid (kept_row hk9 HO8.out HZ8.out HG6.out); have HA9 := Lib.hid (kept_acts hk9 HO8.out HR8.out HA8.out); have HB9 := Lib.hid (HB8.out.trans hb9); have HR9 := Lib.hid hr9; have HO9 := Lib.hid ho9; clear hr9 ho9 hb9 hk9))
       go_roundg (n - (i + 1))
       case measure => have := HG.out; have := HI.out; omega
       case rel => exact ⟨i + 1, S9, logF (oneR r' u).1 ⟨u, nn⟩, by go_num, by have := HI.out; omega, HB9, HZ9, HR9, HO9, HA9, Lib.hid ⟨HST.out, HM2.out⟩⟩
      ·obtain ⟨d, hd⟩ : ∃ d, (oneR r' u).2 = d := ⟨_, rfl⟩
       have HE := Lib.hid hd
       rw [hd] at hE
       have hE2 : ¬ (d : Int) = 0 := fun h => hE (Int.natCast_eq_zero.1 h)
       have hZ : Z = (noRefs, d) := by rw [← HM.out.2, HDR.out]; unfold applyF; rw [hd, if_neg hE]
       subst hZ
       clear hd
       go_wp2_with (first
        | ((with_reducible refine atS 32 ?_); go_must (refine wl_ex rfl (exec_loadUp _ rfl _ _ u HUO.out rfl (HUA.out)) ?_))
        | ((with_reducible refine atT 11 ?_); go_must (refine store_new (vs := upL u) (size66 HUO.out) (upL_one _) (by rw [upL_len HUO.out]; rfl) rfl _ _ rfl rfl rfl ?_); intro w7 hu7 hb7 hs7; have HB7 := thn HB hb7; have HZ7 := Lib.hid (HZ.out.below hb7); have HR7 := Lib.hid (HR.out.below hb7); have HO7 := Lib.hid (HO.out.below hb7); have HA7 := Lib.hid (HA.out.below hb7); have HU7 := Lib.hid hu7; have HG11 := Lib.hid (Nat.ne_of_gt HR.out.lt); have c7 := HU7.out.cell 0 (v := .int .u8 (u.kind : Int)) rfl; generalize wr.heap.size = g11 at hu7 hs7 HU7 HG11 c7 ⊢; clear hu7 hb7 hs7)
        | ((with_reducible refine atS 37 ?_); go_must (refine wl_ex rfl (exec_lookup _ _ rfl gm u.kind rfl rfl (.tuple #[.func (.func 76) #[] #[], .bool true]) (look_3 HA7.out HKD.out)) ?_))
        | ((with_reducible refine atS 44 ?_); go_must (refine wl_ex rfl (exec_loadUp _ rfl _ _ u HUO.out rfl (fun i v hv => by rw [Nat.zero_add]; exact HU7.out.cell i hv)) ?_))
        | (go_at_call 76; go_must (refine (act_no (.inr (.inr ⟨rfl, rfl⟩)) HKD.out HR7.out HO7.out HM.out.1 HUO.out HG8.out HB7.out.size HE.out).mono ?_); rintro e w8 ⟨rfl, hb8, hk8⟩; have HZ8 := Lib.hid (kept_row hk8 HO7.out HZ7.out HG6.out); have HA8 := Lib.hid (kept_acts hk8 HO7.out HR7.out HA7.out); have HU8 := Lib.hid (kept_row hk8 HO7.out HU7.out HG11.out); have HB8 := Lib.hid (HB7.out.trans hb8); clear hb8 hk8)
        | ((with_reducible refine atS 48 ?_); go_must (refine wl_ex rfl (exec_zrf rfl) ?_))
        | ((with_reducible refine atT 6 ?_); go_must (refine wl_store_rf (S := noS) (h := []) (a := zId) rfl HZ8.out (len36 rfl) rfl _ _ rfl rfl rfl ?_); intro wz hrz hgz; have HRz := Lib.hid hrz; have HGz := Lib.hid hgz; clear hrz hgz))
       refine bodyPost_ret (results_rf (S := noS) (h := []) (m := zId) rfl HRz.out rfl _ rfl) rfl ?_
       exact ⟨noS, rfl, RfOwn.noneOwn _ _, HB8.out.grown HGz.out HB8.out.size (fun k hk => by cases hk; omega)⟩
     have HKN : Hid (¬ (u.kind = 1 ∨ u.kind = 2 ∨ u.kind = 3)) := Lib.hid (by omega)
     have hZ : Z = (noRefs, 1) := by rw [← HM.out.2, HDR.out]; unfold applyF oneR; rw [if_neg h1, if_neg h2, if_neg h3, if_neg (show ¬ (1 : Nat) = 0 by decide)]
     subst hZ
     clear h1 h2 h3
     go_wp2_with (first
      | ((with_reducible refine atS 32 ?_); go_must (refine wl_ex rfl (exec_loadUp _ rfl _ _ u HUO.out rfl (HUA.out)) ?_))
      | ((with_reducible refine atT 11 ?_); go_must (refine store_new (vs := upL u) (size66 HUO.out) (upL_one _) (by rw [upL_len HUO.out]; rfl) rfl _ _ rfl rfl rfl ?_); intro w7 hu7 hb7 hs7; have HB7 := thn HB hb7; have HZ7 := Lib.hid (HZ.out.below hb7); have HR7 := Lib.hid (HR.out.below hb7); have HO7 := Lib.hid (HO.out.below hb7); have HA7 := Lib.hid (HA.out.below hb7); have HU7 := Lib.hid hu7; have HG11 := Lib.hid (Nat.ne_of_gt HR.out.lt); have c7 := HU7.out.cell 0 (v := .int .u8 (u.kind : Int)) rfl; generalize wr.heap.size = g11 at hu7 hs7 HU7 HG11 c7 ⊢; clear hu7 hb7 hs7)
      | ((with_reducible refine atS 37 ?_); obtain ⟨v, hv⟩ := look_none HA7.out HUO.out.1 HKN.out; go_must (refine wl_ex rfl (exec_lookup _ _ rfl gm u.kind rfl rfl (.tuple #[v, .bool false]) hv) ?_))
      | ((with_reducible refine atS 42 ?_); go_must (refine wl_ex rfl (exec_zrf rfl) ?_))
      | ((with_reducible refine atT 6 ?_); go_must (refine wl_store_rf (S := noS) (h := []) (a := zId) rfl HZ7.out (len36 rfl) rfl _ _ rfl rfl rfl ?_); intro wz hrz hgz; have HRz := Lib.hid hrz; have HGz := Lib.hid hgz; clear hrz hgz))
     refine bodyPost_ret (results_rf (S := noS) (h := []) (m := zId) rfl HRz.out rfl _ rfl) rfl ?_
     exact ⟨noS, rfl, RfOwn.noneOwn _ _, HB7.out.grown HGz.out HB7.out.size (fun k hk => by cases hk; omega)⟩
    ·have hZ : Z = (r', 0) := by rw [← HM.out.2, List.drop_of_length_le (by have := HLN.out; omega)]; rfl
     subst hZ
     clear hg
     go_wp2_with (first
      | ((with_reducible refine atS 55 ?_); go_must (refine wl_ex rfl (exec_loadRf _ rfl _ S' r'.head r'.at_ HO.out.at_ rfl HR.out) ?_))
      | ((with_reducible refine atT 6 ?_); go_must (refine wl_store_rf (S := S') (h := r'.head) (a := r'.at_) HO.out.at_ HZ.out (len36 rfl) rfl _ _ rfl rfl rfl ?_); intro wz hrz hgz; have HRz := Lib.hid hrz; have HGz := Lib.hid hgz; clear hrz hgz))
     refine bodyPost_ret (results_rf HO.out.at_ HRz.out rfl _ rfl) rfl ?_
     refine ⟨S', rfl, ⟨HO.out.holds.grownOut HGz.out NEr HZ.out, HO.out.okb, HO.out.okg, HO.out.okl, HO.out.at_⟩, HB.out.grown HGz.out HB.out.size (fun k hk => by cases hk; omega)⟩
end Go.Proofs.YthihmlojdopmfaaDoor
