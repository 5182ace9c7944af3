/-
 The walk of of: the program's refs as the document's (told's text, turned round by names).
-/
import Derived.Test.YthihmlojdopmfaaDoorGrp13
import Derived.Test.YthihmlojdopmfaaDoorGrp1
namespace Go.Proofs.YthihmlojdopmfaaDoor
open Go.RowKit
namespace Of
abbrev ONEf : TypeId := 54
abbrev OREf : TypeId := 27
structure RfOwn (w : World) (base : Nat) (S : RfS) (r : RefsV) : Prop where
 holds : Holds w base [hG rnK ONEf (.slice S.ab S.nb S.cb) r.br, hG rnK ONEf (.slice S.ag S.ng S.cg) r.tg, hG enK EEf (.slice S.al S.nl S.cl) r.log]
 okb : ∀ x ∈ r.br, rnK.ok x
 okg : ∀ x ∈ r.tg, rnK.ok x
 okl : ∀ x ∈ r.log, enK.ok x
 at_ : r.at_.length = 32
section
variable {w w' : World} {base : Nat} {S : RfS} {r : RefsV}
theorem RfOwn.br (h : RfOwn w base S r) : OwnG rnK ONEf w base (.slice S.ab S.nb S.cb) r.br := ⟨h.holds.own (hG rnK ONEf (.slice S.ab S.nb S.cb) r.br) (by simp), h.okb⟩
end
section
variable {w w' : World} {base : Nat} {S : RfS} {r : RefsV}
theorem RfOwn.tg (h : RfOwn w base S r) : OwnG rnK ONEf w base (.slice S.ag S.ng S.cg) r.tg := ⟨h.holds.own (hG rnK ONEf (.slice S.ag S.ng S.cg) r.tg) (by simp), h.okg⟩
end
section
variable {w w' : World} {base : Nat} {S : RfS} {r : RefsV}
theorem RfOwn.log (h : RfOwn w base S r) : OwnG enK EEf w base (.slice S.al S.nl S.cl) r.log := ⟨h.holds.own (hG enK EEf (.slice S.al S.nl S.cl) r.log) (by simp), h.okl⟩
end
section
variable {w w' : World} {base : Nat} {S : RfS} {r : RefsV}
theorem RfOwn.inn (h : RfOwn w base S r) : RfIn w S r := ⟨h.br.atG, h.tg.atG, h.log.atG, h.at_⟩
end
section
variable {w w' : World} {base : Nat} {S : RfS} {r : RefsV}
theorem RfOwn.below (h : RfOwn w base S r) (hb : Below w.heap.size w w') : RfOwn w' base S r := ⟨h.holds.below hb, h.okb, h.okg, h.okl, h.at_⟩
end
section
variable {w w' : World} {base : Nat} {S : RfS} {r : RefsV}
theorem RfOwn.mono {base' : Nat} (h : RfOwn w base S r) (hb : base' ≤ base) : RfOwn w base' S r := ⟨h.holds.mono hb, h.okb, h.okg, h.okl, h.at_⟩
end
theorem infoNf : (Tryd.prog.info? ONEf).map (fun i => (i.zero, i.size, i.bytes)) = some (some (.agg (rnL ([], zId)).toArray), 33, 48) := by kernel_rfl
theorem sizeNf : (Value.agg (rnL ([], zId)).toArray).cells.size = rnK.k := by kernel_rfl
theorem built_rn (s l : List UInt8) (hl : l.length = 32) : Tryd.prog.built ONEf [(0, .string (strB s)), (1, .agg (idCells l))] = some (rnL (s, l)).toArray := by
 obtain ⟨b0, b1, b2, b3, b4, b5, b6, b7, b8, b9, b10, b11, b12, b13, b14, b15, b16, b17, b18, b19, b20, b21, b22, b23, b24, b25, b26, b27, b28, b29, b30, b31, rfl⟩ := list32 hl
 kernel_rfl
theorem exec_rn {w : World} {o : Oper} {a : Act} (x0 x1 : Operand) (ho : o.op = .build ONEf #[(0, x0), (1, x1)]) (s l : List UInt8) (hl : l.length = 32) (p : ByteArray) (hp : p = strB s)
  (h0 : a.eval x0 = .string p) (h1 : a.eval x1 = .agg (idCells l)) : (execOp a.eval o).run Tryd.prog w = .ok (.value (.agg (rnL (s, l)).toArray)) w := by
 subst hp
 refine exec_build _ _ ho _ ?_
 have e : (#[(0, x0), (1, x1)].map fun (q : Nat × Operand) => (q.1, a.eval q.2)).toList = [(0, .string (strB s)), (1, .agg (idCells l))] := by simp [h0, h1]
 exact (congrArg _ e).trans (built_rn s l hl)
theorem fill_rn (x : RName) (hx : x.2.length = 32) (z : Value) (hz : z = .agg (rnL ([], zId)).toArray) : Instr.fill (fun i => some (i * 33, 33)) ((Array.range (1 * 33)).map (z.cells[· % z.cells.size]!)) [(0, .agg (rnL x).toArray)] = some (rnL x).toArray := by
 subst hz
 obtain ⟨s, l⟩ := x
 obtain ⟨b0, b1, b2, b3, b4, b5, b6, b7, b8, b9, b10, b11, b12, b13, b14, b15, b16, b17, b18, b19, b20, b21, b22, b23, b24, b25, b26, b27, b28, b29, b30, b31, rfl⟩ := list32 hx
 kernel_rfl
section
variable {w w' : World} {base g : Nat} {S : RfS} {r : RefsV} {L : List RName} {a' : Option Addr} {n' c' : Nat}
theorem NErf : ONEf ≠ OREf := by decide
end
section
variable {w w' : World} {base g : Nat} {S : RfS} {r : RefsV} {L : List RName} {a' : Option Addr} {n' c' : Nat}
theorem EErf : EEf ≠ OREf := by decide
end
section
variable {w w' : World} {base g : Nat} {S : RfS} {r : RefsV} {L : List RName} {a' : Option Addr} {n' c' : Nat}
theorem holds_setBox {cs : List Value} {Hs : List Hold} (h : Holds w base Hs) (hR : RowAt w g OREf cs) (hE : ∀ x ∈ Hs, x.E ≠ OREf) (o : Nat) (v : Value) : Holds (w.setCell ⟨g, o, none⟩ v) base Hs := by
 refine ⟨fun x hx => ?_, h.two⟩
 obtain ⟨h1, h2⟩ := h.own x hx
 refine ⟨h1, ?_⟩
 rcases h2 with h2 | ⟨b, cap, cur, hv, hb, hh, r⟩
 ·exact .inl h2
 ·refine .inr ⟨b, cap, cur, hv, hb, ?_, r⟩
  have hne : b ≠ g := fun e => by
   subst e
   unfold RowAt at hR
   rw [hh] at hR
   simp only [Option.some.injEq, Obj.cells.injEq] at hR
   exact hE x hx hR.2.1
  rw [Below.heap_setCell _ _ _ _ hne]; exact hh
end
section
variable {w w' : World} {base g : Nat} {S : RfS} {r : RefsV} {L : List RName} {a' : Option Addr} {n' c' : Nat}
theorem putBr {cs : List Value} (h : RfOwn w base S r) (hg : w.grownBy w' (Value.slice S.ab S.nb S.cb).ownBlock) (ho : OwnG rnK ONEf w' base (.slice a' n' c') L) (ht : Told w (.slice S.ab S.nb S.cb) (.slice a' n' c')) (hR : RowAt w' g OREf cs) :
  RfOwn (w'.setCell ⟨g, 0, none⟩ (.slice a' n' c')) base { S with ab := a', nb := n', cb := c' } { r with br := L } := by
 have H := h.holds.put (h' := hG rnK ONEf (.slice a' n' c') L) hg ho.1 ht
 exact ⟨holds_setBox H hR (fun x hx => by simp only [List.mem_cons, List.not_mem_nil, or_false] at hx; rcases hx with rfl | rfl | rfl <;> first | exact NErf | exact EErf) _ _, ho.2, h.okg, h.okl, h.at_⟩
end
section
variable {w w' : World} {base g : Nat} {S : RfS} {r : RefsV} {L : List RName} {a' : Option Addr} {n' c' : Nat}
theorem putTg {cs : List Value} (h : RfOwn w base S r) (hg : w.grownBy w' (Value.slice S.ag S.ng S.cg).ownBlock) (ho : OwnG rnK ONEf w' base (.slice a' n' c') L) (ht : Told w (.slice S.ag S.ng S.cg) (.slice a' n' c')) (hR : RowAt w' g OREf cs) :
  RfOwn (w'.setCell ⟨g, 1, none⟩ (.slice a' n' c')) base { S with ag := a', ng := n', cg := c' } { r with tg := L } := by
 have H := ((h.holds.perm (List.Perm.swap _ _ _)).put (h' := hG rnK ONEf (.slice a' n' c') L) hg ho.1 ht).perm (List.Perm.swap _ _ _)
 exact ⟨holds_setBox H hR (fun x hx => by simp only [List.mem_cons, List.not_mem_nil, or_false] at hx; rcases hx with rfl | rfl | rfl <;> first | exact NErf | exact EErf) _ _, h.okb, ho.2, h.okl, h.at_⟩
end
section
variable {w w' : World} {base g : Nat} {S : RfS} {r : RefsV}
theorem NEr (x : Hold) (hx : x ∈ [hG rnK ONEf (.slice S.ab S.nb S.cb) r.br, hG rnK ONEf (.slice S.ag S.ng S.cg) r.tg, hG enK EEf (.slice S.al S.nl S.cl) r.log]) : x.E ≠ OREf := by
 simp only [List.mem_cons, List.not_mem_nil, or_false] at hx
 rcases hx with rfl | rfl | rfl <;> first | exact NErf | exact EErf
end
section
variable {w w' : World} {base g : Nat} {S : RfS} {r : RefsV}
theorem rf_steps : ∀ (vs : List Value) (o : Nat) {w : World} {cs : List Value}, RowAt w g OREf cs → RfOwn w base S r → RowAt (w.setCells g o vs) g OREf (putL cs o vs) ∧ RfOwn (w.setCells g o vs) base S r
 | [], _, _, _, h, h' => ⟨h, h'⟩
 | v :: vs, o, _, _, h, h' => rf_steps vs (o + 1) (h.set o v) ⟨holds_setBox h'.holds h NEr o v, h'.okb, h'.okg, h'.okl, h'.at_⟩
end
section
variable {w w' : World} {base g : Nat} {S : RfS} {r : RefsV}
theorem row_there {cs : List Value} (h : RowAt w g OREf cs) (o n : Nat) (hn : o + n ≤ cs.length) : w.there g o n := fun j hj => ⟨by rw [h.cell (o + j) (List.getElem?_eq_getElem (by omega))]; rfl, h.free _⟩
end
section
variable {w w' : World} {base g : Nat} {S : RfS} {r : RefsV} {L : List EntV} {a' : Option Addr} {n' c' : Nat}
theorem putLog {cs : List Value} (h : RfOwn w base S r) (hg : w.grownBy w' (Value.slice S.al S.nl S.cl).ownBlock) (ho : OwnG enK EEf w' base (.slice a' n' c') L) (ht : Told w (.slice S.al S.nl S.cl) (.slice a' n' c')) (hR : RowAt w' g OREf cs) :
  RfOwn (w'.setCell ⟨g, 35, none⟩ (.slice a' n' c')) base { S with al := a', nl := n', cl := c' } { r with log := L } := by
 have H := ((h.holds.perm (perm_log _ _ _)).put (h' := hG enK EEf (.slice a' n' c') L) hg ho.1 ht).perm (perm_log _ _ _).symm
 exact ⟨holds_setBox H hR (fun x hx => by simp only [List.mem_cons, List.not_mem_nil, or_false] at hx; rcases hx with rfl | rfl | rfl <;> first | exact NErf | exact EErf) _ _, h.okb, h.okg, ho.2, h.at_⟩
end
theorem wl_store_rf {S : RfS} {h a : List UInt8} (ha : a.length = 32) {w : World} {g : Nat} {us : List Value} (hR : RowAt w g OREf us) (hl : us.length = 36) {ops : Array Oper} {rest : List Oper} {o : Oper} {ac : Act} {Q : Exit → Act → World → Prop} (hgd : o.guard = none) (x y : Operand) (ho : o.op = .store OREf x y)
  (hx : ac.eval x = .pointer (some ⟨g, 0, none⟩)) (hy : ac.eval y = .agg (rfC S h a))
  (hQ : ∀ W, RowAt W g OREf (rfL S h a) → w.grownBy W (some g) → wpList Tryd.prog ops Q rest (ac.put o.dst undef) W) : wpList Tryd.prog ops Q (o :: rest) ac w := by
 have hs : (rfC S h a).size = 36 := by unfold rfC; rw [List.size_toArray]; exact rfL_len ha
 have hk : (Tryd.prog.info? OREf).map (·.size) = some (rfC S h a).size := by rw [hs]; kernel_rfl
 refine wpList_store_row hgd OREf x y ho g (rfC S h a) hx hy OREf us.toArray hR hk (by rw [hs]; simpa using hl) ?_ (hQ _ (setRow_heap _ _ us.toArray (rfC S h a) _ _ hR) ?_)
 ·rw [Array.all_eq_true_iff_forall_mem]
  intro v hv
  exact rfL_one S h a v (by simpa [rfC] using hv)
 ·refine ⟨rfl, rfl, rfl, by simp [World.setRow], fun k hk hne => ?_⟩
  unfold World.setRow
  rw [Array.getElem?_modify, if_neg (fun e => hne (by rw [e]))]
section
variable {w w' : World} {base g k : Nat} {S : RfS} {r : RefsV} {E : TypeId} {cs us : List Value}
theorem RfOwn.noneOwn (w : World) (base : Nat) : RfOwn w base noS noRefs := ⟨⟨fun x hx => by
  simp only [List.mem_cons, List.not_mem_nil, or_false] at hx
  rcases hx with rfl | rfl | rfl <;> exact World.ownsRow_nil _ _ _ _, by simp [Apart, noS, noRefs, Value.ownBlock]⟩, (fun _ h => by cases h), (fun _ h => by cases h), (fun _ h => by cases h), rfl⟩
end
theorem size36 {S : RfS} {h a : List UInt8} (ha : a.length = 32) : (Tryd.prog.info? OREf).map (·.size) = some (rfL S h a).length := by rw [rfL_len ha]; kernel_rfl
theorem exec_loadRf {w : World} {o : Oper} {a : Act} (x : Operand) (ho : o.op = .load OREf x) (b : Nat) (S : RfS) (h m : List UInt8) (hm : m.length = 32) (hx : a.eval x = .pointer (some ⟨b, 0, none⟩)) (hc : RowAt w b OREf (rfL S h m)) :
  (execOp a.eval o).run Tryd.prog w = .ok (.value (.agg (rfC S h m))) w := by
 have hr := run_loadVar_mid (P := Tryd.prog) w b 0 OREf (rfL S h m) _ (fun i v hv => by rw [Nat.zero_add]; exact RowAt.cell hc i hv) Tryd.underlying27 rfl (size36 hm)
 unfold execOp
 simp only [ho, hx, Instr.loadAt, Instr.sureAddr, Sem.run_bind, Sem.run_pure, Result.andThen_ok, hr]
 rfl
theorem zeroRf (w : World) : (zeroValue OREf).run Tryd.prog w = .ok (.agg (rfC noS [] zId)) w := by kernel_rfl
theorem run_alloc_rf (w : World) : (Instr.alloc OREf true (.tuple #[])).run Tryd.prog w = .ok (.pointer (some ⟨w.heap.size, 0, none⟩)) (w.alloc (.cells (rfC noS [] zId) OREf)) := by
 have h := zeroRf w
 unfold Instr.alloc
 simp only [Sem.run_bind, h, Result.andThen_ok]
 rfl
theorem wp_alloc_rf {o : Oper} {a : Act} {w : World} {K : Act → World → Prop} {Q : Exit → Act → World → Prop} (ho : o.op = .alloc OREf)
  (h : ∀ w1, RowAt w1 w.heap.size OREf (rfL noS [] zId) → Below w.heap.size w w1 → K (a.put o.dst (.pointer (some ⟨w.heap.size, 0, none⟩))) w1) : o.wp Tryd.prog a w K Q := by
 have hr : (execOp a.eval o).run Tryd.prog w = .ok (.value (.pointer (some ⟨w.heap.size, 0, none⟩))) (w.alloc (.cells (rfC noS [] zId) OREf)) := by
  unfold execOp
  simp only [ho, Sem.run_bind, run_alloc_rf, Result.andThen_ok, Sem.run_pure]
 unfold Oper.wp
 rw [hr]
 exact h _ (heap_alloc_new w _) ((Below.refl _ _).alloc (Nat.le_refl _) _)
theorem alloc_rf {ops : Array Oper} {rest : List Oper} {o : Oper} {a : Act} {w : World} {Q : Exit → Act → World → Prop} (hg : o.guard = none) (ho : o.op = .alloc OREf)
  (h : ∀ w1, RowAt w1 w.heap.size OREf (rfL noS [] zId) → Below w.heap.size w w1 → wpList Tryd.prog ops Q rest (a.put o.dst (.pointer (some ⟨w.heap.size, 0, none⟩))) w1) : wpList Tryd.prog ops Q (o :: rest) a w :=
 wpList_plain hg fun _ hK => wp_alloc_rf ho fun w1 h1 h2 => hK _ _ (h w1 h1 h2)
theorem wp_app_rn {o : Oper} {a : Act} {w : World} {K : Act → World → Prop} {Q : Exit → Act → World → Prop} (s x : Operand) (ho : o.op = .call { callee := .builtin .append, args := #[s, x], argTypes := #[22, 22] })
  (base : Nat) (v : Value) (l : List RName) (hs : a.eval s = v) (hown : OwnG rnK ONEf w base v l) (sa : Option Addr) (X : RName) (hx : a.eval x = .slice sa 1 1) (hsrc : AtG rnK w sa 1 1 [X]) (hl : l.length ≤ 1000000) (hbase : base ≤ w.heap.size) (m : Nat) (hm : m = l.length + 1)
  (h : ∀ a' c' w', OwnG rnK ONEf w' base (.slice a' m c') (l ++ [X]) → w.grownBy w' v.ownBlock → Told w v (.slice a' m c') → K (a.put o.dst (.slice a' m c')) w') : o.wp Tryd.prog a w K Q := by
 subst hm
 obtain ⟨a', c', w', hrun, h1, h2, h3⟩ := run_appG_told rnK o.type Tryd.underlying22 infoNf sizeNf w base v l hown sa 1 1 [X] hsrc (by omega) hbase _ rfl
 exact Lib.wp_append_run _ s x _ _ ho _ _ hs hx _ _ hrun (h a' c' w' h1 h2 h3)
theorem wp_sl_rn {o : Oper} {a : Act} {w : World} {K : Act → World → Prop} {Q : Exit → Act → World → Prop} (x : Operand) (ho : o.op = .buildSlice 22 1 #[(0, x)]) (X : RName) (hX : X.2.length = 32) (hx : a.eval x = .agg (rnL X).toArray)
  (h : K (a.put o.dst (.slice (some ⟨w.heap.size, 0, none⟩) 1 1)) (w.alloc (.cells (rnL X).toArray ONEf))) : o.wp Tryd.prog a w K Q := by
 obtain ⟨i0, hi, hz0, hz1, hz2⟩ := info_parts infoNf
 refine wp_buildSlice 22 ONEf 1 #[(0, x)] ho (rnL X).toArray i0 _ Tryd.underlying22 hi hz0 (by rw [hz1]; decide) (by rw [hz1]; decide) ?_ h
 rw [hz1]
 have e : (#[(0, x)].map fun (p : Nat × Operand) => (p.1, a.eval p.2)).toList = [(0, .agg (rnL X).toArray)] := by simp [hx]
 exact (congrArg (Instr.fill (fun i => some (i * 33, 33)) _) e).trans (fill_rn X hX _ rfl)
theorem rfOwn_hd {w : World} {base : Nat} {S : RfS} {b t : List RName} {l : List EntV} {h h' m m' : List UInt8} (H : RfOwn w base S ⟨b, t, h, m, l⟩) (hm : m'.length = 32) : RfOwn w base S ⟨b, t, h', m', l⟩ := ⟨H.holds, H.okb, H.okg, H.okl, hm⟩
set_option maxRecDepth 100000 in
set_option maxHeartbeats 8000000 in
theorem of_any (S : RfS) (r : RefsV) (w : World) (h : RfIn w S r) (hn : RfFew S) :
  Calls Tryd.prog 11 #[.agg (rfC S r.head r.at_)] w fun e w' => ∃ S', e = .returned (.agg (rfC S' r.head r.at_)) ∧ RfOwn w' w.heap.size S' r ∧ Below w.heap.size w w' := by
 have HAT := Lib.hid h.at_
 have HIN := Lib.hid h
 have HFW := Lib.hid hn
 have hbI : (S.nb : Int) ≤ 100000 := by have := hn.1; omega
 have hgI : (S.ng : Int) ≤ 100000 := by have := hn.2.1; omega
 have HB0 := Lib.hid ((Below.refl w.heap.size w).alloc (Nat.le_refl _) (.cells (rfC S r.head r.at_) REf))
 have HR0 := Lib.hid (show RowAt (w.alloc (.cells (rfC S r.head r.at_) REf)) w.heap.size REf (rfL S r.head r.at_) from heap_alloc_new w _)
 obtain ⟨p, hp⟩ : ∃ p, strB r.head = p := ⟨_, rfl⟩
 have HPE := Lib.hid hp
 have HC2 := Lib.hid (fun W (hh : RowAt W w.heap.size REf (rfL S r.head r.at_)) => (hp ▸ rf_hd hh : W.cell? ⟨w.heap.size, 2, none⟩ = some (.string p)))
 clear h hn hp
 go_enter Tryd.func11, Tryd.ntmps11
 go_wp2_with (first
  | ((with_reducible refine atS 2 ?_); go_must (refine alloc_rf rfl rfl ?_); intro w2 hz hb; have HB2 := thn HB0 hb; have HR2 := Lib.hid (HR0.out.below hb); clear hb; have HY2 := Lib.hid hz; have HG2 : Hid (w.heap.size < (w.alloc (.cells (rfC S r.head r.at_) REf)).heap.size) := Lib.hid HR0.out.lt; generalize (w.alloc (.cells (rfC S r.head r.at_) REf)).heap.size = g2 at hz HY2 HG2 ⊢; clear hz)
  | ((with_reducible refine atS 3 ?_); go_must (refine alloc_rf rfl rfl ?_); intro w3 hz hb; have HB3 := thn HB2 hb; have HR3 := Lib.hid (HR2.out.below hb); have HY3 := Lib.hid (HY2.out.below hb); have HZ3 := Lib.hid hz; have HG3 : Hid (w.heap.size < w2.heap.size ∧ g2 ≠ w2.heap.size) := Lib.hid ⟨HR2.out.lt, Nat.ne_of_lt HY2.out.lt⟩; clear hb; generalize w2.heap.size = g3 at hz HZ3 HG3 ⊢; clear hz; have c30 := rf_br HR3.out))
 go_loopg [4] S.nb (fun g v4 W => ∃ (i : Nat) (S' : RfS), v4 = .int .i64 i ∧ g + i = S.nb ∧ Hid (Below w.heap.size w W) ∧ Hid (RowAt W w.heap.size REf (rfL S r.head r.at_)) ∧ Hid (RowAt W g2 OREf (rfL noS [] zId)) ∧ Hid (RowAt W g3 OREf (rfL S' [] zId)) ∧ Hid (RfOwn W w.heap.size S' ⟨r.br.take i, [], [], zId, []⟩))
 case atStart => exact ⟨0, noS, rfl, rfl, HB3, HR3, HY3, HZ3, Lib.hid (RfOwn.noneOwn _ _)⟩
 case round =>
  obtain ⟨i, S', rfl, hg, HB, HR, HY, HZ, HO⟩ := hrel
  have HG := Lib.hid hg
  have hi0 : (0 : Int) ≤ (i : Int) := by omega
  have hiI : (i : Int) ≤ (S.nb : Int) := by omega
  have hcR := rf_br HR.out
  by_cases hi : (i : Int) < (S.nb : Int)
  ·have hin : i < S.nb := by omega
   have HI := Lib.hid hin
   obtain ⟨b, o, hab⟩ := HIN.out.br.some_ (show 0 < S.nb by omega)
   have hat := HIN.out.br
   rw [hab] at hat
   have hLn : r.br.length = S.nb := HIN.out.br.1
   obtain ⟨X, hX⟩ : ∃ X, X = gd r.br i := ⟨_, rfl⟩
   have HXO : Hid (X.2.length = 32) := Lib.hid (hX ▸ HIN.out.br.ok hin)
   obtain ⟨y, hy⟩ : ∃ y, strB X.1 = y := ⟨_, rfl⟩
   have HYE := Lib.hid hy
   have HCN := Lib.hid (fun W (hW : Below w.heap.size w W) => (hy ▸ hX ▸ rn_name (hat.below hW) hin : W.cell? ⟨b, o + i * 33, none⟩ = some (.string y)))
   have HCI := Lib.hid (fun W (hW : Below w.heap.size w W) => (hX ▸ rn_id (hat.below hW) hin : W.rangeAt b (o + i * 33 + 1) (X.2.map B)))
   have HTK : Hid (r.br.take (i + 1) = r.br.take i ++ [X]) := Lib.hid (by rw [hX]; exact take_gd (by rw [hLn]; exact hin))
   have HTL : Hid ((r.br.take i).length = i) := Lib.hid (by rw [List.length_take, hLn]; omega)
   have HLB : Hid (i ≤ 1000000) := Lib.hid (by omega)
   rw [hab] at hcR
   have HSR := Lib.hid (fun W (hh : RowAt W w.heap.size REf (rfL S r.head r.at_)) => (by have := rf_br hh; rw [hab] at this; exact this : W.cell? ⟨w.heap.size, 0, none⟩ = some (.slice (some ⟨b, o, none⟩) S.nb S.cb)))
   have HAB := Lib.hid hab
   clear hg hX hy hab hat hLn
   go_wp2
   refine wp_region_held_drew (S := fun W => Below w.heap.size w W ∧ RowAt W w.heap.size REf (rfL S r.head r.at_)) (by kernel_rfl) ⟨HB.out.drew, HR.out⟩ (fun hHeld => ?_)
   have HB4 : Hid (Below w.heap.size w wr.drew) := Lib.hid HB.out.drew
   have HR4 : Hid (RowAt wr.drew w.heap.size REf (rfL S r.head r.at_)) := Lib.hid HR.out
   have HY4 : Hid (RowAt wr.drew g2 OREf (rfL noS [] zId)) := Lib.hid HY.out
   have HZ4 : Hid (RowAt wr.drew g3 OREf (rfL S' [] zId)) := Lib.hid HZ.out
   have HO4 : Hid (RfOwn wr.drew w.heap.size S' ⟨r.br.take i, [], [], zId, []⟩) := Lib.hid (HO.out.below (Below.refl _ _).drew)
   clear HB HR HY HZ HO hcR
   refine tk 0 (mo 13 (.fieldAddr 27 (.tmp 3) 0)) (.pointer (some ⟨g3, 0, none⟩)) rfl ?_
   refine tk 2 (mo 15 (.fieldAddr 35 (.tmp 1) 0)) (.pointer (some ⟨w.heap.size, 0, none⟩)) rfl ?_
   refine tk 3 (mo 16 (.load 33 (.tmp 15))) (.slice (some ⟨b, o, none⟩) S.nb S.cb) rfl ?_ (Or.inl ⟨by rfl, fun W hW => by have hcell := HSR.out W hW.2; go_simp⟩)
   refine tk 4 (mo 17 (.move (.tmp 4))) (.int .i64 (i : Nat)) rfl ?_
   refine tk 5 (mo 18 (.indexAddr 33 (.tmp 16) (.tmp 17))) (.pointer (some ⟨b, o + i * 33, none⟩)) rfl ?_
   refine tk 6 (mo 19 (.fieldAddr 55 (.tmp 18) 0)) (.pointer (some ⟨b, o + i * 33, none⟩)) rfl ?_
   refine tk 7 (mo 20 (.load 9 (.tmp 19))) (.string y) rfl ?_ (Or.inl ⟨by rfl, fun W hW => by have hcell := HCN.out W hW.1; go_simp⟩)
   refine tk 8 (mo 21 (.fieldAddr 35 (.tmp 1) 0)) (.pointer (some ⟨w.heap.size, 0, none⟩)) rfl ?_
   refine tk 9 (mo 22 (.load 33 (.tmp 21))) (.slice (some ⟨b, o, none⟩) S.nb S.cb) rfl ?_ (Or.inl ⟨by rfl, fun W hW => by have hcell := HSR.out W hW.2; go_simp⟩)
   refine tk 10 (mo 23 (.move (.tmp 4))) (.int .i64 (i : Nat)) rfl ?_
   refine tk 11 (mo 24 (.indexAddr 33 (.tmp 22) (.tmp 23))) (.pointer (some ⟨b, o + i * 33, none⟩)) rfl ?_
   refine tk 12 (mo 25 (.fieldAddr 55 (.tmp 24) 1)) (.pointer (some ⟨b, o + i * 33 + 1, none⟩)) rfl ?_
   refine tk 13 (mo 26 (.load 24 (.tmp 25))) (.agg (idCells X.2)) rfl ?_ (Or.inl ⟨by rfl, fun W hW => exec_loadId _ rfl _ _ X.2 HXO.out rfl (HCI.out W hW.1)⟩)
   refine tk 14 (mo 27 (.build 54 #[(0, (.tmp 20)), (1, (.tmp 26))])) (.agg (rnL X).toArray) rfl ?_ (Or.inl ⟨by rfl, fun W hW => exec_rn _ _ rfl X.1 X.2 HXO.out y HYE.out.symm rfl rfl⟩)
   refine rdH [1, 15] ?_
   refine AllReadyH.cons (o := ⟨some 14, .load 22 (.tmp 13), _, _, _, _⟩) rfl (fun K hK => ?_) (AllReadyH.cons (o := ⟨some 28, .buildSlice 22 1 #[(0, (.tmp 27))], _, _, _, _⟩) rfl (fun K hK => ?_) AllReadyH.nil)
   ·have hcell := rf_br HZ4.out
    go_simp
    clear hcell
    refine hK.out _ _ ⟨HB4.out, HR4.out⟩ (fun hHeld => ?_)
    clear hK K
    refine rdH [15] ?_
    refine AllReadyH.cons (o := ⟨some 28, .buildSlice 22 1 #[(0, (.tmp 27))], _, _, _, _⟩) rfl (fun K hK => ?_) AllReadyH.nil
    refine ready_step (wp_sl_rn _ rfl X HXO.out rfl ?_)
    have hb := (Below.refl wr.drew.heap.size wr.drew).alloc (Nat.le_refl _) (.cells (rnL X).toArray ONEf)
    have HB5 := thn HB4 hb
    have HR5 := Lib.hid (HR4.out.below hb)
    have HY5 := Lib.hid (HY4.out.below hb)
    have HZ5 := Lib.hid (HZ4.out.below hb)
    have HO5 := Lib.hid (HO4.out.below hb)
    have HV5 := Lib.hid (oneG (K := rnK) wr.drew X HXO.out ONEf (rnL X).toArray rfl)
    clear hb
    generalize wr.drew.alloc (.cells (rnL X).toArray ONEf) = w5 at HB5 HR5 HY5 HZ5 HO5 HV5 ⊢
    generalize wr.drew.heap.size = gv at HV5 ⊢
    refine hK.out _ _ ⟨HB5.out, HR5.out⟩ (fun hHeld => ?_)
    clear hK K
    refine rdH [16] ?_
    refine AllReadyH.cons (o := ⟨some 29, .call { callee := .builtin .append, args := #[(.tmp 14), (.tmp 28)], argTypes := #[22, 22] }, _, _, _, _⟩) rfl (fun K hK => ?_) AllReadyH.nil
    refine ready_step (wp_app_rn _ _ rfl w.heap.size _ (r.br.take i) rfl HO5.out.br _ X rfl HV5.out (by rw [HTL.out]; exact HLB.out) HB5.out.size (i + 1) (by rw [HTL.out]) ?_)
    intro a6 c6 w6 ho hg ht
    have HB6 := Lib.hid (HB5.out.grown hg HB5.out.size (fun k hk => (HO5.out.br.lt k hk).1))
    have HR6 := Lib.hid (HR5.out.grown hg (row_ne HR5.out HO5.out.br.1))
    have HY6 := Lib.hid (HY5.out.grown hg (row_ne HY5.out HO5.out.br.1))
    have HZ6 := Lib.hid (HZ5.out.grown hg (row_ne HZ5.out HO5.out.br.1))
    have hown := putBr HO5.out hg ho ht HZ6.out
    rw [← HTK.out] at hown
    have HO7 := Lib.hid hown
    clear hown ho hg ht
    refine hK.out _ _ ⟨HB6.out, HR6.out⟩ (fun hHeld => ?_)
    clear hK K
    refine tk 17 (mo 30 (.fieldAddr 27 (.tmp 3) 0)) (.pointer (some ⟨g3, 0, none⟩)) rfl ?_
    refine rdH [18] ?_
    refine AllReadyH.cons (o := ⟨none, .store 22 (.tmp 30) (.tmp 29), _, _, _, _⟩) rfl (fun K hK => ?_) AllReadyH.nil
    have hcell := rf_br HZ6.out
    have hfz := HZ6.out.free 0
    go_simp
    clear hcell hfz
    have HZ7 : Hid (RowAt (w6.setCell ⟨g3, 0, none⟩ (.slice a6 (i + 1) c6)) g3 OREf (rfL { S' with ab := a6, nb := i + 1, cb := c6 } [] zId)) := Lib.hid (HZ6.out.set 0 (.slice a6 (i + 1) c6))
    have HB7 := Lib.hid (HB6.out.setCell (p := ⟨g3, 0, none⟩) (Nat.le_of_lt HG3.out.1) (.slice a6 (i + 1) c6))
    have HR7 := Lib.hid (HR6.out.other (a := ⟨g3, 0, none⟩) (Nat.ne_of_lt HG3.out.1) (.slice a6 (i + 1) c6))
    have HY7 := Lib.hid (HY6.out.other (a := ⟨g3, 0, none⟩) HG3.out.2 (.slice a6 (i + 1) c6))
    generalize w6.setCell ⟨g3, 0, none⟩ (.slice a6 (i + 1) c6) = w7 at HZ7 HB7 HR7 HY7 HO7 ⊢
    refine hK.out _ _ ⟨HB7.out, HR7.out⟩ (fun hHeld => ?_)
    clear hK K
    refine wpAnyH_done (by kernel_rfl) ?_ _
    go_wp2_with fail
    go_roundg (S.nb - (i + 1))
    case measure => have := HG.out; have := HI.out; omega
    case rel => exact ⟨i + 1, { S' with ab := a6, nb := i + 1, cb := c6 }, by go_num, by have := HI.out; omega, HB7, HR7, HY7, HZ7, HO7⟩
   ·refine ready_step (wp_sl_rn _ rfl X HXO.out rfl ?_)
    have hb := (Below.refl wr.drew.heap.size wr.drew).alloc (Nat.le_refl _) (.cells (rnL X).toArray ONEf)
    have HB5 := thn HB4 hb
    have HR5 := Lib.hid (HR4.out.below hb)
    have HY5 := Lib.hid (HY4.out.below hb)
    have HZ5 := Lib.hid (HZ4.out.below hb)
    have HO5 := Lib.hid (HO4.out.below hb)
    have HV5 := Lib.hid (oneG (K := rnK) wr.drew X HXO.out ONEf (rnL X).toArray rfl)
    clear hb
    generalize wr.drew.alloc (.cells (rnL X).toArray ONEf) = w5 at HB5 HR5 HY5 HZ5 HO5 HV5 ⊢
    generalize wr.drew.heap.size = gv at HV5 ⊢
    refine hK.out _ _ ⟨HB5.out, HR5.out⟩ (fun hHeld => ?_)
    clear hK K
    refine rdH [1] ?_
    refine AllReadyH.cons (o := ⟨some 14, .load 22 (.tmp 13), _, _, _, _⟩) rfl (fun K hK => ?_) AllReadyH.nil
    have hcell := rf_br HZ5.out
    go_simp
    clear hcell
    refine hK.out _ _ ⟨HB5.out, HR5.out⟩ (fun hHeld => ?_)
    clear hK K
    refine rdH [16] ?_
    refine AllReadyH.cons (o := ⟨some 29, .call { callee := .builtin .append, args := #[(.tmp 14), (.tmp 28)], argTypes := #[22, 22] }, _, _, _, _⟩) rfl (fun K hK => ?_) AllReadyH.nil
    refine ready_step (wp_app_rn _ _ rfl w.heap.size _ (r.br.take i) rfl HO5.out.br _ X rfl HV5.out (by rw [HTL.out]; exact HLB.out) HB5.out.size (i + 1) (by rw [HTL.out]) ?_)
    intro a6 c6 w6 ho hg ht
    have HB6 := Lib.hid (HB5.out.grown hg HB5.out.size (fun k hk => (HO5.out.br.lt k hk).1))
    have HR6 := Lib.hid (HR5.out.grown hg (row_ne HR5.out HO5.out.br.1))
    have HY6 := Lib.hid (HY5.out.grown hg (row_ne HY5.out HO5.out.br.1))
    have HZ6 := Lib.hid (HZ5.out.grown hg (row_ne HZ5.out HO5.out.br.1))
    have hown := putBr HO5.out hg ho ht HZ6.out
    rw [← HTK.out] at hown
    have HO7 := Lib.hid hown
    clear hown ho hg ht
    refine hK.out _ _ ⟨HB6.out, HR6.out⟩ (fun hHeld => ?_)
    clear hK K
    refine tk 17 (mo 30 (.fieldAddr 27 (.tmp 3) 0)) (.pointer (some ⟨g3, 0, none⟩)) rfl ?_
    refine rdH [18] ?_
    refine AllReadyH.cons (o := ⟨none, .store 22 (.tmp 30) (.tmp 29), _, _, _, _⟩) rfl (fun K hK => ?_) AllReadyH.nil
    have hcell := rf_br HZ6.out
    have hfz := HZ6.out.free 0
    go_simp
    clear hcell hfz
    have HZ7 : Hid (RowAt (w6.setCell ⟨g3, 0, none⟩ (.slice a6 (i + 1) c6)) g3 OREf (rfL { S' with ab := a6, nb := i + 1, cb := c6 } [] zId)) := Lib.hid (HZ6.out.set 0 (.slice a6 (i + 1) c6))
    have HB7 := Lib.hid (HB6.out.setCell (p := ⟨g3, 0, none⟩) (Nat.le_of_lt HG3.out.1) (.slice a6 (i + 1) c6))
    have HR7 := Lib.hid (HR6.out.other (a := ⟨g3, 0, none⟩) (Nat.ne_of_lt HG3.out.1) (.slice a6 (i + 1) c6))
    have HY7 := Lib.hid (HY6.out.other (a := ⟨g3, 0, none⟩) HG3.out.2 (.slice a6 (i + 1) c6))
    generalize w6.setCell ⟨g3, 0, none⟩ (.slice a6 (i + 1) c6) = w7 at HZ7 HB7 HR7 HY7 HO7 ⊢
    refine hK.out _ _ ⟨HB7.out, HR7.out⟩ (fun hHeld => ?_)
    clear hK K
    refine wpAnyH_done (by kernel_rfl) ?_ _
    go_wp2_with fail
    go_roundg (S.nb - (i + 1))
    case measure => have := HG.out; have := HI.out; omega
    case rel => exact ⟨i + 1, { S' with ab := a6, nb := i + 1, cb := c6 }, by go_num, by have := HI.out; omega, HB7, HR7, HY7, HZ7, HO7⟩
  ·have hiE : i = S.nb := by omega
   have HTA : Hid (r.br.take i = r.br) := Lib.hid (List.take_of_length_le (by have := HIN.out.br.1; omega))
   have hO2 := HO.out
   rw [HTA.out] at hO2
   have HO := Lib.hid hO2
   clear hO2 hg hiE
   have hcG := rf_tg HR.out
   go_wp2
   clear hi hcR
   go_loopg [5] S.ng (fun g v5 W => ∃ (i : Nat) (S' : RfS), v5 = .int .i64 i ∧ g + i = S.ng ∧ Hid (Below w.heap.size w W) ∧ Hid (RowAt W w.heap.size REf (rfL S r.head r.at_)) ∧ Hid (RowAt W g2 OREf (rfL noS [] zId)) ∧ Hid (RowAt W g3 OREf (rfL S' [] zId)) ∧ Hid (RfOwn W w.heap.size S' ⟨r.br, r.tg.take i, [], zId, []⟩))
   case atStart => exact ⟨0, S', rfl, rfl, HB, HR, HY, HZ, HO⟩
   case round =>
    obtain ⟨i, S', rfl, hg, HB, HR, HY, HZ, HO⟩ := hrel
    have HG := Lib.hid hg
    have hi0 : (0 : Int) ≤ (i : Int) := by omega
    have hiI : (i : Int) ≤ (S.ng : Int) := by omega
    have hcR := rf_tg HR.out
    by_cases hi : (i : Int) < (S.ng : Int)
    ·have hin : i < S.ng := by omega
     have HI := Lib.hid hin
     obtain ⟨b, o, hab⟩ := HIN.out.tg.some_ (show 0 < S.ng by omega)
     have hat := HIN.out.tg
     rw [hab] at hat
     have hLn : r.tg.length = S.ng := HIN.out.tg.1
     obtain ⟨X, hX⟩ : ∃ X, X = gd r.tg i := ⟨_, rfl⟩
     have HXO : Hid (X.2.length = 32) := Lib.hid (hX ▸ HIN.out.tg.ok hin)
     obtain ⟨y, hy⟩ : ∃ y, strB X.1 = y := ⟨_, rfl⟩
     have HYE := Lib.hid hy
     have HCN := Lib.hid (fun W (hW : Below w.heap.size w W) => (hy ▸ hX ▸ rn_name (hat.below hW) hin : W.cell? ⟨b, o + i * 33, none⟩ = some (.string y)))
     have HCI := Lib.hid (fun W (hW : Below w.heap.size w W) => (hX ▸ rn_id (hat.below hW) hin : W.rangeAt b (o + i * 33 + 1) (X.2.map B)))
     have HTK : Hid (r.tg.take (i + 1) = r.tg.take i ++ [X]) := Lib.hid (by rw [hX]; exact take_gd (by rw [hLn]; exact hin))
     have HTL : Hid ((r.tg.take i).length = i) := Lib.hid (by rw [List.length_take, hLn]; omega)
     have HLB : Hid (i ≤ 1000000) := Lib.hid (by omega)
     rw [hab] at hcR
     have HSR := Lib.hid (fun W (hh : RowAt W w.heap.size REf (rfL S r.head r.at_)) => (by have := rf_tg hh; rw [hab] at this; exact this : W.cell? ⟨w.heap.size, 1, none⟩ = some (.slice (some ⟨b, o, none⟩) S.ng S.cg)))
     have HAB := Lib.hid hab
     clear hg hX hy hab hat hLn
     go_wp2
     refine wp_region_held_drew (S := fun W => Below w.heap.size w W ∧ RowAt W w.heap.size REf (rfL S r.head r.at_)) (by kernel_rfl) ⟨HB.out.drew, HR.out⟩ (fun hHeld => ?_)
     have HB4 : Hid (Below w.heap.size w wr.drew) := Lib.hid HB.out.drew
     have HR4 : Hid (RowAt wr.drew w.heap.size REf (rfL S r.head r.at_)) := Lib.hid HR.out
     have HY4 : Hid (RowAt wr.drew g2 OREf (rfL noS [] zId)) := Lib.hid HY.out
     have HZ4 : Hid (RowAt wr.drew g3 OREf (rfL S' [] zId)) := Lib.hid HZ.out
     have HO4 : Hid (RfOwn wr.drew w.heap.size S' ⟨r.br, r.tg.take i, [], zId, []⟩) := Lib.hid (HO.out.below (Below.refl _ _).drew)
     clear HB HR HY HZ HO hcR
     refine tk 0 (mo 38 (.fieldAddr 27 (.tmp 3) 1)) (.pointer (some ⟨g3, 1, none⟩)) rfl ?_
     refine tk 2 (mo 40 (.fieldAddr 35 (.tmp 1) 1)) (.pointer (some ⟨w.heap.size, 1, none⟩)) rfl ?_
     refine tk 3 (mo 41 (.load 33 (.tmp 40))) (.slice (some ⟨b, o, none⟩) S.ng S.cg) rfl ?_ (Or.inl ⟨by rfl, fun W hW => by have hcell := HSR.out W hW.2; go_simp⟩)
     refine tk 4 (mo 42 (.move (.tmp 5))) (.int .i64 (i : Nat)) rfl ?_
     refine tk 5 (mo 43 (.indexAddr 33 (.tmp 41) (.tmp 42))) (.pointer (some ⟨b, o + i * 33, none⟩)) rfl ?_
     refine tk 6 (mo 44 (.fieldAddr 55 (.tmp 43) 0)) (.pointer (some ⟨b, o + i * 33, none⟩)) rfl ?_
     refine tk 7 (mo 45 (.load 9 (.tmp 44))) (.string y) rfl ?_ (Or.inl ⟨by rfl, fun W hW => by have hcell := HCN.out W hW.1; go_simp⟩)
     refine tk 8 (mo 46 (.fieldAddr 35 (.tmp 1) 1)) (.pointer (some ⟨w.heap.size, 1, none⟩)) rfl ?_
     refine tk 9 (mo 47 (.load 33 (.tmp 46))) (.slice (some ⟨b, o, none⟩) S.ng S.cg) rfl ?_ (Or.inl ⟨by rfl, fun W hW => by have hcell := HSR.out W hW.2; go_simp⟩)
     refine tk 10 (mo 48 (.move (.tmp 5))) (.int .i64 (i : Nat)) rfl ?_
     refine tk 11 (mo 49 (.indexAddr 33 (.tmp 47) (.tmp 48))) (.pointer (some ⟨b, o + i * 33, none⟩)) rfl ?_
     refine tk 12 (mo 50 (.fieldAddr 55 (.tmp 49) 1)) (.pointer (some ⟨b, o + i * 33 + 1, none⟩)) rfl ?_
     refine tk 13 (mo 51 (.load 24 (.tmp 50))) (.agg (idCells X.2)) rfl ?_ (Or.inl ⟨by rfl, fun W hW => exec_loadId _ rfl _ _ X.2 HXO.out rfl (HCI.out W hW.1)⟩)
     refine tk 14 (mo 52 (.build 54 #[(0, (.tmp 45)), (1, (.tmp 51))])) (.agg (rnL X).toArray) rfl ?_ (Or.inl ⟨by rfl, fun W hW => exec_rn _ _ rfl X.1 X.2 HXO.out y HYE.out.symm rfl rfl⟩)
     refine rdH [1, 15] ?_
     refine AllReadyH.cons (o := ⟨some 39, .load 22 (.tmp 38), _, _, _, _⟩) rfl (fun K hK => ?_) (AllReadyH.cons (o := ⟨some 53, .buildSlice 22 1 #[(0, (.tmp 52))], _, _, _, _⟩) rfl (fun K hK => ?_) AllReadyH.nil)
     ·have hcell := rf_tg HZ4.out
      go_simp
      clear hcell
      refine hK.out _ _ ⟨HB4.out, HR4.out⟩ (fun hHeld => ?_)
      clear hK K
      refine rdH [15] ?_
      refine AllReadyH.cons (o := ⟨some 53, .buildSlice 22 1 #[(0, (.tmp 52))], _, _, _, _⟩) rfl (fun K hK => ?_) AllReadyH.nil
      refine ready_step (wp_sl_rn _ rfl X HXO.out rfl ?_)
      have hb := (Below.refl wr.drew.heap.size wr.drew).alloc (Nat.le_refl _) (.cells (rnL X).toArray ONEf)
      have HB5 := thn HB4 hb
      have HR5 := Lib.hid (HR4.out.below hb)
      have HY5 := Lib.hid (HY4.out.below hb)
      have HZ5 := Lib.hid (HZ4.out.below hb)
      have HO5 := Lib.hid (HO4.out.below hb)
      have HV5 := Lib.hid (oneG (K := rnK) wr.drew X HXO.out ONEf (rnL X).toArray rfl)
      clear hb
      generalize wr.drew.alloc (.cells (rnL X).toArray ONEf) = w5 at HB5 HR5 HY5 HZ5 HO5 HV5 ⊢
      generalize wr.drew.heap.size = gv at HV5 ⊢
      refine hK.out _ _ ⟨HB5.out, HR5.out⟩ (fun hHeld => ?_)
      clear hK K
      refine rdH [16] ?_
      refine AllReadyH.cons (o := ⟨some 54, .call { callee := .builtin .append, args := #[(.tmp 39), (.tmp 53)], argTypes := #[22, 22] }, _, _, _, _⟩) rfl (fun K hK => ?_) AllReadyH.nil
      refine ready_step (wp_app_rn _ _ rfl w.heap.size _ (r.tg.take i) rfl HO5.out.tg _ X rfl HV5.out (by rw [HTL.out]; exact HLB.out) HB5.out.size (i + 1) (by rw [HTL.out]) ?_)
      intro a6 c6 w6 ho hg ht
      have HB6 := Lib.hid (HB5.out.grown hg HB5.out.size (fun k hk => (HO5.out.tg.lt k hk).1))
      have HR6 := Lib.hid (HR5.out.grown hg (row_ne HR5.out HO5.out.tg.1))
      have HY6 := Lib.hid (HY5.out.grown hg (row_ne HY5.out HO5.out.tg.1))
      have HZ6 := Lib.hid (HZ5.out.grown hg (row_ne HZ5.out HO5.out.tg.1))
      have hown := putTg HO5.out hg ho ht HZ6.out
      rw [← HTK.out] at hown
      have HO7 := Lib.hid hown
      clear hown ho hg ht
      refine hK.out _ _ ⟨HB6.out, HR6.out⟩ (fun hHeld => ?_)
      clear hK K
      refine tk 17 (mo 55 (.fieldAddr 27 (.tmp 3) 1)) (.pointer (some ⟨g3, 1, none⟩)) rfl ?_
      refine rdH [18] ?_
      refine AllReadyH.cons (o := ⟨none, .store 22 (.tmp 55) (.tmp 54), _, _, _, _⟩) rfl (fun K hK => ?_) AllReadyH.nil
      have hcell := rf_tg HZ6.out
      have hfz := HZ6.out.free 1
      go_simp
      clear hcell hfz
      have HZ7 : Hid (RowAt (w6.setCell ⟨g3, 1, none⟩ (.slice a6 (i + 1) c6)) g3 OREf (rfL { S' with ag := a6, ng := i + 1, cg := c6 } [] zId)) := Lib.hid (HZ6.out.set 1 (.slice a6 (i + 1) c6))
      have HB7 := Lib.hid (HB6.out.setCell (p := ⟨g3, 1, none⟩) (Nat.le_of_lt HG3.out.1) (.slice a6 (i + 1) c6))
      have HR7 := Lib.hid (HR6.out.other (a := ⟨g3, 1, none⟩) (Nat.ne_of_lt HG3.out.1) (.slice a6 (i + 1) c6))
      have HY7 := Lib.hid (HY6.out.other (a := ⟨g3, 1, none⟩) HG3.out.2 (.slice a6 (i + 1) c6))
      generalize w6.setCell ⟨g3, 1, none⟩ (.slice a6 (i + 1) c6) = w7 at HZ7 HB7 HR7 HY7 HO7 ⊢
      refine hK.out _ _ ⟨HB7.out, HR7.out⟩ (fun hHeld => ?_)
      clear hK K
      refine wpAnyH_done (by kernel_rfl) ?_ _
      go_wp2_with fail
      go_roundg (S.ng - (i + 1))
      case measure => have := HG.out; have := HI.out; omega
      case rel => exact ⟨i + 1, { S' with ag := a6, ng := i + 1, cg := c6 }, by go_num, by have := HI.out; omega, HB7, HR7, HY7, HZ7, HO7⟩
     ·refine ready_step (wp_sl_rn _ rfl X HXO.out rfl ?_)
      have hb := (Below.refl wr.drew.heap.size wr.drew).alloc (Nat.le_refl _) (.cells (rnL X).toArray ONEf)
      have HB5 := thn HB4 hb
      have HR5 := Lib.hid (HR4.out.below hb)
      have HY5 := Lib.hid (HY4.out.below hb)
      have HZ5 := Lib.hid (HZ4.out.below hb)
      have HO5 := Lib.hid (HO4.out.below hb)
      have HV5 := Lib.hid (oneG (K := rnK) wr.drew X HXO.out ONEf (rnL X).toArray rfl)
      clear hb
      generalize wr.drew.alloc (.cells (rnL X).toArray ONEf) = w5 at HB5 HR5 HY5 HZ5 HO5 HV5 ⊢
      generalize wr.drew.heap.size = gv at HV5 ⊢
      refine hK.out _ _ ⟨HB5.out, HR5.out⟩ (fun hHeld => ?_)
      clear hK K
      refine rdH [1] ?_
      refine AllReadyH.cons (o := ⟨some 39, .load 22 (.tmp 38), _, _, _, _⟩) rfl (fun K hK => ?_) AllReadyH.nil
      have hcell := rf_tg HZ5.out
      go_simp
      clear hcell
      refine hK.out _ _ ⟨HB5.out, HR5.out⟩ (fun hHeld => ?_)
      clear hK K
      refine rdH [16] ?_
      refine AllReadyH.cons (o := ⟨some 54, .call { callee := .builtin .append, args := #[(.tmp 39), (.tmp 53)], argTypes := #[22, 22] }, _, _, _, _⟩) rfl (fun K hK => ?_) AllReadyH.nil
      refine ready_step (wp_app_rn _ _ rfl w.heap.size _ (r.tg.take i) rfl HO5.out.tg _ X rfl HV5.out (by rw [HTL.out]; exact HLB.out) HB5.out.size (i + 1) (by rw [HTL.out]) ?_)
      intro a6 c6 w6 ho hg ht
      have HB6 := Lib.hid (HB5.out.grown hg HB5.out.size (fun k hk => (HO5.out.tg.lt k hk).1))
      have HR6 := Lib.hid (HR5.out.grown hg (row_ne HR5.out HO5.out.tg.1))
      have HY6 := Lib.hid (HY5.out.grown hg (row_ne HY5.out HO5.out.tg.1))
      have HZ6 := Lib.hid (HZ5.out.grown hg (row_ne HZ5.out HO5.out.tg.1))
      have hown := putTg HO5.out hg ho ht HZ6.out
      rw [← HTK.out] at hown
      have HO7 := Lib.hid hown
      clear hown ho hg ht
      refine hK.out _ _ ⟨HB6.out, HR6.out⟩ (fun hHeld => ?_)
      clear hK K
      refine tk 17 (mo 55 (.fieldAddr 27 (.tmp 3) 1)) (.pointer (some ⟨g3, 1, none⟩)) rfl ?_
      refine rdH [18] ?_
      refine AllReadyH.cons (o := ⟨none, .store 22 (.tmp 55) (.tmp 54), _, _, _, _⟩) rfl (fun K hK => ?_) AllReadyH.nil
      have hcell := rf_tg HZ6.out
      have hfz := HZ6.out.free 1
      go_simp
      clear hcell hfz
      have HZ7 : Hid (RowAt (w6.setCell ⟨g3, 1, none⟩ (.slice a6 (i + 1) c6)) g3 OREf (rfL { S' with ag := a6, ng := i + 1, cg := c6 } [] zId)) := Lib.hid (HZ6.out.set 1 (.slice a6 (i + 1) c6))
      have HB7 := Lib.hid (HB6.out.setCell (p := ⟨g3, 1, none⟩) (Nat.le_of_lt HG3.out.1) (.slice a6 (i + 1) c6))
      have HR7 := Lib.hid (HR6.out.other (a := ⟨g3, 1, none⟩) (Nat.ne_of_lt HG3.out.1) (.slice a6 (i + 1) c6))
      have HY7 := Lib.hid (HY6.out.other (a := ⟨g3, 1, none⟩) HG3.out.2 (.slice a6 (i + 1) c6))
      generalize w6.setCell ⟨g3, 1, none⟩ (.slice a6 (i + 1) c6) = w7 at HZ7 HB7 HR7 HY7 HO7 ⊢
      refine hK.out _ _ ⟨HB7.out, HR7.out⟩ (fun hHeld => ?_)
      clear hK K
      refine wpAnyH_done (by kernel_rfl) ?_ _
      go_wp2_with fail
      go_roundg (S.ng - (i + 1))
      case measure => have := HG.out; have := HI.out; omega
      case rel => exact ⟨i + 1, { S' with ag := a6, ng := i + 1, cg := c6 }, by go_num, by have := HI.out; omega, HB7, HR7, HY7, HZ7, HO7⟩
    ·have hiE : i = S.ng := by omega
     have HTA : Hid (r.tg.take i = r.tg) := Lib.hid (List.take_of_length_le (by have := HIN.out.tg.1; omega))
     have hO2 := HO.out
     rw [HTA.out] at hO2
     have HO := Lib.hid hO2
     clear hO2 hg hiE
     go_wp2
     clear hi hcR
     refine wp_region_held_drew (S := fun W => RowAt W w.heap.size REf (rfL S r.head r.at_)) (by kernel_rfl) HR.out (fun hHeld => ?_)
     have HB4 : Hid (Below w.heap.size w wr.drew) := Lib.hid HB.out.drew
     have HR4 : Hid (RowAt wr.drew w.heap.size REf (rfL S r.head r.at_)) := Lib.hid HR.out
     have HY4 : Hid (RowAt wr.drew g2 OREf (rfL noS [] zId)) := Lib.hid HY.out
     have HZ4 : Hid (RowAt wr.drew g3 OREf (rfL S' [] zId)) := Lib.hid HZ.out
     have HO4 : Hid (RfOwn wr.drew w.heap.size S' ⟨r.br, r.tg, [], zId, []⟩) := Lib.hid (HO.out.below (Below.refl _ _).drew)
     generalize wr.drew = w4 at hHeld HB4 HR4 HY4 HZ4 HO4 ⊢
     refine tk 0 (mo 56 (.fieldAddr 35 (.tmp 1) 2)) (.pointer (some ⟨w.heap.size, 2, none⟩)) rfl ?_
     refine tk 1 (mo 57 (.load 9 (.tmp 56))) (.string p) rfl ?_ (Or.inl ⟨by rfl, fun W hW => by have hcell := HC2.out W hW; go_simp⟩)
     refine tk 2 (mo 58 (.fieldAddr 35 (.tmp 1) 3)) (.pointer (some ⟨w.heap.size, 3, none⟩)) rfl ?_
     refine tk 3 (mo 59 (.load 24 (.tmp 58))) (.agg (idCells r.at_)) rfl ?_ (Or.inl ⟨by rfl, fun W hW => exec_loadId _ rfl _ _ r.at_ HAT.out rfl (rf_at hW)⟩)
     refine tk 4 (mo 60 (.fieldAddr 27 (.tmp 3) 2)) (.pointer (some ⟨g3, 2, none⟩)) rfl ?_
     refine rdH [5] ?_
     refine AllReadyH.cons (o := ⟨none, .store 9 (.tmp 60) (.tmp 57), _, _, _, _⟩) rfl (fun K hK => ?_) AllReadyH.nil
     have hcell := HZ4.out.cell 2 (v := .string (strB [])) rfl
     have hfz := HZ4.out.free 2
     go_simp
     clear hcell hfz
     have HZ5 : Hid (RowAt (w4.setCell ⟨g3, 2, none⟩ (.string p)) g3 OREf (rfL S' r.head zId)) := Lib.hid (by have := HZ4.out.set 2 (.string p); rw [← HPE.out] at this ⊢; exact this)
     have HO5 := Lib.hid (⟨holds_setBox HO4.out.holds HZ4.out NEr 2 (.string p), HO4.out.okb, HO4.out.okg, HO4.out.okl, rfl⟩ : RfOwn (w4.setCell ⟨g3, 2, none⟩ (.string p)) w.heap.size S' ⟨r.br, r.tg, [], zId, []⟩)
     have HR5 := Lib.hid (HR4.out.other (a := ⟨g3, 2, none⟩) (Nat.ne_of_lt HG3.out.1) (.string p))
     have HY5 := Lib.hid (HY4.out.other (a := ⟨g3, 2, none⟩) HG3.out.2 (.string p))
     have HB5 := Lib.hid (HB4.out.setCell (p := ⟨g3, 2, none⟩) (Nat.le_of_lt HG3.out.1) (.string p))
     generalize w4.setCell ⟨g3, 2, none⟩ (.string p) = w5 at HZ5 HO5 HR5 HY5 HB5 ⊢
     refine hK.out _ _ HR5.out (fun hHeld => ?_)
     clear hK K
     refine tk 6 (mo 61 (.fieldAddr 27 (.tmp 3) 3)) (.pointer (some ⟨g3, 3, none⟩)) rfl ?_
     refine rdH [7] ?_
     refine AllReadyH.cons (o := ⟨none, .store 24 (.tmp 61) (.tmp 59), _, _, _, _⟩) rfl (fun K hK => ?_) AllReadyH.nil
     refine ready_step (wp_store_mid _ _ _ rfl g3 3 (idCells r.at_) rfl rfl (row_there HZ5.out 3 _ (by rw [idCells_size HAT.out, rfL_len rfl]; decide)) (by rw [idCells_size HAT.out]; exact info_id) (by unfold idCells; exact all_oneCell_toArray (B_one _)) ?_)
     obtain ⟨h1, h2⟩ := rf_steps (base := w.heap.size) (S := S') (r := ⟨r.br, r.tg, [], zId, []⟩) (idCells r.at_).toList 3 HZ5.out HO5.out
     rw [putL_hd S' r.head zId r.at_ rfl HAT.out] at h1
     have HZ6 := Lib.hid h1
     have HO6 : Hid (RfOwn (w5.setCells g3 3 (idCells r.at_).toList) w.heap.size S' ⟨r.br, r.tg, r.head, r.at_, []⟩) := Lib.hid (rfOwn_hd h2 HAT.out)
     have HB6 := Lib.hid (rf_cells_below (idCells r.at_).toList 3 (Nat.le_of_lt HG3.out.1) HB5.out)
     have HR6 := Lib.hid (rf_cells_other (Nat.ne_of_lt HG3.out.1) (idCells r.at_).toList 3 HR5.out)
     have HY6 := Lib.hid (rf_cells_other HG3.out.2 (idCells r.at_).toList 3 HY5.out)
     clear h1 h2
     generalize w5.setCells g3 3 (idCells r.at_).toList = w6 at HZ6 HO6 HB6 HR6 HY6 ⊢
     refine hK.out _ _ HR6.out (fun hHeld => ?_)
     clear hK K
     refine wpAnyH_done (by kernel_rfl) ?_ _
     have c61 := rf_log HAT.out HR6.out
     have c63 := rf_log HAT.out HZ6.out
     go_wp2_with (first
      | ((with_reducible refine atS 66 ?_); go_must (refine appG_told enK Tryd.underlying25 infoEf sizeEf rfl _ _ rfl w.heap.size _ [] rfl HO6.out.log _ S.nl S.cl r.log rfl (HIN.out.below HB6.out).log (by have := HFW.out.2.2; show (0 + S.nl) * 105 ≤ _; omega) HB6.out.size S.nl (by simp) ?_); intro a9 c9 w9 ho hg ht; have HB9 := Lib.hid (HB6.out.grown hg HB6.out.size (fun k hk => (HO6.out.log.lt k hk).1)); have HY9 := Lib.hid (HY6.out.grown hg (row_ne HY6.out HO6.out.log.1)); have HZ9 := Lib.hid (HZ6.out.grown hg (row_ne HZ6.out HO6.out.log.1)); have hown := putLog HO6.out hg ho ht HZ9.out; rw [List.nil_append] at hown; have HO10 := Lib.hid hown; have hrow := HZ9.out.set 35 (.slice a9 S.nl c9); rw [rfL_log S' r.head r.at_ HAT.out] at hrow; have HZ10 := Lib.hid hrow; have HB10 := Lib.hid (HB9.out.setCell (p := ⟨g3, 35, none⟩) (Nat.le_of_lt HG3.out.1) (.slice a9 S.nl c9)); have HY10 := Lib.hid (HY9.out.other (a := ⟨g3, 35, none⟩) HG3.out.2 (.slice a9 S.nl c9)); have c93 := rf_log HAT.out HZ9.out; have f93 := HZ9.out.free 35; clear hown hrow ho hg ht)
      | ((with_reducible refine atS 68 ?_); go_must (refine wl_ex rfl (exec_loadRf _ rfl _ { S' with al := a9, nl := S.nl, cl := c9 } r.head r.at_ HAT.out rfl HZ10.out) ?_))
      | ((with_reducible refine atT 2 ?_); go_must (refine wl_store_rf (S := { S' with al := a9, nl := S.nl, cl := c9 }) (h := r.head) (a := r.at_) HAT.out HY10.out (len36 rfl) rfl _ _ rfl rfl rfl ?_); intro w11 hr hg; have HR11 := Lib.hid hr; have HG11 := Lib.hid hg; clear hr hg))
     refine bodyPost_ret (results_row rfl _ _ g2 OREf (rfL { S' with al := a9, nl := S.nl, cl := c9 } r.head r.at_) _ rfl HR11.out Tryd.underlying27 rfl (size36 HAT.out)) rfl ?_
     refine ⟨{ S' with al := a9, nl := S.nl, cl := c9 }, rfl, ⟨HO10.out.holds.grownOut HG11.out NEr HY10.out, HO10.out.okb, HO10.out.okg, HO10.out.okl, HAT.out⟩, HB10.out.grown HG11.out HB10.out.size (fun k hk => by cases hk; exact Nat.le_of_lt HG2.out)⟩
end Of
end Go.Proofs.YthihmlojdopmfaaDoor
