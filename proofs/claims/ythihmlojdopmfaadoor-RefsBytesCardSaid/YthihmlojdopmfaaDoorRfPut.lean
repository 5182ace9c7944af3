/-
 The walks of (*Refs).log and (Refs).clone: an entry behind the others; refs in new memory.
-/
import Derived.Test.YthihmlojdopmfaaDoorRfActs
import Derived.Test.YthihmlojdopmfaaDoorGrp1
namespace Go.Proofs.YthihmlojdopmfaaDoor
open Go.RowKit

def logF (r : RefsV) (x : EntV) : RefsV := { r with log := (if r.log.length = 64 then r.log.eraseIdx 0 else r.log) ++ [x] }
theorem built_en (u : UpdV) (hu : UpOk u) (n : List UInt8) : Tryd.prog.built 50 [(0, .agg (upL u).toArray), (1, .string (strB n))] = some (enL ⟨u, n⟩).toArray := by
 obtain ⟨h1, h2, h3⟩ := hu
 obtain ⟨k, s, o, m⟩ := u
 simp only at h2 h3
 obtain ⟨b0, b1, b2, b3, b4, b5, b6, b7, b8, b9, b10, b11, b12, b13, b14, b15, b16, b17, b18, b19, b20, b21, b22, b23, b24, b25, b26, b27, b28, b29, b30, b31, rfl⟩ := list32 h2
 obtain ⟨c0, c1, c2, c3, c4, c5, c6, c7, c8, c9, c10, c11, c12, c13, c14, c15, c16, c17, c18, c19, c20, c21, c22, c23, c24, c25, c26, c27, c28, c29, c30, c31, rfl⟩ := list32 h3
 kernel_rfl
theorem exec_en {w : World} {o : Oper} {a : Act} (x0 x1 : Operand) (ho : o.op = .build 50 #[(0, x0), (1, x1)]) (u : UpdV) (hu : UpOk u) (n : List UInt8) (p : ByteArray) (hp : p = strB n) (h0 : a.eval x0 = .agg (upL u).toArray) (h1 : a.eval x1 = .string p) :
  (execOp a.eval o).run Tryd.prog w = .ok (.value (.agg (enL ⟨u, n⟩).toArray)) w := by
 subst hp
 refine exec_build _ _ ho _ ?_
 have e : (#[(0, x0), (1, x1)].map fun (q : Nat × Operand) => (q.1, a.eval q.2)).toList = [(0, .agg (upL u).toArray), (1, .string (strB n))] := by simp [h0, h1]
 exact (congrArg _ e).trans (built_en u hu n)
theorem fill_en (x : EntV) (hx : UpOk x.upd) (z : Value) (hz : z = .agg (enL default).toArray) : Instr.fill (fun i => some (i * 67, 67)) ((Array.range (1 * 67)).map (z.cells[· % z.cells.size]!)) [(0, .agg (enL x).toArray)] = some (enL x).toArray := by
 subst hz
 obtain ⟨⟨k, s, o, m⟩, n⟩ := x
 obtain ⟨h1, h2, h3⟩ := hx
 simp only at h2 h3
 obtain ⟨b0, b1, b2, b3, b4, b5, b6, b7, b8, b9, b10, b11, b12, b13, b14, b15, b16, b17, b18, b19, b20, b21, b22, b23, b24, b25, b26, b27, b28, b29, b30, b31, rfl⟩ := list32 h2
 obtain ⟨c0, c1, c2, c3, c4, c5, c6, c7, c8, c9, c10, c11, c12, c13, c14, c15, c16, c17, c18, c19, c20, c21, c22, c23, c24, c25, c26, c27, c28, c29, c30, c31, rfl⟩ := list32 h3
 kernel_rfl
theorem wp_sl_en {o : Oper} {a : Act} {w : World} {K : Act → World → Prop} {Q : Exit → Act → World → Prop} (x : Operand) (ho : o.op = .buildSlice 25 1 #[(0, x)]) (X : EntV) (hX : UpOk X.upd) (hx : a.eval x = .agg (enL X).toArray)
  (h : K (a.put o.dst (.slice (some ⟨w.heap.size, 0, none⟩) 1 1)) (w.alloc (.cells (enL X).toArray EEf))) : o.wp Tryd.prog a w K Q := by
 obtain ⟨i0, hi, hz0, hz1, hz2⟩ := info_parts infoEf
 refine wp_buildSlice 25 EEf 1 #[(0, x)] ho (enL X).toArray i0 _ Tryd.underlying25 hi hz0 (by rw [hz1]; decide) (by rw [hz1]; decide) ?_ h
 rw [hz1]
 have e : (#[(0, x)].map fun (p : Nat × Operand) => (p.1, a.eval p.2)).toList = [(0, .agg (enL X).toArray)] := by simp [hx]
 exact (congrArg (Instr.fill (fun i => some (i * 67, 67)) _) e).trans (fill_en X hX _ rfl)
theorem wp_app_en {o : Oper} {a : Act} {w : World} {K : Act → World → Prop} {Q : Exit → Act → World → Prop} (s x : Operand) (ho : o.op = .call { callee := .builtin .append, args := #[s, x], argTypes := #[25, 25] })
  (base : Nat) (v : Value) (l : List EntV) (hs : a.eval s = v) (hown : OwnG enK EEf w base v l) (sa : Option Addr) (X : EntV) (hx : a.eval x = .slice sa 1 1) (hsrc : AtG enK w sa 1 1 [X]) (hl : l.length ≤ 1000000) (hbase : base ≤ w.heap.size)
  (h : ∀ a' c' w', OwnG enK EEf w' base (.slice a' (l.length + 1) c') (l ++ [X]) → w.grownBy w' v.ownBlock → Told w v (.slice a' (l.length + 1) c') → K (a.put o.dst (.slice a' (l.length + 1) c')) w') : o.wp Tryd.prog a w K Q := by
 obtain ⟨a', c', w', hrun, h1, h2, h3⟩ := run_appG_told enK o.type Tryd.underlying25 infoEf sizeEf w base v l hown sa 1 1 [X] hsrc (by omega) hbase _ rfl
 exact Lib.wp_append_run _ s x _ _ ho _ _ hs hx _ _ hrun (h a' c' w' h1 h2 h3)
section
variable {w w' : World} {base g : Nat} {S : RfS} {r : RefsV} {L : List EntV} {a' : Option Addr} {n' c' : Nat}
theorem perm_log {α : Type} (x y z : α) : [x, y, z].Perm [z, x, y] := (List.perm_append_comm (l₁ := [x, y]) (l₂ := [z]))
theorem putLog {cs : List Value} (h : RfOwn w base S r) (hg : w.grownBy w' (Value.slice S.al S.nl S.cl).ownBlock) (ho : OwnG enK EEf w' base (.slice a' n' c') L) (ht : Told w (.slice S.al S.nl S.cl) (.slice a' n' c')) (hR : RowAt w' g REf cs) :
  RfOwn (w'.setCell ⟨g, 35, none⟩ (.slice a' n' c')) base { S with al := a', nl := n', cl := c' } { r with log := L } := by
 have H := ((h.holds.perm (perm_log _ _ _)).put (h' := hG enK EEf (.slice a' n' c') L) hg ho.1 ht).perm (perm_log _ _ _).symm
 exact ⟨holds_setBox H hR (fun x hx => by simp only [List.mem_cons, List.not_mem_nil, or_false] at hx; rcases hx with rfl | rfl | rfl <;> first | exact NErf | exact EErf) _ _, h.okb, h.okg, ho.2, h.at_⟩
theorem rfL_log (S : RfS) (h a : List UInt8) (ha : a.length = 32) (v : Option Addr) (n c : Nat) : (rfL S h a).set 35 (.slice v n c) = rfL { S with al := v, nl := n, cl := c } h a := by
 have e : ([.slice S.ab S.nb S.cb, .slice S.ag S.ng S.cg, .string (strB h)] ++ a.map B : List Value).length = 35 := by simp [ha]
 have := putL_mid [.slice v n c] ([.slice S.ab S.nb S.cb, .slice S.ag S.ng S.cg, .string (strB h)] ++ a.map B) [.slice S.al S.nl S.cl] [] rfl
 rw [e] at this
 simpa [rfL, putL] using this
end
theorem erase_len {L : List EntV} (h : L.length = 64) : (L.eraseIdx 0).length = 63 := by rw [List.length_eraseIdx, if_pos (by omega), h]

set_option maxRecDepth 100000 in
set_option maxHeartbeats 4000000 in
theorem log_put (g base : Nat) (S : RfS) (r : RefsV) (x : EntV) (w : World) (hR : RowAt w g REf (rfL S r.head r.at_)) (hO : RfOwn w base S r) (hx : UpOk x.upd) (hgb : base ≤ g) (hb : base ≤ w.heap.size) (hn : S.nl ≤ 100000) :
  Calls Tryd.prog 54 #[.pointer (some ⟨g, 0, none⟩), .agg (enL x).toArray] w fun e w' => e = .returned (.tuple #[]) ∧ ∃ S', RowAt w' g REf (rfL S' r.head r.at_) ∧ RfOwn w' base S' (logF r x) ∧ Below base w w' ∧ Kept3 w w' g S := by
 have HXO := Lib.hid hx
 have HGB := Lib.hid hgb
 have HBW := Lib.hid hb
 have HRO := Lib.hid hR
 have HOO := Lib.hid hO
 have hgl : g < w.heap.size := hR.lt
 have HGU : Hid (w.heap.size ≠ g) := Lib.hid (by omega)
 have hln : r.log.length = S.nl := hO.log.len
 have HLN := Lib.hid hln
 have HNM := Lib.hid (Nat.le_trans hn (by decide) : S.nl ≤ 1000000)
 have HB := Lib.hid ((Below.refl w.heap.size w).alloc (Nat.le_refl _) (.cells (enL x).toArray EEf))
 have HX := Lib.hid (show RowAt (w.alloc (.cells (enL x).toArray EEf)) w.heap.size EEf (enL x) from heap_alloc_new w _)
 have HRa := Lib.hid (HRO.out.below HB.out)
 have c1 := rf_log hO.at_ HRa.out
 have hlg : logF r x = { r with log := (if r.log.length = 64 then r.log.eraseIdx 0 else r.log) ++ [x] } := rfl
 by_cases h64 : r.log.length = 64
 ·obtain ⟨q, hal, hqb, hql, _⟩ := hO.log.row (by omega)
  have e64 : S.nl = 64 := by omega
  have HL64 := Lib.hid (erase_len h64)
  have HQG : Hid (some g ≠ some q) := Lib.hid (fun e => by
   have h3 := row_ne (v := .slice S.al S.nl S.cl) hR hO.log.1
   rw [hal] at h3
   exact h3 e)
  have HQB := Lib.hid hqb
  have HQX : Hid (some w.heap.size ≠ some q) := Lib.hid (fun e => by cases e; omega)
  have HAL := Lib.hid hal
  have HN64 := Lib.hid e64
  rw [if_pos h64] at hlg
  have HLG := Lib.hid hlg
  have HDEL := Lib.hid (deleteE_any q 64 S.cl 0 1 base 1 r.log _ (by have := (hO.below HB.out).log; rw [hal, e64] at this; exact this) (by decide) rfl rfl (by decide))
  rw [hal, e64] at c1
  have d64 : decide ((S.nl : Int) = 64) = true := decide_eq_true (by omega)
  have H35 := Lib.hid (fun W (hh : RowAt W g REf (rfL S r.head r.at_)) => rf_log hO.at_ hh)
  clear hR hO hx hgb hb hn hgl hln hal hqb hql e64 h64 hlg d64
  go_enter Tryd.func54, Tryd.ntmps54
  go_wp2_with (go_at_call 77; go_must (refine HDEL.out.mono ?_); rintro e w2 ⟨rfl, ho2, hg2⟩; have HO2 := Lib.hid ho2; have HG2 := Lib.hid hg2; have HR2 := Lib.hid (HRa.out.grown hg2 HQG.out); have HX2 := Lib.hid (HX.out.grown hg2 HQX.out); have HF2 := Lib.hid ((Kept3.of (g := g) (S := S) HB.out).grown HB.out.size hg2 (.inr (.inr (by rw [HAL.out]; rfl)))); have HB2 := Lib.hid ((HB.out.mono HBW.out).grown hg2 (Nat.le_trans HBW.out HB.out.size) (fun k hk => by cases hk; exact HQB.out)); have c2 := H35.out _ HR2.out; have f2 := HR2.out.free 35; clear ho2 hg2)
  have hown := putLog (L := r.log.eraseIdx 0) (a' := some ⟨q, 0, none⟩) (n' := 63) (c' := S.cl) (HOO.out.below HB.out) (by rw [HAL.out]; exact HG2.out) HO2.out (.inl (by rw [HAL.out]; rfl)) HR2.out
  have hrow := HR2.out.set 35 (.slice (some ⟨q, 0, none⟩) 63 S.cl)
  rw [rfL_log S r.head r.at_ HOO.out.at_] at hrow
  have HFz := Lib.hid (HF2.out.setCell 35 (.slice (some ⟨q, 0, none⟩) 63 S.cl))
  have HSz : Hid (w.heap.size ≤ (w2.setCell ⟨g, 35, none⟩ (.slice (some ⟨q, 0, none⟩) 63 S.cl)).heap.size) := Lib.hid (Nat.le_trans HB.out.size (Nat.le_trans HG2.out.size (Below.setCell (Below.refl 0 w2) (p := ⟨g, 35, none⟩) (Nat.zero_le _) _).size))
  have HBz := Lib.hid (HB2.out.setCell (p := ⟨g, 35, none⟩) HGB.out (.slice (some ⟨q, 0, none⟩) 63 S.cl))
  have HXz := Lib.hid (HX2.out.other (a := ⟨g, 35, none⟩) HGU.out (.slice (some ⟨q, 0, none⟩) 63 S.cl))
  have HRz := Lib.hid hrow
  have HOz := Lib.hid hown
  obtain ⟨SZ, hSZ⟩ : ∃ SZ : RfS, SZ = { S with al := some ⟨q, 0, none⟩, nl := 63, cl := S.cl } := ⟨_, rfl⟩
  rw [← hSZ] at hown hrow
  obtain ⟨LZ, hLZ⟩ : ∃ LZ, LZ = r.log.eraseIdx 0 := ⟨_, rfl⟩
  have HLG2 := Lib.hid HLG.out
  rw [← hLZ] at hown HLG2
  have HRz := Lib.hid hrow
  have HOz := Lib.hid hown
  have HL3 : Hid (LZ.length ≤ 1000000) := Lib.hid (by rw [hLZ, HL64.out]; decide)
  have HOB : Hid ((Value.slice SZ.al SZ.nl SZ.cl).ownBlock = (Value.slice S.al S.nl S.cl).ownBlock) := Lib.hid (by rw [hSZ, HAL.out]; rfl)
  have HXN : Hid (some w.heap.size ≠ (Value.slice SZ.al SZ.nl SZ.cl).ownBlock) := Lib.hid (by rw [hSZ]; exact HQX.out)
  clear hSZ hLZ hown hrow c2 f2 HO2 HG2 HR2 HX2 HB2 HF2 HDEL HAL HQX HQB HQG
  generalize w2.setCell ⟨g, 35, none⟩ (.slice (some ⟨q, 0, none⟩) 63 S.cl) = wz at HRz HOz HXz HBz HFz HSz ⊢
  have HX3 : Hid (RowAt wz.drew w.heap.size EEf (enL x)) := Lib.hid HXz.out
  have HR3 : Hid (RowAt wz.drew g REf (rfL SZ r.head r.at_)) := Lib.hid HRz.out
  have HO3 : Hid (RfOwn wz.drew base SZ { r with log := LZ }) := Lib.hid (HOz.out.below (Below.refl _ _).drew)
  have HB3 : Hid (Below base w wz.drew) := Lib.hid HBz.out.drew
  have HF3 : Hid (Kept3 w wz.drew g S) := Lib.hid HFz.out.drew
  have HS3 : Hid (w.heap.size ≤ wz.drew.heap.size) := Lib.hid HSz.out
  have HC3 := Lib.hid (fun W (hh : RowAt W g REf (rfL SZ r.head r.at_)) => rf_log HOO.out.at_ hh)
  clear HRz HOz HXz HBz HFz HSz
  refine wp_region_held_drew (S := fun W => RowAt W w.heap.size EEf (enL x)) (by kernel_rfl) HX3.out (fun hHeld => ?_)
  refine tk 0 (mo 18 (.move (.tmp 0))) (.pointer (some ⟨g, 0, none⟩)) rfl ?_
  refine tk 1 (mo 19 (.move (.tmp 0))) (.pointer (some ⟨g, 0, none⟩)) rfl ?_
  refine tk 2 (mo 20 (.nilCheck (.tmp 19))) (.pointer (some ⟨g, 0, none⟩)) rfl ?_
  refine tk 3 (mo 21 (.fieldAddr 35 (.tmp 20) 4)) (.pointer (some ⟨g, 35, none⟩)) rfl ?_
  refine tk 5 (mo 23 (.load 50 (.tmp 3))) (.agg (enL x).toArray) rfl ?_ (Or.inl ⟨by rfl, fun W hW => exec_loadEn _ rfl _ 0 x HXO.out rfl (fun i v hv => by rw [Nat.zero_add]; exact hW.cell i hv)⟩)
  refine rdH [4, 6] ?_
  refine AllReadyH.cons (o := ⟨some 22, .load 25 (.tmp 21), _, _, _, _⟩) rfl (fun K hK => ?_) (AllReadyH.cons (o := ⟨some 24, .buildSlice 25 1 #[(0, (.tmp 23))], _, _, _, _⟩) rfl (fun K hK => ?_) AllReadyH.nil)
  ·have hcell := HC3.out _ HR3.out
   go_simp
   clear hcell
   refine hK.out _ _ HX3.out (fun hHeld => ?_)
   clear hK K
   refine rdH [6] ?_
   refine AllReadyH.cons (o := ⟨some 24, .buildSlice 25 1 #[(0, (.tmp 23))], _, _, _, _⟩) rfl (fun K hK => ?_) AllReadyH.nil
   refine ready_step (wp_sl_en _ rfl x HXO.out rfl ?_)
   have hAl := (Below.refl wz.drew.heap.size wz.drew).alloc (Nat.le_refl _) (.cells (enL x).toArray EEf)
   have HR6 := Lib.hid (HR3.out.below hAl)
   have HX6 := Lib.hid (HX3.out.below hAl)
   have HO6 := Lib.hid (HO3.out.below hAl)
   have HB6 := Lib.hid (HB3.out.trans (hAl.mono (Nat.le_trans HBW.out HB3.out.size)))
   have HF6 := Lib.hid (HF3.out.below HS3.out hAl)
   have HS6 := Lib.hid (Nat.le_trans HS3.out hAl.size)
   have HV6 := Lib.hid (oneG (K := enK) wz.drew x HXO.out EEf (enL x).toArray rfl)
   clear hAl
   generalize wz.drew.alloc (.cells (enL x).toArray EEf) = w6 at HR6 HX6 HO6 HB6 HF6 HS6 HV6 ⊢
   generalize wz.drew.heap.size = g6 at HV6 ⊢
   refine hK.out _ _ HX6.out (fun hHeld => ?_)
   clear hK K
   refine rdH [7] ?_
   refine AllReadyH.cons (o := ⟨some 25, .call { callee := .builtin .append, args := #[(.tmp 22), (.tmp 24)], argTypes := #[25, 25] }, _, _, _, _⟩) rfl (fun K hK => ?_) AllReadyH.nil
   refine ready_step (wp_app_en _ _ rfl base _ (LZ) rfl HO6.out.log _ x rfl HV6.out HL3.out (Nat.le_trans HBW.out HB6.out.size) ?_)
   intro a7 c7 w7 ho7 hg7 ht7
   have HR7 := Lib.hid (HR6.out.grown hg7 (row_ne HR6.out HO6.out.log.1))
   have HX7 := Lib.hid (HX6.out.grown hg7 HXN.out)
   have HB7 := Lib.hid (HB6.out.grown hg7 (Nat.le_trans HBW.out HB6.out.size) (fun k hk => (HO6.out.log.lt k hk).1))
   have HF7 := Lib.hid (HF6.out.grown HS6.out hg7 (.inr (.inr HOB.out)))
   have hown := putLog (n' := (LZ).length + 1) HO6.out hg7 ho7 ht7 HR7.out
   have HOw := Lib.hid hown
   clear hown ho7 hg7 ht7
   refine hK.out _ _ HX7.out (fun hHeld => ?_)
   clear hK K
   refine tk 8 (mo 26 (.nilCheck (.tmp 18))) (.pointer (some ⟨g, 0, none⟩)) rfl ?_
   refine tk 9 (mo 27 (.fieldAddr 35 (.tmp 26) 4)) (.pointer (some ⟨g, 35, none⟩)) rfl ?_
   refine rdH [10] ?_
   refine AllReadyH.cons (o := ⟨none, .store 25 (.tmp 27) (.tmp 25), _, _, _, _⟩) rfl (fun K hK => ?_) AllReadyH.nil
   have hcell := HC3.out _ HR7.out
   have hfz := HR7.out.free 35
   go_simp
   have hrow := HR7.out.set 35 (.slice a7 ((LZ).length + 1) c7)
   rw [rfL_log SZ r.head r.at_ HOO.out.at_] at hrow
   have HRw := Lib.hid hrow
   have HXw := Lib.hid (HX7.out.other (a := ⟨g, 35, none⟩) HGU.out (.slice a7 ((LZ).length + 1) c7))
   have HBw := Lib.hid (HB7.out.setCell (p := ⟨g, 35, none⟩) HGB.out (.slice a7 ((LZ).length + 1) c7))
   have HFw := Lib.hid (HF7.out.setCell 35 (.slice a7 ((LZ).length + 1) c7))
   clear hrow hcell hfz
   refine hK.out _ _ HXw.out (fun hHeld => ?_)
   clear hK K
   refine wpAnyH_done (by kernel_rfl) ?_ _
   go_end0
   exact ⟨rfl, _, HRw.out, (by rw [HLG2.out]; exact HOw.out), HBw.out, HFw.out⟩
  ·refine ready_step (wp_sl_en _ rfl x HXO.out rfl ?_)
   have hAl := (Below.refl wz.drew.heap.size wz.drew).alloc (Nat.le_refl _) (.cells (enL x).toArray EEf)
   have HR6 := Lib.hid (HR3.out.below hAl)
   have HX6 := Lib.hid (HX3.out.below hAl)
   have HO6 := Lib.hid (HO3.out.below hAl)
   have HB6 := Lib.hid (HB3.out.trans (hAl.mono (Nat.le_trans HBW.out HB3.out.size)))
   have HF6 := Lib.hid (HF3.out.below HS3.out hAl)
   have HS6 := Lib.hid (Nat.le_trans HS3.out hAl.size)
   have HV6 := Lib.hid (oneG (K := enK) wz.drew x HXO.out EEf (enL x).toArray rfl)
   clear hAl
   generalize wz.drew.alloc (.cells (enL x).toArray EEf) = w6 at HR6 HX6 HO6 HB6 HF6 HS6 HV6 ⊢
   generalize wz.drew.heap.size = g6 at HV6 ⊢
   refine hK.out _ _ HX6.out (fun hHeld => ?_)
   clear hK K
   refine rdH [4] ?_
   refine AllReadyH.cons (o := ⟨some 22, .load 25 (.tmp 21), _, _, _, _⟩) rfl (fun K hK => ?_) AllReadyH.nil
   have hcell := HC3.out _ HR6.out
   go_simp
   clear hcell
   refine hK.out _ _ HX6.out (fun hHeld => ?_)
   clear hK K
   refine rdH [7] ?_
   refine AllReadyH.cons (o := ⟨some 25, .call { callee := .builtin .append, args := #[(.tmp 22), (.tmp 24)], argTypes := #[25, 25] }, _, _, _, _⟩) rfl (fun K hK => ?_) AllReadyH.nil
   refine ready_step (wp_app_en _ _ rfl base _ (LZ) rfl HO6.out.log _ x rfl HV6.out HL3.out (Nat.le_trans HBW.out HB6.out.size) ?_)
   intro a7 c7 w7 ho7 hg7 ht7
   have HR7 := Lib.hid (HR6.out.grown hg7 (row_ne HR6.out HO6.out.log.1))
   have HX7 := Lib.hid (HX6.out.grown hg7 HXN.out)
   have HB7 := Lib.hid (HB6.out.grown hg7 (Nat.le_trans HBW.out HB6.out.size) (fun k hk => (HO6.out.log.lt k hk).1))
   have HF7 := Lib.hid (HF6.out.grown HS6.out hg7 (.inr (.inr HOB.out)))
   have hown := putLog (n' := (LZ).length + 1) HO6.out hg7 ho7 ht7 HR7.out
   have HOw := Lib.hid hown
   clear hown ho7 hg7 ht7
   refine hK.out _ _ HX7.out (fun hHeld => ?_)
   clear hK K
   refine tk 8 (mo 26 (.nilCheck (.tmp 18))) (.pointer (some ⟨g, 0, none⟩)) rfl ?_
   refine tk 9 (mo 27 (.fieldAddr 35 (.tmp 26) 4)) (.pointer (some ⟨g, 35, none⟩)) rfl ?_
   refine rdH [10] ?_
   refine AllReadyH.cons (o := ⟨none, .store 25 (.tmp 27) (.tmp 25), _, _, _, _⟩) rfl (fun K hK => ?_) AllReadyH.nil
   have hcell := HC3.out _ HR7.out
   have hfz := HR7.out.free 35
   go_simp
   have hrow := HR7.out.set 35 (.slice a7 ((LZ).length + 1) c7)
   rw [rfL_log SZ r.head r.at_ HOO.out.at_] at hrow
   have HRw := Lib.hid hrow
   have HXw := Lib.hid (HX7.out.other (a := ⟨g, 35, none⟩) HGU.out (.slice a7 ((LZ).length + 1) c7))
   have HBw := Lib.hid (HB7.out.setCell (p := ⟨g, 35, none⟩) HGB.out (.slice a7 ((LZ).length + 1) c7))
   have HFw := Lib.hid (HF7.out.setCell 35 (.slice a7 ((LZ).length + 1) c7))
   clear hrow hcell hfz
   refine hK.out _ _ HXw.out (fun hHeld => ?_)
   clear hK K
   refine wpAnyH_done (by kernel_rfl) ?_ _
   go_end0
   exact ⟨rfl, _, HRw.out, (by rw [HLG2.out]; exact HOw.out), HBw.out, HFw.out⟩
 ·have HN64 : Hid (¬ (S.nl : Int) = 64) := Lib.hid (by omega)
  rw [if_neg h64] at hlg
  have HLG := Lib.hid hlg
  have hN64 := HN64.out
  clear hR hO hx hgb hb hn hgl hln h64 hlg
  go_enter Tryd.func54, Tryd.ntmps54
  go_wp2
  have HRz := HRa
  have HOz : Hid (RfOwn (w.alloc (.cells (enL x).toArray EEf)) base S { r with log := r.log }) := Lib.hid (HOO.out.below HB.out)
  have HXz := HX
  have HBz := Lib.hid (HB.out.mono HBW.out)
  have HL3 : Hid (r.log.length ≤ 1000000) := Lib.hid (by rw [HLN.out]; exact HNM.out)
  have HOB : Hid ((Value.slice S.al S.nl S.cl).ownBlock = (Value.slice S.al S.nl S.cl).ownBlock) := Lib.hid rfl
  have HFz := Lib.hid (Kept3.of (g := g) (S := S) HB.out)
  have HSz := Lib.hid HB.out.size
  have HXN : Hid (some w.heap.size ≠ (Value.slice S.al S.nl S.cl).ownBlock) := Lib.hid (fun e => by have := (HOO.out.log.lt _ e.symm).2; omega)
  generalize w.alloc (.cells (enL x).toArray EEf) = wz at HRz HOz HXz HBz HFz HSz ⊢
  have HX3 : Hid (RowAt wz.drew w.heap.size EEf (enL x)) := Lib.hid HXz.out
  have HR3 : Hid (RowAt wz.drew g REf (rfL S r.head r.at_)) := Lib.hid HRz.out
  have HO3 : Hid (RfOwn wz.drew base S { r with log := r.log }) := Lib.hid (HOz.out.below (Below.refl _ _).drew)
  have HB3 : Hid (Below base w wz.drew) := Lib.hid HBz.out.drew
  have HF3 : Hid (Kept3 w wz.drew g S) := Lib.hid HFz.out.drew
  have HS3 : Hid (w.heap.size ≤ wz.drew.heap.size) := Lib.hid HSz.out
  have HC3 := Lib.hid (fun W (hh : RowAt W g REf (rfL S r.head r.at_)) => rf_log HOO.out.at_ hh)
  clear HRz HOz HXz HBz HFz HSz
  refine wp_region_held_drew (S := fun W => RowAt W w.heap.size EEf (enL x)) (by kernel_rfl) HX3.out (fun hHeld => ?_)
  refine tk 0 (mo 18 (.move (.tmp 0))) (.pointer (some ⟨g, 0, none⟩)) rfl ?_
  refine tk 1 (mo 19 (.move (.tmp 0))) (.pointer (some ⟨g, 0, none⟩)) rfl ?_
  refine tk 2 (mo 20 (.nilCheck (.tmp 19))) (.pointer (some ⟨g, 0, none⟩)) rfl ?_
  refine tk 3 (mo 21 (.fieldAddr 35 (.tmp 20) 4)) (.pointer (some ⟨g, 35, none⟩)) rfl ?_
  refine tk 5 (mo 23 (.load 50 (.tmp 3))) (.agg (enL x).toArray) rfl ?_ (Or.inl ⟨by rfl, fun W hW => exec_loadEn _ rfl _ 0 x HXO.out rfl (fun i v hv => by rw [Nat.zero_add]; exact hW.cell i hv)⟩)
  refine rdH [4, 6] ?_
  refine AllReadyH.cons (o := ⟨some 22, .load 25 (.tmp 21), _, _, _, _⟩) rfl (fun K hK => ?_) (AllReadyH.cons (o := ⟨some 24, .buildSlice 25 1 #[(0, (.tmp 23))], _, _, _, _⟩) rfl (fun K hK => ?_) AllReadyH.nil)
  ·have hcell := HC3.out _ HR3.out
   go_simp
   clear hcell
   refine hK.out _ _ HX3.out (fun hHeld => ?_)
   clear hK K
   refine rdH [6] ?_
   refine AllReadyH.cons (o := ⟨some 24, .buildSlice 25 1 #[(0, (.tmp 23))], _, _, _, _⟩) rfl (fun K hK => ?_) AllReadyH.nil
   refine ready_step (wp_sl_en _ rfl x HXO.out rfl ?_)
   have hAl := (Below.refl wz.drew.heap.size wz.drew).alloc (Nat.le_refl _) (.cells (enL x).toArray EEf)
   have HR6 := Lib.hid (HR3.out.below hAl)
   have HX6 := Lib.hid (HX3.out.below hAl)
   have HO6 := Lib.hid (HO3.out.below hAl)
   have HB6 := Lib.hid (HB3.out.trans (hAl.mono (Nat.le_trans HBW.out HB3.out.size)))
   have HF6 := Lib.hid (HF3.out.below HS3.out hAl)
   have HS6 := Lib.hid (Nat.le_trans HS3.out hAl.size)
   have HV6 := Lib.hid (oneG (K := enK) wz.drew x HXO.out EEf (enL x).toArray rfl)
   clear hAl
   generalize wz.drew.alloc (.cells (enL x).toArray EEf) = w6 at HR6 HX6 HO6 HB6 HF6 HS6 HV6 ⊢
   generalize wz.drew.heap.size = g6 at HV6 ⊢
   refine hK.out _ _ HX6.out (fun hHeld => ?_)
   clear hK K
   refine rdH [7] ?_
   refine AllReadyH.cons (o := ⟨some 25, .call { callee := .builtin .append, args := #[(.tmp 22), (.tmp 24)], argTypes := #[25, 25] }, _, _, _, _⟩) rfl (fun K hK => ?_) AllReadyH.nil
   refine ready_step (wp_app_en _ _ rfl base _ (r.log) rfl HO6.out.log _ x rfl HV6.out HL3.out (Nat.le_trans HBW.out HB6.out.size) ?_)
   intro a7 c7 w7 ho7 hg7 ht7
   have HR7 := Lib.hid (HR6.out.grown hg7 (row_ne HR6.out HO6.out.log.1))
   have HX7 := Lib.hid (HX6.out.grown hg7 HXN.out)
   have HB7 := Lib.hid (HB6.out.grown hg7 (Nat.le_trans HBW.out HB6.out.size) (fun k hk => (HO6.out.log.lt k hk).1))
   have HF7 := Lib.hid (HF6.out.grown HS6.out hg7 (.inr (.inr HOB.out)))
   have hown := putLog (n' := (r.log).length + 1) HO6.out hg7 ho7 ht7 HR7.out
   have HOw := Lib.hid hown
   clear hown ho7 hg7 ht7
   refine hK.out _ _ HX7.out (fun hHeld => ?_)
   clear hK K
   refine tk 8 (mo 26 (.nilCheck (.tmp 18))) (.pointer (some ⟨g, 0, none⟩)) rfl ?_
   refine tk 9 (mo 27 (.fieldAddr 35 (.tmp 26) 4)) (.pointer (some ⟨g, 35, none⟩)) rfl ?_
   refine rdH [10] ?_
   refine AllReadyH.cons (o := ⟨none, .store 25 (.tmp 27) (.tmp 25), _, _, _, _⟩) rfl (fun K hK => ?_) AllReadyH.nil
   have hcell := HC3.out _ HR7.out
   have hfz := HR7.out.free 35
   go_simp
   have hrow := HR7.out.set 35 (.slice a7 ((r.log).length + 1) c7)
   rw [rfL_log S r.head r.at_ HOO.out.at_] at hrow
   have HRw := Lib.hid hrow
   have HXw := Lib.hid (HX7.out.other (a := ⟨g, 35, none⟩) HGU.out (.slice a7 ((r.log).length + 1) c7))
   have HBw := Lib.hid (HB7.out.setCell (p := ⟨g, 35, none⟩) HGB.out (.slice a7 ((r.log).length + 1) c7))
   have HFw := Lib.hid (HF7.out.setCell 35 (.slice a7 ((r.log).length + 1) c7))
   clear hrow hcell hfz
   refine hK.out _ _ HXw.out (fun hHeld => ?_)
   clear hK K
   refine wpAnyH_done (by kernel_rfl) ?_ _
   go_end0
   exact ⟨rfl, _, HRw.out, (by rw [HLG.out]; exact HOw.out), HBw.out, HFw.out⟩
  ·refine ready_step (wp_sl_en _ rfl x HXO.out rfl ?_)
   have hAl := (Below.refl wz.drew.heap.size wz.drew).alloc (Nat.le_refl _) (.cells (enL x).toArray EEf)
   have HR6 := Lib.hid (HR3.out.below hAl)
   have HX6 := Lib.hid (HX3.out.below hAl)
   have HO6 := Lib.hid (HO3.out.below hAl)
   have HB6 := Lib.hid (HB3.out.trans (hAl.mono (Nat.le_trans HBW.out HB3.out.size)))
   have HF6 := Lib.hid (HF3.out.below HS3.out hAl)
   have HS6 := Lib.hid (Nat.le_trans HS3.out hAl.size)
   have HV6 := Lib.hid (oneG (K := enK) wz.drew x HXO.out EEf (enL x).toArray rfl)
   clear hAl
   generalize wz.drew.alloc (.cells (enL x).toArray EEf) = w6 at HR6 HX6 HO6 HB6 HF6 HS6 HV6 ⊢
   generalize wz.drew.heap.size = g6 at HV6 ⊢
   refine hK.out _ _ HX6.out (fun hHeld => ?_)
   clear hK K
   refine rdH [4] ?_
   refine AllReadyH.cons (o := ⟨some 22, .load 25 (.tmp 21), _, _, _, _⟩) rfl (fun K hK => ?_) AllReadyH.nil
   have hcell := HC3.out _ HR6.out
   go_simp
   clear hcell
   refine hK.out _ _ HX6.out (fun hHeld => ?_)
   clear hK K
   refine rdH [7] ?_
   refine AllReadyH.cons (o := ⟨some 25, .call { callee := .builtin .append, args := #[(.tmp 22), (.tmp 24)], argTypes := #[25, 25] }, _, _, _, _⟩) rfl (fun K hK => ?_) AllReadyH.nil
   refine ready_step (wp_app_en _ _ rfl base _ (r.log) rfl HO6.out.log _ x rfl HV6.out HL3.out (Nat.le_trans HBW.out HB6.out.size) ?_)
   intro a7 c7 w7 ho7 hg7 ht7
   have HR7 := Lib.hid (HR6.out.grown hg7 (row_ne HR6.out HO6.out.log.1))
   have HX7 := Lib.hid (HX6.out.grown hg7 HXN.out)
   have HB7 := Lib.hid (HB6.out.grown hg7 (Nat.le_trans HBW.out HB6.out.size) (fun k hk => (HO6.out.log.lt k hk).1))
   have HF7 := Lib.hid (HF6.out.grown HS6.out hg7 (.inr (.inr HOB.out)))
   have hown := putLog (n' := (r.log).length + 1) HO6.out hg7 ho7 ht7 HR7.out
   have HOw := Lib.hid hown
   clear hown ho7 hg7 ht7
   refine hK.out _ _ HX7.out (fun hHeld => ?_)
   clear hK K
   refine tk 8 (mo 26 (.nilCheck (.tmp 18))) (.pointer (some ⟨g, 0, none⟩)) rfl ?_
   refine tk 9 (mo 27 (.fieldAddr 35 (.tmp 26) 4)) (.pointer (some ⟨g, 35, none⟩)) rfl ?_
   refine rdH [10] ?_
   refine AllReadyH.cons (o := ⟨none, .store 25 (.tmp 27) (.tmp 25), _, _, _, _⟩) rfl (fun K hK => ?_) AllReadyH.nil
   have hcell := HC3.out _ HR7.out
   have hfz := HR7.out.free 35
   go_simp
   have hrow := HR7.out.set 35 (.slice a7 ((r.log).length + 1) c7)
   rw [rfL_log S r.head r.at_ HOO.out.at_] at hrow
   have HRw := Lib.hid hrow
   have HXw := Lib.hid (HX7.out.other (a := ⟨g, 35, none⟩) HGU.out (.slice a7 ((r.log).length + 1) c7))
   have HBw := Lib.hid (HB7.out.setCell (p := ⟨g, 35, none⟩) HGB.out (.slice a7 ((r.log).length + 1) c7))
   have HFw := Lib.hid (HF7.out.setCell 35 (.slice a7 ((r.log).length + 1) c7))
   clear hrow hcell hfz
   refine hK.out _ _ HXw.out (fun hHeld => ?_)
   clear hK K
   refine wpAnyH_done (by kernel_rfl) ?_ _
   go_end0
   exact ⟨rfl, _, HRw.out, (by rw [HLG.out]; exact HOw.out), HBw.out, HFw.out⟩
end Go.Proofs.YthihmlojdopmfaaDoor
