/-
  Merged: RfPut, RfClone, RfTable, RfModel.
-/
import Derived.Test.YtejooogfnnidcaaDoorRfActs
import Derived.Maps.OwnSet
namespace Go.Proofs.YtejooogfnnidcaaDoor
open Go.RowKit

def logF (r : RefsV) (x : EntV) : RefsV := { r with log := (if r.log.length = 64 then r.log.eraseIdx 0 else r.log) ++ [x] }
theorem built_en (u : UpdV) (hu : UpOk u) (n : List UInt8) : Tryd.prog.built 59 [(0, .agg (upL u).toArray), (1, .string (strB n))] = some (enL ⟨u, n⟩).toArray := by
  obtain ⟨h1, h2, h3⟩ := hu
  obtain ⟨k, s, o, m⟩ := u
  simp only at h2 h3
  obtain ⟨b0, b1, b2, b3, b4, b5, b6, b7, b8, b9, b10, b11, b12, b13, b14, b15, b16, b17, b18, b19, b20, b21, b22, b23, b24, b25, b26, b27, b28, b29, b30, b31, rfl⟩ := list32 h2
  obtain ⟨c0, c1, c2, c3, c4, c5, c6, c7, c8, c9, c10, c11, c12, c13, c14, c15, c16, c17, c18, c19, c20, c21, c22, c23, c24, c25, c26, c27, c28, c29, c30, c31, rfl⟩ := list32 h3
  kernel_rfl
theorem exec_en {w : World} {o : Oper} {a : Act} (x0 x1 : Operand) (ho : o.op = .build 59 #[(0, x0), (1, x1)]) (u : UpdV) (hu : UpOk u) (n : List UInt8) (p : ByteArray) (hp : p = strB n) (h0 : a.eval x0 = .agg (upL u).toArray) (h1 : a.eval x1 = .string p) :
    (execOp a.eval o).run Tryd.prog w = .ok (.value (.agg (enL ⟨u, n⟩).toArray)) w := by
  subst hp
  refine exec_build _ _ ho _ ?_
  have e : (#[(0, x0), (1, x1)].map fun (q : Nat × Operand) => (q.1, a.eval q.2)).toList = [(0, .agg (upL u).toArray), (1, .string (strB n))] := by simp [h0, h1]
  exact (congrArg _ e).trans (built_en u hu n)
theorem fill_en (x : EntV) (hx : UpOk x.upd) (z : Value) (hz : z = .agg (enL default).toArray) : Instr.fill (fun i => some (i * 67, 67)) ((Array.range (1 * 67)).map (z.cells[· % z.cells.size]!)) [(0, .agg (enL x).toArray)] = some (enL x).toArray := by
  subst hz
  obtain ⟨⟨k, s, o, m⟩, n⟩ := x
  obtain ⟨h1, h2, h3⟩ := hx
  simp only at h2 h3
  obtain ⟨b0, b1, b2, b3, b4, b5, b6, b7, b8, b9, b10, b11, b12, b13, b14, b15, b16, b17, b18, b19, b20, b21, b22, b23, b24, b25, b26, b27, b28, b29, b30, b31, rfl⟩ := list32 h2
  obtain ⟨c0, c1, c2, c3, c4, c5, c6, c7, c8, c9, c10, c11, c12, c13, c14, c15, c16, c17, c18, c19, c20, c21, c22, c23, c24, c25, c26, c27, c28, c29, c30, c31, rfl⟩ := list32 h3
  kernel_rfl
theorem wp_sl_en {o : Oper} {a : Act} {w : World} {K : Act → World → Prop} {Q : Exit → Act → World → Prop} (x : Operand) (ho : o.op = .buildSlice 25 1 #[(0, x)]) (X : EntV) (hX : UpOk X.upd) (hx : a.eval x = .agg (enL X).toArray)
    (h : K (a.put o.dst (.slice (some ⟨w.heap.size, 0, none⟩) 1 1)) (w.alloc (.cells (enL X).toArray EEf))) : o.wp Tryd.prog a w K Q := by
  obtain ⟨i0, hi, hz0, hz1, hz2⟩ := info_parts infoEf
  refine wp_buildSlice 25 EEf 1 #[(0, x)] ho (enL X).toArray i0 _ Tryd.underlying25 hi hz0 (by rw [hz1]; decide) (by rw [hz1]; decide) ?_ h
  rw [hz1]
  have e : (#[(0, x)].map fun (p : Nat × Operand) => (p.1, a.eval p.2)).toList = [(0, .agg (enL X).toArray)] := by simp [hx]
  exact (congrArg (Instr.fill (fun i => some (i * 67, 67)) _) e).trans (fill_en X hX _ rfl)
theorem wp_app_en {o : Oper} {a : Act} {w : World} {K : Act → World → Prop} {Q : Exit → Act → World → Prop} (s x : Operand) (ho : o.op = .call { callee := .builtin .append, args := #[s, x], argTypes := #[25, 25] })
    (base : Nat) (v : Value) (l : List EntV) (hs : a.eval s = v) (hown : OwnG enK EEf w base v l) (sa : Option Addr) (X : EntV) (hx : a.eval x = .slice sa 1 1) (hsrc : AtG enK w sa 1 1 [X]) (hl : l.length ≤ 1000000) (hbase : base ≤ w.heap.size)
    (h : ∀ a' c' w', OwnG enK EEf w' base (.slice a' (l.length + 1) c') (l ++ [X]) → w.grownBy w' v.ownBlock → Told w v (.slice a' (l.length + 1) c') → K (a.put o.dst (.slice a' (l.length + 1) c')) w') : o.wp Tryd.prog a w K Q := by
  obtain ⟨a', c', w', hrun, h1, h2, h3⟩ := run_appG_told enK o.type Tryd.underlying25 infoEf sizeEf w base v l hown sa 1 1 [X] hsrc (by omega) hbase _ rfl
  exact Lib.wp_append_run _ s x _ _ ho _ _ hs hx _ _ hrun (h a' c' w' h1 h2 h3)
section
variable {w w' : World} {base g : Nat} {S : RfS} {r : RefsV} {L : List EntV} {a' : Option Addr} {n' c' : Nat}
theorem perm_log {α : Type} (x y z : α) : [x, y, z].Perm [z, x, y] := (List.perm_append_comm (l₁ := [x, y]) (l₂ := [z]))
theorem putLog {cs : List Value} (h : RfOwn w base S r) (hg : w.grownBy w' (Value.slice S.al S.nl S.cl).ownBlock) (ho : OwnG enK EEf w' base (.slice a' n' c') L) (ht : Told w (.slice S.al S.nl S.cl) (.slice a' n' c')) (hR : RowAt w' g REf cs) :
    RfOwn (w'.setCell ⟨g, 35, none⟩ (.slice a' n' c')) base { S with al := a', nl := n', cl := c' } { r with log := L } := by
  have H := ((h.holds.perm (perm_log _ _ _)).put (h' := hG enK EEf (.slice a' n' c') L) hg ho.1 ht).perm (perm_log _ _ _).symm
  exact ⟨holds_setBox H hR (fun x hx => by simp only [List.mem_cons, List.not_mem_nil, or_false] at hx; rcases hx with rfl | rfl | rfl <;> first | exact NErf | exact EErf) _ _, h.okb, h.okg, ho.2, h.at_⟩
theorem rfL_log (S : RfS) (h a : List UInt8) (ha : a.length = 32) (v : Option Addr) (n c : Nat) : (rfL S h a).set 35 (.slice v n c) = rfL { S with al := v, nl := n, cl := c } h a := by
  have e : ([.slice S.ab S.nb S.cb, .slice S.ag S.ng S.cg, .string (strB h)] ++ a.map B : List Value).length = 35 := by simp [ha]
  have := putL_mid [.slice v n c] ([.slice S.ab S.nb S.cb, .slice S.ag S.ng S.cg, .string (strB h)] ++ a.map B) [.slice S.al S.nl S.cl] [] rfl
  rw [e] at this
  simpa [rfL, putL] using this
end
theorem erase_len {L : List EntV} (h : L.length = 64) : (L.eraseIdx 0).length = 63 := by rw [List.length_eraseIdx, if_pos (by omega), h]

set_option maxRecDepth 100000 in
set_option maxHeartbeats 2000000 in
theorem log_put (g base : Nat) (S : RfS) (r : RefsV) (x : EntV) (w : World) (hR : RowAt w g REf (rfL S r.head r.at_)) (hO : RfOwn w base S r) (hx : UpOk x.upd) (hgb : base ≤ g) (hb : base ≤ w.heap.size) (hn : S.nl ≤ 100000) :
    Calls Tryd.prog 32 #[.pointer (some ⟨g, 0, none⟩), .agg (enL x).toArray] w fun e w' => e = .returned (.tuple #[]) ∧ ∃ S', RowAt w' g REf (rfL S' r.head r.at_) ∧ RfOwn w' base S' (logF r x) ∧ Below base w w' ∧ Kept3 w w' g S := by
  have HXO := Lib.hid hx
  have HGB := Lib.hid hgb
  have HBW := Lib.hid hb
  have HRO := Lib.hid hR
  have HOO := Lib.hid hO
  have hgl : g < w.heap.size := hR.lt
  have HGU : Hid (w.heap.size ≠ g) := Lib.hid (by omega)
  have hln : r.log.length = S.nl := hO.log.len
  have HLN := Lib.hid hln
  have HNM := Lib.hid (Nat.le_trans hn (by decide) : S.nl ≤ 1000000)
  have HB := Lib.hid ((Below.refl w.heap.size w).alloc (Nat.le_refl _) (.cells (enL x).toArray EEf))
  have HX := Lib.hid (show RowAt (w.alloc (.cells (enL x).toArray EEf)) w.heap.size EEf (enL x) from heap_alloc_new w _)
  have HRa := Lib.hid (HRO.out.below HB.out)
  have c1 := rf_log hO.at_ HRa.out
  have hlg : logF r x = { r with log := (if r.log.length = 64 then r.log.eraseIdx 0 else r.log) ++ [x] } := rfl
  by_cases h64 : r.log.length = 64
  · obtain ⟨q, hal, hqb, hql, _⟩ := hO.log.row (by omega)
    have e64 : S.nl = 64 := by omega
    have HL64 := Lib.hid (erase_len h64)
    have HQG : Hid (some g ≠ some q) := Lib.hid (fun e => by
      have h3 := row_ne (v := .slice S.al S.nl S.cl) hR hO.log.1
      rw [hal] at h3
      exact h3 e)
    have HQB := Lib.hid hqb
    have HQX : Hid (some w.heap.size ≠ some q) := Lib.hid (fun e => by cases e; omega)
    have HAL := Lib.hid hal
    have HN64 := Lib.hid e64
    rw [if_pos h64] at hlg
    have HLG := Lib.hid hlg
    have HDEL := Lib.hid (deleteE_any q 64 S.cl 0 1 base 1 r.log _ (by have := (hO.below HB.out).log; rw [hal, e64] at this; exact this) (by decide) rfl rfl (by decide))
    rw [hal, e64] at c1
    have d64 : decide ((S.nl : Int) = 64) = true := decide_eq_true (by omega)
    have H35 := Lib.hid (fun W (hh : RowAt W g REf (rfL S r.head r.at_)) => rf_log hO.at_ hh)
    clear hR hO hx hgb hb hn hgl hln hal hqb hql e64 h64 hlg d64
    go_enter Tryd.func32, Tryd.ntmps32
    go_wp2_with (go_at_call 56; go_must (refine HDEL.out.mono ?_); rintro e w2 ⟨rfl, ho2, hg2⟩; have HO2 := Lib.hid ho2; have HG2 := Lib.hid hg2; have HR2 := Lib.hid (HRa.out.grown hg2 HQG.out); have HX2 := Lib.hid (HX.out.grown hg2 HQX.out); have HF2 := Lib.hid ((Kept3.of (g := g) (S := S) HB.out).grown HB.out.size hg2 (.inr (.inr (by rw [HAL.out]; rfl)))); have HB2 := Lib.hid ((HB.out.mono HBW.out).grown hg2 (Nat.le_trans HBW.out HB.out.size) (fun k hk => by cases hk; exact HQB.out)); have c2 := H35.out _ HR2.out; have f2 := HR2.out.free 35; clear ho2 hg2)
    have hown := putLog (L := r.log.eraseIdx 0) (a' := some ⟨q, 0, none⟩) (n' := 63) (c' := S.cl) (HOO.out.below HB.out) (by rw [HAL.out]; exact HG2.out) HO2.out (.inl (by rw [HAL.out]; rfl)) HR2.out
    have hrow := HR2.out.set 35 (.slice (some ⟨q, 0, none⟩) 63 S.cl)
    rw [rfL_log S r.head r.at_ HOO.out.at_] at hrow
    have HFz := Lib.hid (HF2.out.setCell 35 (.slice (some ⟨q, 0, none⟩) 63 S.cl))
    have HSz : Hid (w.heap.size ≤ (w2.setCell ⟨g, 35, none⟩ (.slice (some ⟨q, 0, none⟩) 63 S.cl)).heap.size) := Lib.hid (Nat.le_trans HB.out.size (Nat.le_trans HG2.out.size (Below.setCell (Below.refl 0 w2) (p := ⟨g, 35, none⟩) (Nat.zero_le _) _).size))
    have HBz := Lib.hid (HB2.out.setCell (p := ⟨g, 35, none⟩) HGB.out (.slice (some ⟨q, 0, none⟩) 63 S.cl))
    have HXz := Lib.hid (HX2.out.other (a := ⟨g, 35, none⟩) HGU.out (.slice (some ⟨q, 0, none⟩) 63 S.cl))
    have HRz := Lib.hid hrow
    have HOz := Lib.hid hown
    obtain ⟨SZ, hSZ⟩ : ∃ SZ : RfS, SZ = { S with al := some ⟨q, 0, none⟩, nl := 63, cl := S.cl } := ⟨_, rfl⟩
    rw [← hSZ] at hown hrow
    obtain ⟨LZ, hLZ⟩ : ∃ LZ, LZ = r.log.eraseIdx 0 := ⟨_, rfl⟩
    have HLG2 := Lib.hid HLG.out
    rw [← hLZ] at hown HLG2
    have HRz := Lib.hid hrow
    have HOz := Lib.hid hown
    have HL3 : Hid (LZ.length ≤ 1000000) := Lib.hid (by rw [hLZ, HL64.out]; decide)
    have HOB : Hid ((Value.slice SZ.al SZ.nl SZ.cl).ownBlock = (Value.slice S.al S.nl S.cl).ownBlock) := Lib.hid (by rw [hSZ, HAL.out]; rfl)
    have HXN : Hid (some w.heap.size ≠ (Value.slice SZ.al SZ.nl SZ.cl).ownBlock) := Lib.hid (by rw [hSZ]; exact HQX.out)
    clear hSZ hLZ hown hrow c2 f2 HO2 HG2 HR2 HX2 HB2 HF2 HDEL HAL HQX HQB HQG
    generalize w2.setCell ⟨g, 35, none⟩ (.slice (some ⟨q, 0, none⟩) 63 S.cl) = wz at HRz HOz HXz HBz HFz HSz ⊢
    have HX3 : Hid (RowAt wz.drew w.heap.size EEf (enL x)) := Lib.hid HXz.out
    have HR3 : Hid (RowAt wz.drew g REf (rfL SZ r.head r.at_)) := Lib.hid HRz.out
    have HO3 : Hid (RfOwn wz.drew base SZ { r with log := LZ }) := Lib.hid (HOz.out.below (Below.refl _ _).drew)
    have HB3 : Hid (Below base w wz.drew) := Lib.hid HBz.out.drew
    have HF3 : Hid (Kept3 w wz.drew g S) := Lib.hid HFz.out.drew
    have HS3 : Hid (w.heap.size ≤ wz.drew.heap.size) := Lib.hid HSz.out
    have HC3 := Lib.hid (fun W (hh : RowAt W g REf (rfL SZ r.head r.at_)) => rf_log HOO.out.at_ hh)
    clear HRz HOz HXz HBz HFz HSz
    refine wp_region_held_drew (S := fun W => RowAt W w.heap.size EEf (enL x)) (by kernel_rfl) HX3.out (fun hHeld => ?_)
    refine wpAnyH_take (i := 0) (oi := ⟨some 18, .move (.tmp 0), _, _, _, _⟩) (v := (.pointer (some ⟨g, 0, none⟩))) rfl (by kernel_rfl) (by kernel_rfl) (by kernel_rfl) (fun _ _ _ h => h) (Or.inl ⟨by rfl, fun W hW => by go_simp⟩) (by assumption) ?_
    simp only [Act.put, List.setIfInBounds_toArray, List.set_cons_zero, List.set_cons_succ]
    refine wpAnyH_take (i := 1) (oi := ⟨some 19, .move (.tmp 0), _, _, _, _⟩) (v := (.pointer (some ⟨g, 0, none⟩))) rfl (by kernel_rfl) (by kernel_rfl) (by kernel_rfl) (fun _ _ _ h => h) (Or.inl ⟨by rfl, fun W hW => by go_simp⟩) (by assumption) ?_
    simp only [Act.put, List.setIfInBounds_toArray, List.set_cons_zero, List.set_cons_succ]
    refine wpAnyH_take (i := 2) (oi := ⟨some 20, .nilCheck (.tmp 19), _, _, _, _⟩) (v := (.pointer (some ⟨g, 0, none⟩))) rfl (by kernel_rfl) (by kernel_rfl) (by kernel_rfl) (fun _ _ _ h => h) (Or.inl ⟨by rfl, fun W hW => by go_simp⟩) (by assumption) ?_
    simp only [Act.put, List.setIfInBounds_toArray, List.set_cons_zero, List.set_cons_succ]
    refine wpAnyH_take (i := 3) (oi := ⟨some 21, .fieldAddr 34 (.tmp 20) 4, _, _, _, _⟩) (v := (.pointer (some ⟨g, 35, none⟩))) rfl (by kernel_rfl) (by kernel_rfl) (by kernel_rfl) (fun _ _ _ h => h) (Or.inl ⟨by rfl, fun W hW => by go_simp⟩) (by assumption) ?_
    simp only [Act.put, List.setIfInBounds_toArray, List.set_cons_zero, List.set_cons_succ]
    refine wpAnyH_take (i := 5) (oi := ⟨some 23, .load 59 (.tmp 3), _, _, _, _⟩) (v := (.agg (enL x).toArray)) rfl (by kernel_rfl) (by kernel_rfl) (by kernel_rfl) (fun _ _ _ h => h) (Or.inl ⟨by rfl, fun W hW => exec_loadEn _ rfl _ 0 x HXO.out rfl (fun i v hv => by rw [Nat.zero_add]; exact hW.cell i hv)⟩) (by assumption) ?_
    simp only [Act.put, List.setIfInBounds_toArray, List.set_cons_zero, List.set_cons_succ]
    refine wpAnyH_ready (rs := [4, 6]) (by kernel_rfl) (by simp) ?_
    refine AllReadyH.cons (o := ⟨some 22, .load 25 (.tmp 21), _, _, _, _⟩) rfl (fun K hK => ?_) (AllReadyH.cons (o := ⟨some 24, .buildSlice 25 1 #[(0, (.tmp 23))], _, _, _, _⟩) rfl (fun K hK => ?_) AllReadyH.nil)
    · have hcell := HC3.out _ HR3.out
      go_simp
      clear hcell
      refine hK.out _ _ HX3.out (fun hHeld => ?_)
      clear hK K
      refine wpAnyH_ready (rs := [6]) (by kernel_rfl) (by simp) ?_
      refine AllReadyH.cons (o := ⟨some 24, .buildSlice 25 1 #[(0, (.tmp 23))], _, _, _, _⟩) rfl (fun K hK => ?_) AllReadyH.nil
      refine ready_step (wp_sl_en _ rfl x HXO.out rfl ?_)
      have hAl := (Below.refl wz.drew.heap.size wz.drew).alloc (Nat.le_refl _) (.cells (enL x).toArray EEf)
      have HR6 := Lib.hid (HR3.out.below hAl)
      have HX6 := Lib.hid (HX3.out.below hAl)
      have HO6 := Lib.hid (HO3.out.below hAl)
      have HB6 := Lib.hid (HB3.out.trans (hAl.mono (Nat.le_trans HBW.out HB3.out.size)))
      have HF6 := Lib.hid (HF3.out.below HS3.out hAl)
      have HS6 := Lib.hid (Nat.le_trans HS3.out hAl.size)
      have HV6 := Lib.hid (oneG (K := enK) wz.drew x HXO.out EEf (enL x).toArray rfl)
      clear hAl
      generalize wz.drew.alloc (.cells (enL x).toArray EEf) = w6 at HR6 HX6 HO6 HB6 HF6 HS6 HV6 ⊢
      generalize wz.drew.heap.size = g6 at HV6 ⊢
      refine hK.out _ _ HX6.out (fun hHeld => ?_)
      clear hK K
      refine wpAnyH_ready (rs := [7]) (by kernel_rfl) (by simp) ?_
      refine AllReadyH.cons (o := ⟨some 25, .call { callee := .builtin .append, args := #[(.tmp 22), (.tmp 24)], argTypes := #[25, 25] }, _, _, _, _⟩) rfl (fun K hK => ?_) AllReadyH.nil
      refine ready_step (wp_app_en _ _ rfl base _ (LZ) rfl HO6.out.log _ x rfl HV6.out HL3.out (Nat.le_trans HBW.out HB6.out.size) ?_)
      intro a7 c7 w7 ho7 hg7 ht7
      have HR7 := Lib.hid (HR6.out.grown hg7 (row_ne HR6.out HO6.out.log.1))
      have HX7 := Lib.hid (HX6.out.grown hg7 HXN.out)
      have HB7 := Lib.hid (HB6.out.grown hg7 (Nat.le_trans HBW.out HB6.out.size) (fun k hk => (HO6.out.log.lt k hk).1))
      have HF7 := Lib.hid (HF6.out.grown HS6.out hg7 (.inr (.inr HOB.out)))
      have hown := putLog (n' := (LZ).length + 1) HO6.out hg7 ho7 ht7 HR7.out
      have HOw := Lib.hid hown
      clear hown ho7 hg7 ht7
      refine hK.out _ _ HX7.out (fun hHeld => ?_)
      clear hK K
      refine wpAnyH_take (i := 8) (oi := ⟨some 26, .nilCheck (.tmp 18), _, _, _, _⟩) (v := (.pointer (some ⟨g, 0, none⟩))) rfl (by kernel_rfl) (by kernel_rfl) (by kernel_rfl) (fun _ _ _ h => h) (Or.inl ⟨by rfl, fun W hW => by go_simp⟩) (by assumption) ?_
      simp only [Act.put, List.setIfInBounds_toArray, List.set_cons_zero, List.set_cons_succ]
      refine wpAnyH_take (i := 9) (oi := ⟨some 27, .fieldAddr 34 (.tmp 26) 4, _, _, _, _⟩) (v := (.pointer (some ⟨g, 35, none⟩))) rfl (by kernel_rfl) (by kernel_rfl) (by kernel_rfl) (fun _ _ _ h => h) (Or.inl ⟨by rfl, fun W hW => by go_simp⟩) (by assumption) ?_
      simp only [Act.put, List.setIfInBounds_toArray, List.set_cons_zero, List.set_cons_succ]
      refine wpAnyH_ready (rs := [10]) (by kernel_rfl) (by simp) ?_
      refine AllReadyH.cons (o := ⟨none, .store 25 (.tmp 27) (.tmp 25), _, _, _, _⟩) rfl (fun K hK => ?_) AllReadyH.nil
      have hcell := HC3.out _ HR7.out
      have hfz := HR7.out.free 35
      go_simp
      have hrow := HR7.out.set 35 (.slice a7 ((LZ).length + 1) c7)
      rw [rfL_log SZ r.head r.at_ HOO.out.at_] at hrow
      have HRw := Lib.hid hrow
      have HXw := Lib.hid (HX7.out.other (a := ⟨g, 35, none⟩) HGU.out (.slice a7 ((LZ).length + 1) c7))
      have HBw := Lib.hid (HB7.out.setCell (p := ⟨g, 35, none⟩) HGB.out (.slice a7 ((LZ).length + 1) c7))
      have HFw := Lib.hid (HF7.out.setCell 35 (.slice a7 ((LZ).length + 1) c7))
      clear hrow hcell hfz
      refine hK.out _ _ HXw.out (fun hHeld => ?_)
      clear hK K
      refine wpAnyH_done (by kernel_rfl) ?_ _
      go_end0
      exact ⟨rfl, _, HRw.out, (by rw [HLG2.out]; exact HOw.out), HBw.out, HFw.out⟩
    · refine ready_step (wp_sl_en _ rfl x HXO.out rfl ?_)
      have hAl := (Below.refl wz.drew.heap.size wz.drew).alloc (Nat.le_refl _) (.cells (enL x).toArray EEf)
      have HR6 := Lib.hid (HR3.out.below hAl)
      have HX6 := Lib.hid (HX3.out.below hAl)
      have HO6 := Lib.hid (HO3.out.below hAl)
      have HB6 := Lib.hid (HB3.out.trans (hAl.mono (Nat.le_trans HBW.out HB3.out.size)))
      have HF6 := Lib.hid (HF3.out.below HS3.out hAl)
      have HS6 := Lib.hid (Nat.le_trans HS3.out hAl.size)
      have HV6 := Lib.hid (oneG (K := enK) wz.drew x HXO.out EEf (enL x).toArray rfl)
      clear hAl
      generalize wz.drew.alloc (.cells (enL x).toArray EEf) = w6 at HR6 HX6 HO6 HB6 HF6 HS6 HV6 ⊢
      generalize wz.drew.heap.size = g6 at HV6 ⊢
      refine hK.out _ _ HX6.out (fun hHeld => ?_)
      clear hK K
      refine wpAnyH_ready (rs := [4]) (by kernel_rfl) (by simp) ?_
      refine AllReadyH.cons (o := ⟨some 22, .load 25 (.tmp 21), _, _, _, _⟩) rfl (fun K hK => ?_) AllReadyH.nil
      have hcell := HC3.out _ HR6.out
      go_simp
      clear hcell
      refine hK.out _ _ HX6.out (fun hHeld => ?_)
      clear hK K
      refine wpAnyH_ready (rs := [7]) (by kernel_rfl) (by simp) ?_
      refine AllReadyH.cons (o := ⟨some 25, .call { callee := .builtin .append, args := #[(.tmp 22), (.tmp 24)], argTypes := #[25, 25] }, _, _, _, _⟩) rfl (fun K hK => ?_) AllReadyH.nil
      refine ready_step (wp_app_en _ _ rfl base _ (LZ) rfl HO6.out.log _ x rfl HV6.out HL3.out (Nat.le_trans HBW.out HB6.out.size) ?_)
      intro a7 c7 w7 ho7 hg7 ht7
      have HR7 := Lib.hid (HR6.out.grown hg7 (row_ne HR6.out HO6.out.log.1))
      have HX7 := Lib.hid (HX6.out.grown hg7 HXN.out)
      have HB7 := Lib.hid (HB6.out.grown hg7 (Nat.le_trans HBW.out HB6.out.size) (fun k hk => (HO6.out.log.lt k hk).1))
      have HF7 := Lib.hid (HF6.out.grown HS6.out hg7 (.inr (.inr HOB.out)))
      have hown := putLog (n' := (LZ).length + 1) HO6.out hg7 ho7 ht7 HR7.out
      have HOw := Lib.hid hown
      clear hown ho7 hg7 ht7
      refine hK.out _ _ HX7.out (fun hHeld => ?_)
      clear hK K
      refine wpAnyH_take (i := 8) (oi := ⟨some 26, .nilCheck (.tmp 18), _, _, _, _⟩) (v := (.pointer (some ⟨g, 0, none⟩))) rfl (by kernel_rfl) (by kernel_rfl) (by kernel_rfl) (fun _ _ _ h => h) (Or.inl ⟨by rfl, fun W hW => by go_simp⟩) (by assumption) ?_
      simp only [Act.put, List.setIfInBounds_toArray, List.set_cons_zero, List.set_cons_succ]
      refine wpAnyH_take (i := 9) (oi := ⟨some 27, .fieldAddr 34 (.tmp 26) 4, _, _, _, _⟩) (v := (.pointer (some ⟨g, 35, none⟩))) rfl (by kernel_rfl) (by kernel_rfl) (by kernel_rfl) (fun _ _ _ h => h) (Or.inl ⟨by rfl, fun W hW => by go_simp⟩) (by assumption) ?_
      simp only [Act.put, List.setIfInBounds_toArray, List.set_cons_zero, List.set_cons_succ]
      refine wpAnyH_ready (rs := [10]) (by kernel_rfl) (by simp) ?_
      refine AllReadyH.cons (o := ⟨none, .store 25 (.tmp 27) (.tmp 25), _, _, _, _⟩) rfl (fun K hK => ?_) AllReadyH.nil
      have hcell := HC3.out _ HR7.out
      have hfz := HR7.out.free 35
      go_simp
      have hrow := HR7.out.set 35 (.slice a7 ((LZ).length + 1) c7)
      rw [rfL_log SZ r.head r.at_ HOO.out.at_] at hrow
      have HRw := Lib.hid hrow
      have HXw := Lib.hid (HX7.out.other (a := ⟨g, 35, none⟩) HGU.out (.slice a7 ((LZ).length + 1) c7))
      have HBw := Lib.hid (HB7.out.setCell (p := ⟨g, 35, none⟩) HGB.out (.slice a7 ((LZ).length + 1) c7))
      have HFw := Lib.hid (HF7.out.setCell 35 (.slice a7 ((LZ).length + 1) c7))
      clear hrow hcell hfz
      refine hK.out _ _ HXw.out (fun hHeld => ?_)
      clear hK K
      refine wpAnyH_done (by kernel_rfl) ?_ _
      go_end0
      exact ⟨rfl, _, HRw.out, (by rw [HLG2.out]; exact HOw.out), HBw.out, HFw.out⟩
  · have HN64 : Hid (¬ (S.nl : Int) = 64) := Lib.hid (by omega)
    rw [if_neg h64] at hlg
    have HLG := Lib.hid hlg
    have hN64 := HN64.out
    clear hR hO hx hgb hb hn hgl hln h64 hlg
    go_enter Tryd.func32, Tryd.ntmps32
    go_wp2
    have HRz := HRa
    have HOz : Hid (RfOwn (w.alloc (.cells (enL x).toArray EEf)) base S { r with log := r.log }) := Lib.hid (HOO.out.below HB.out)
    have HXz := HX
    have HBz := Lib.hid (HB.out.mono HBW.out)
    have HL3 : Hid (r.log.length ≤ 1000000) := Lib.hid (by rw [HLN.out]; exact HNM.out)
    have HOB : Hid ((Value.slice S.al S.nl S.cl).ownBlock = (Value.slice S.al S.nl S.cl).ownBlock) := Lib.hid rfl
    have HFz := Lib.hid (Kept3.of (g := g) (S := S) HB.out)
    have HSz := Lib.hid HB.out.size
    have HXN : Hid (some w.heap.size ≠ (Value.slice S.al S.nl S.cl).ownBlock) := Lib.hid (fun e => by have := (HOO.out.log.lt _ e.symm).2; omega)
    generalize w.alloc (.cells (enL x).toArray EEf) = wz at HRz HOz HXz HBz HFz HSz ⊢
    have HX3 : Hid (RowAt wz.drew w.heap.size EEf (enL x)) := Lib.hid HXz.out
    have HR3 : Hid (RowAt wz.drew g REf (rfL S r.head r.at_)) := Lib.hid HRz.out
    have HO3 : Hid (RfOwn wz.drew base S { r with log := r.log }) := Lib.hid (HOz.out.below (Below.refl _ _).drew)
    have HB3 : Hid (Below base w wz.drew) := Lib.hid HBz.out.drew
    have HF3 : Hid (Kept3 w wz.drew g S) := Lib.hid HFz.out.drew
    have HS3 : Hid (w.heap.size ≤ wz.drew.heap.size) := Lib.hid HSz.out
    have HC3 := Lib.hid (fun W (hh : RowAt W g REf (rfL S r.head r.at_)) => rf_log HOO.out.at_ hh)
    clear HRz HOz HXz HBz HFz HSz
    refine wp_region_held_drew (S := fun W => RowAt W w.heap.size EEf (enL x)) (by kernel_rfl) HX3.out (fun hHeld => ?_)
    refine wpAnyH_take (i := 0) (oi := ⟨some 18, .move (.tmp 0), _, _, _, _⟩) (v := (.pointer (some ⟨g, 0, none⟩))) rfl (by kernel_rfl) (by kernel_rfl) (by kernel_rfl) (fun _ _ _ h => h) (Or.inl ⟨by rfl, fun W hW => by go_simp⟩) (by assumption) ?_
    simp only [Act.put, List.setIfInBounds_toArray, List.set_cons_zero, List.set_cons_succ]
    refine wpAnyH_take (i := 1) (oi := ⟨some 19, .move (.tmp 0), _, _, _, _⟩) (v := (.pointer (some ⟨g, 0, none⟩))) rfl (by kernel_rfl) (by kernel_rfl) (by kernel_rfl) (fun _ _ _ h => h) (Or.inl ⟨by rfl, fun W hW => by go_simp⟩) (by assumption) ?_
    simp only [Act.put, List.setIfInBounds_toArray, List.set_cons_zero, List.set_cons_succ]
    refine wpAnyH_take (i := 2) (oi := ⟨some 20, .nilCheck (.tmp 19), _, _, _, _⟩) (v := (.pointer (some ⟨g, 0, none⟩))) rfl (by kernel_rfl) (by kernel_rfl) (by kernel_rfl) (fun _ _ _ h => h) (Or.inl ⟨by rfl, fun W hW => by go_simp⟩) (by assumption) ?_
    simp only [Act.put, List.setIfInBounds_toArray, List.set_cons_zero, List.set_cons_succ]
    refine wpAnyH_take (i := 3) (oi := ⟨some 21, .fieldAddr 34 (.tmp 20) 4, _, _, _, _⟩) (v := (.pointer (some ⟨g, 35, none⟩))) rfl (by kernel_rfl) (by kernel_rfl) (by kernel_rfl) (fun _ _ _ h => h) (Or.inl ⟨by rfl, fun W hW => by go_simp⟩) (by assumption) ?_
    simp only [Act.put, List.setIfInBounds_toArray, List.set_cons_zero, List.set_cons_succ]
    refine wpAnyH_take (i := 5) (oi := ⟨some 23, .load 59 (.tmp 3), _, _, _, _⟩) (v := (.agg (enL x).toArray)) rfl (by kernel_rfl) (by kernel_rfl) (by kernel_rfl) (fun _ _ _ h => h) (Or.inl ⟨by rfl, fun W hW => exec_loadEn _ rfl _ 0 x HXO.out rfl (fun i v hv => by rw [Nat.zero_add]; exact hW.cell i hv)⟩) (by assumption) ?_
    simp only [Act.put, List.setIfInBounds_toArray, List.set_cons_zero, List.set_cons_succ]
    refine wpAnyH_ready (rs := [4, 6]) (by kernel_rfl) (by simp) ?_
    refine AllReadyH.cons (o := ⟨some 22, .load 25 (.tmp 21), _, _, _, _⟩) rfl (fun K hK => ?_) (AllReadyH.cons (o := ⟨some 24, .buildSlice 25 1 #[(0, (.tmp 23))], _, _, _, _⟩) rfl (fun K hK => ?_) AllReadyH.nil)
    · have hcell := HC3.out _ HR3.out
      go_simp
      clear hcell
      refine hK.out _ _ HX3.out (fun hHeld => ?_)
      clear hK K
      refine wpAnyH_ready (rs := [6]) (by kernel_rfl) (by simp) ?_
      refine AllReadyH.cons (o := ⟨some 24, .buildSlice 25 1 #[(0, (.tmp 23))], _, _, _, _⟩) rfl (fun K hK => ?_) AllReadyH.nil
      refine ready_step (wp_sl_en _ rfl x HXO.out rfl ?_)
      have hAl := (Below.refl wz.drew.heap.size wz.drew).alloc (Nat.le_refl _) (.cells (enL x).toArray EEf)
      have HR6 := Lib.hid (HR3.out.below hAl)
      have HX6 := Lib.hid (HX3.out.below hAl)
      have HO6 := Lib.hid (HO3.out.below hAl)
      have HB6 := Lib.hid (HB3.out.trans (hAl.mono (Nat.le_trans HBW.out HB3.out.size)))
      have HF6 := Lib.hid (HF3.out.below HS3.out hAl)
      have HS6 := Lib.hid (Nat.le_trans HS3.out hAl.size)
      have HV6 := Lib.hid (oneG (K := enK) wz.drew x HXO.out EEf (enL x).toArray rfl)
      clear hAl
      generalize wz.drew.alloc (.cells (enL x).toArray EEf) = w6 at HR6 HX6 HO6 HB6 HF6 HS6 HV6 ⊢
      generalize wz.drew.heap.size = g6 at HV6 ⊢
      refine hK.out _ _ HX6.out (fun hHeld => ?_)
      clear hK K
      refine wpAnyH_ready (rs := [7]) (by kernel_rfl) (by simp) ?_
      refine AllReadyH.cons (o := ⟨some 25, .call { callee := .builtin .append, args := #[(.tmp 22), (.tmp 24)], argTypes := #[25, 25] }, _, _, _, _⟩) rfl (fun K hK => ?_) AllReadyH.nil
      refine ready_step (wp_app_en _ _ rfl base _ (r.log) rfl HO6.out.log _ x rfl HV6.out HL3.out (Nat.le_trans HBW.out HB6.out.size) ?_)
      intro a7 c7 w7 ho7 hg7 ht7
      have HR7 := Lib.hid (HR6.out.grown hg7 (row_ne HR6.out HO6.out.log.1))
      have HX7 := Lib.hid (HX6.out.grown hg7 HXN.out)
      have HB7 := Lib.hid (HB6.out.grown hg7 (Nat.le_trans HBW.out HB6.out.size) (fun k hk => (HO6.out.log.lt k hk).1))
      have HF7 := Lib.hid (HF6.out.grown HS6.out hg7 (.inr (.inr HOB.out)))
      have hown := putLog (n' := (r.log).length + 1) HO6.out hg7 ho7 ht7 HR7.out
      have HOw := Lib.hid hown
      clear hown ho7 hg7 ht7
      refine hK.out _ _ HX7.out (fun hHeld => ?_)
      clear hK K
      refine wpAnyH_take (i := 8) (oi := ⟨some 26, .nilCheck (.tmp 18), _, _, _, _⟩) (v := (.pointer (some ⟨g, 0, none⟩))) rfl (by kernel_rfl) (by kernel_rfl) (by kernel_rfl) (fun _ _ _ h => h) (Or.inl ⟨by rfl, fun W hW => by go_simp⟩) (by assumption) ?_
      simp only [Act.put, List.setIfInBounds_toArray, List.set_cons_zero, List.set_cons_succ]
      refine wpAnyH_take (i := 9) (oi := ⟨some 27, .fieldAddr 34 (.tmp 26) 4, _, _, _, _⟩) (v := (.pointer (some ⟨g, 35, none⟩))) rfl (by kernel_rfl) (by kernel_rfl) (by kernel_rfl) (fun _ _ _ h => h) (Or.inl ⟨by rfl, fun W hW => by go_simp⟩) (by assumption) ?_
      simp only [Act.put, List.setIfInBounds_toArray, List.set_cons_zero, List.set_cons_succ]
      refine wpAnyH_ready (rs := [10]) (by kernel_rfl) (by simp) ?_
      refine AllReadyH.cons (o := ⟨none, .store 25 (.tmp 27) (.tmp 25), _, _, _, _⟩) rfl (fun K hK => ?_) AllReadyH.nil
      have hcell := HC3.out _ HR7.out
      have hfz := HR7.out.free 35
      go_simp
      have hrow := HR7.out.set 35 (.slice a7 ((r.log).length + 1) c7)
      rw [rfL_log S r.head r.at_ HOO.out.at_] at hrow
      have HRw := Lib.hid hrow
      have HXw := Lib.hid (HX7.out.other (a := ⟨g, 35, none⟩) HGU.out (.slice a7 ((r.log).length + 1) c7))
      have HBw := Lib.hid (HB7.out.setCell (p := ⟨g, 35, none⟩) HGB.out (.slice a7 ((r.log).length + 1) c7))
      have HFw := Lib.hid (HF7.out.setCell 35 (.slice a7 ((r.log).length + 1) c7))
      clear hrow hcell hfz
      refine hK.out _ _ HXw.out (fun hHeld => ?_)
      clear hK K
      refine wpAnyH_done (by kernel_rfl) ?_ _
      go_end0
      exact ⟨rfl, _, HRw.out, (by rw [HLG.out]; exact HOw.out), HBw.out, HFw.out⟩
    · refine ready_step (wp_sl_en _ rfl x HXO.out rfl ?_)
      have hAl := (Below.refl wz.drew.heap.size wz.drew).alloc (Nat.le_refl _) (.cells (enL x).toArray EEf)
      have HR6 := Lib.hid (HR3.out.below hAl)
      have HX6 := Lib.hid (HX3.out.below hAl)
      have HO6 := Lib.hid (HO3.out.below hAl)
      have HB6 := Lib.hid (HB3.out.trans (hAl.mono (Nat.le_trans HBW.out HB3.out.size)))
      have HF6 := Lib.hid (HF3.out.below HS3.out hAl)
      have HS6 := Lib.hid (Nat.le_trans HS3.out hAl.size)
      have HV6 := Lib.hid (oneG (K := enK) wz.drew x HXO.out EEf (enL x).toArray rfl)
      clear hAl
      generalize wz.drew.alloc (.cells (enL x).toArray EEf) = w6 at HR6 HX6 HO6 HB6 HF6 HS6 HV6 ⊢
      generalize wz.drew.heap.size = g6 at HV6 ⊢
      refine hK.out _ _ HX6.out (fun hHeld => ?_)
      clear hK K
      refine wpAnyH_ready (rs := [4]) (by kernel_rfl) (by simp) ?_
      refine AllReadyH.cons (o := ⟨some 22, .load 25 (.tmp 21), _, _, _, _⟩) rfl (fun K hK => ?_) AllReadyH.nil
      have hcell := HC3.out _ HR6.out
      go_simp
      clear hcell
      refine hK.out _ _ HX6.out (fun hHeld => ?_)
      clear hK K
      refine wpAnyH_ready (rs := [7]) (by kernel_rfl) (by simp) ?_
      refine AllReadyH.cons (o := ⟨some 25, .call { callee := .builtin .append, args := #[(.tmp 22), (.tmp 24)], argTypes := #[25, 25] }, _, _, _, _⟩) rfl (fun K hK => ?_) AllReadyH.nil
      refine ready_step (wp_app_en _ _ rfl base _ (r.log) rfl HO6.out.log _ x rfl HV6.out HL3.out (Nat.le_trans HBW.out HB6.out.size) ?_)
      intro a7 c7 w7 ho7 hg7 ht7
      have HR7 := Lib.hid (HR6.out.grown hg7 (row_ne HR6.out HO6.out.log.1))
      have HX7 := Lib.hid (HX6.out.grown hg7 HXN.out)
      have HB7 := Lib.hid (HB6.out.grown hg7 (Nat.le_trans HBW.out HB6.out.size) (fun k hk => (HO6.out.log.lt k hk).1))
      have HF7 := Lib.hid (HF6.out.grown HS6.out hg7 (.inr (.inr HOB.out)))
      have hown := putLog (n' := (r.log).length + 1) HO6.out hg7 ho7 ht7 HR7.out
      have HOw := Lib.hid hown
      clear hown ho7 hg7 ht7
      refine hK.out _ _ HX7.out (fun hHeld => ?_)
      clear hK K
      refine wpAnyH_take (i := 8) (oi := ⟨some 26, .nilCheck (.tmp 18), _, _, _, _⟩) (v := (.pointer (some ⟨g, 0, none⟩))) rfl (by kernel_rfl) (by kernel_rfl) (by kernel_rfl) (fun _ _ _ h => h) (Or.inl ⟨by rfl, fun W hW => by go_simp⟩) (by assumption) ?_
      simp only [Act.put, List.setIfInBounds_toArray, List.set_cons_zero, List.set_cons_succ]
      refine wpAnyH_take (i := 9) (oi := ⟨some 27, .fieldAddr 34 (.tmp 26) 4, _, _, _, _⟩) (v := (.pointer (some ⟨g, 35, none⟩))) rfl (by kernel_rfl) (by kernel_rfl) (by kernel_rfl) (fun _ _ _ h => h) (Or.inl ⟨by rfl, fun W hW => by go_simp⟩) (by assumption) ?_
      simp only [Act.put, List.setIfInBounds_toArray, List.set_cons_zero, List.set_cons_succ]
      refine wpAnyH_ready (rs := [10]) (by kernel_rfl) (by simp) ?_
      refine AllReadyH.cons (o := ⟨none, .store 25 (.tmp 27) (.tmp 25), _, _, _, _⟩) rfl (fun K hK => ?_) AllReadyH.nil
      have hcell := HC3.out _ HR7.out
      have hfz := HR7.out.free 35
      go_simp
      have hrow := HR7.out.set 35 (.slice a7 ((r.log).length + 1) c7)
      rw [rfL_log S r.head r.at_ HOO.out.at_] at hrow
      have HRw := Lib.hid hrow
      have HXw := Lib.hid (HX7.out.other (a := ⟨g, 35, none⟩) HGU.out (.slice a7 ((r.log).length + 1) c7))
      have HBw := Lib.hid (HB7.out.setCell (p := ⟨g, 35, none⟩) HGB.out (.slice a7 ((r.log).length + 1) c7))
      have HFw := Lib.hid (HF7.out.setCell 35 (.slice a7 ((r.log).length + 1) c7))
      clear hrow hcell hfz
      refine hK.out _ _ HXw.out (fun hHeld => ?_)
      clear hK K
      refine wpAnyH_done (by kernel_rfl) ?_ _
      go_end0
      exact ⟨rfl, _, HRw.out, (by rw [HLG.out]; exact HOw.out), HBw.out, HFw.out⟩
#print axioms log_put
end Go.Proofs.YtejooogfnnidcaaDoor

namespace Go.Proofs.YtejooogfnnidcaaDoor
open Go.RowKit

/-- Refs stored into a block of them. -/
theorem wl_store_rf {S : RfS} {h a : List UInt8} (ha : a.length = 32) {w : World} {g : Nat} {us : List Value} (hR : RowAt w g REf us) (hl : us.length = 36) {ops : Array Oper} {rest : List Oper} {o : Oper} {ac : Act} {Q : Exit → Act → World → Prop} (hgd : o.guard = none) (x y : Operand) (ho : o.op = .store REf x y)
    (hx : ac.eval x = .pointer (some ⟨g, 0, none⟩)) (hy : ac.eval y = .agg (rfC S h a))
    (hQ : ∀ W, RowAt W g REf (rfL S h a) → w.grownBy W (some g) → wpList Tryd.prog ops Q rest (ac.put o.dst undef) W) : wpList Tryd.prog ops Q (o :: rest) ac w := by
  have hs : (rfC S h a).size = 36 := by unfold rfC; rw [List.size_toArray]; exact rfL_len ha
  have hk : (Tryd.prog.info? REf).map (·.size) = some (rfC S h a).size := by rw [hs]; kernel_rfl
  refine wpList_store_row hgd REf x y ho g (rfC S h a) hx hy REf us.toArray hR hk (by rw [hs]; simpa using hl) ?_ (hQ _ (setRow_heap _ _ us.toArray (rfC S h a) _ _ hR) ?_)
  · rw [Array.all_eq_true_iff_forall_mem]
    intro v hv
    exact rfL_one S h a v (by simpa [rfC] using hv)
  · refine ⟨rfl, rfl, rfl, by simp [World.setRow], fun k hk hne => ?_⟩
    unfold World.setRow
    rw [Array.getElem?_modify, if_neg (fun e => hne (by rw [e]))]
/-- A box of another type grew: the rows lie as they lay. -/
theorem Holds.grownOut {w w' : World} {base g : Nat} {T : TypeId} {cs : List Value} {Hs : List Hold} (H : Holds w base Hs) (hg : w.grownBy w' (some g)) (hE : ∀ x ∈ Hs, x.E ≠ T) (hR : RowAt w g T cs) : Holds w' base Hs :=
  ⟨fun x hx => World.ownsRow.kept (H.own x hx) hg (.inr (row_ne hR (H.own x hx) (hE x hx).symm).symm), H.two⟩
theorem len36 {S : RfS} {h a : List UInt8} (ha : a.length = 32) : (rfL S h a).length = 36 := rfL_len ha
/-- The lengths of refs' rows. -/
def RfFew (S : RfS) : Prop := S.nb ≤ 100000 ∧ S.ng ≤ 100000 ∧ S.nl ≤ 100000

set_option maxRecDepth 100000 in
set_option maxHeartbeats 4000000 in
theorem clone_any (S : RfS) (r : RefsV) (w : World) (h : RfIn w S r) (hn : RfFew S) :
    Calls Tryd.prog 30 #[.agg (rfC S r.head r.at_)] w fun e w' => ∃ S', e = .returned (.agg (rfC S' r.head r.at_)) ∧ RfOwn w' w.heap.size S' r ∧ Below w.heap.size w w' := by
  have HAT := Lib.hid h.at_
  have HCB := Lib.hid (fun W (hW : Below w.heap.size w W) => cloneN_any S.ab S.nb S.cb r.br W (h.below hW).br (Nat.le_trans hn.1 (by decide)))
  have HCG := Lib.hid (fun W (hW : Below w.heap.size w W) => cloneN_any S.ag S.ng S.cg r.tg W (h.below hW).tg (Nat.le_trans hn.2.1 (by decide)))
  have HCL := Lib.hid (fun W (hW : Below w.heap.size w W) => cloneE_any S.al S.nl S.cl r.log W (h.below hW).log (Nat.le_trans hn.2.2 (by decide)))
  obtain ⟨w1, hw1⟩ : ∃ w1, w1 = w.alloc (.cells (rfC S r.head r.at_) REf) := ⟨_, rfl⟩
  obtain ⟨w0, hw0⟩ : ∃ w0, w0 = w1.alloc (.cells (rfC noS [] zId) REf) := ⟨_, rfl⟩
  have hz1 : w1.heap.size = w.heap.size + 1 := by rw [hw1]; simp
  have hb1 : Below w.heap.size w w1 := by rw [hw1]; exact (Below.refl _ _).alloc (Nat.le_refl _) _
  have hb0 : Below w1.heap.size w1 w0 := by rw [hw0]; exact (Below.refl _ _).alloc (Nat.le_refl _) _
  have HB0 : Hid (Below w.heap.size w w0.drew) := Lib.hid (hb1.trans (hb0.mono (by omega))).drew
  have hr1 : RowAt w1 w.heap.size REf (rfL S r.head r.at_) := by rw [hw1]; exact heap_alloc_new w _
  have HR0 : Hid (RowAt w0.drew w.heap.size REf (rfL S r.head r.at_)) := Lib.hid (hr1.below (w' := w0.drew) hb0.drew)
  have HZ0 : Hid (RowAt w0.drew (w.heap.size + 1) REf (rfL noS [] zId)) := Lib.hid (show w0.heap[w.heap.size + 1]? = _ by rw [hw0, ← hz1]; exact heap_alloc_new w1 _)
  have HW1 := Lib.hid hw1
  have HW0 := Lib.hid hw0
  clear h hn hw1 hw0 hz1 hb1 hb0 hr1
  go_enter Tryd.func30, Tryd.ntmps30
  go_wp2
  rw [← HW1.out]
  show Code.wp _ _ _ _ (w1.alloc (.cells (rfC noS [] zId) REf))
  rw [← HW0.out]
  refine wp_region_held_drew (S := fun _ => True) (by kernel_rfl) trivial (fun hHeld => ?_)
  refine wpAnyH_take (i := 0) (oi := ⟨some 3, .fieldAddr 34 (.tmp 1) 0, _, _, _, _⟩) (v := (.pointer (some ⟨w.heap.size, 0, none⟩))) rfl (by kernel_rfl) (by kernel_rfl) (by kernel_rfl) (fun _ _ _ h => h) (Or.inl ⟨by rfl, fun W hW => by go_simp⟩) (by assumption) ?_
  simp only [Act.put, List.setIfInBounds_toArray, List.set_cons_zero, List.set_cons_succ]
  refine wpAnyH_take (i := 3) (oi := ⟨some 6, .fieldAddr 34 (.tmp 1) 1, _, _, _, _⟩) (v := (.pointer (some ⟨w.heap.size, 1, none⟩))) rfl (by kernel_rfl) (by kernel_rfl) (by kernel_rfl) (fun _ _ _ h => h) (Or.inl ⟨by rfl, fun W hW => by go_simp⟩) (by assumption) ?_
  simp only [Act.put, List.setIfInBounds_toArray, List.set_cons_zero, List.set_cons_succ]
  refine wpAnyH_take (i := 6) (oi := ⟨some 9, .fieldAddr 34 (.tmp 1) 4, _, _, _, _⟩) (v := (.pointer (some ⟨w.heap.size, 35, none⟩))) rfl (by kernel_rfl) (by kernel_rfl) (by kernel_rfl) (fun _ _ _ h => h) (Or.inl ⟨by rfl, fun W hW => by go_simp⟩) (by assumption) ?_
  simp only [Act.put, List.setIfInBounds_toArray, List.set_cons_zero, List.set_cons_succ]
  refine wpAnyH_ready (rs := [1, 4, 7]) (by kernel_rfl) (by simp) ?_
  refine AllReadyH.cons (o := ⟨some 4, .load 32 (.tmp 3), _, _, _, _⟩) rfl (fun K hK => ?_) (AllReadyH.cons (o := ⟨some 7, .load 32 (.tmp 6), _, _, _, _⟩) rfl (fun K hK => ?_) (AllReadyH.cons (o := ⟨some 10, .load 25 (.tmp 9), _, _, _, _⟩) rfl (fun K hK => ?_) AllReadyH.nil))
  · have hcell := rf_br HR0.out
    go_simp
    clear hcell
    refine hK.out _ _ trivial (fun hHeld => ?_)
    clear hK K
    refine wpAnyH_ready (rs := [2, 4, 7]) (by kernel_rfl) (by simp) ?_
    refine AllReadyH.cons (o := ⟨some 5, .call { callee := .value (.func 51), args := #[(.tmp 4)], argTypes := #[32] }, _, _, _, _⟩) rfl (fun K hK => ?_) (AllReadyH.cons (o := ⟨some 7, .load 32 (.tmp 6), _, _, _, _⟩) rfl (fun K hK => ?_) (AllReadyH.cons (o := ⟨some 10, .load 25 (.tmp 9), _, _, _, _⟩) rfl (fun K hK => ?_) AllReadyH.nil))
    · go_simp
      refine (HCB.out _ HB0.out).mono ?_
      rintro e w2 ⟨a2, c2, rfl, ho2, hb2⟩
      have HH2 := Lib.hid (Holds.add (base := w.heap.size) (h := hG rnK NEf (.slice a2 S.nb c2) r.br) Holds.nil ho2.1 hb2 HB0.out.size)
      have HK2 := Lib.hid ho2.2
      have HR2 := Lib.hid (HR0.out.below hb2)
      have HZ2 := Lib.hid (HZ0.out.below hb2)
      have HB2 := Lib.hid (HB0.out.trans (hb2.mono HB0.out.size))
      clear ho2 hb2
      refine hK.out _ _ trivial (fun hHeld => ?_)
      clear hK K
      refine wpAnyH_ready (rs := [4, 7]) (by kernel_rfl) (by simp) ?_
      refine AllReadyH.cons (o := ⟨some 7, .load 32 (.tmp 6), _, _, _, _⟩) rfl (fun K hK => ?_) (AllReadyH.cons (o := ⟨some 10, .load 25 (.tmp 9), _, _, _, _⟩) rfl (fun K hK => ?_) AllReadyH.nil)
      · have hcell := rf_tg HR2.out
        go_simp
        clear hcell
        refine hK.out _ _ trivial (fun hHeld => ?_)
        clear hK K
        refine wpAnyH_ready (rs := [5, 7]) (by kernel_rfl) (by simp) ?_
        refine AllReadyH.cons (o := ⟨some 8, .call { callee := .value (.func 51), args := #[(.tmp 7)], argTypes := #[32] }, _, _, _, _⟩) rfl (fun K hK => ?_) (AllReadyH.cons (o := ⟨some 10, .load 25 (.tmp 9), _, _, _, _⟩) rfl (fun K hK => ?_) AllReadyH.nil)
        · go_simp
          refine (HCG.out _ HB2.out).mono ?_
          rintro e w5 ⟨a5, c5, rfl, ho5, hb5⟩
          have HH5 := Lib.hid (Holds.add (base := w.heap.size) (h := hG rnK NEf (.slice a5 S.ng c5) r.tg) HH2.out ho5.1 hb5 HB2.out.size)
          have HK5 := Lib.hid ho5.2
          have HR5 := Lib.hid (HR2.out.below hb5)
          have HZ5 := Lib.hid (HZ2.out.below hb5)
          have HB5 := Lib.hid (HB2.out.trans (hb5.mono HB2.out.size))
          clear ho5 hb5
          refine hK.out _ _ trivial (fun hHeld => ?_)
          clear hK K
          refine wpAnyH_ready (rs := [7]) (by kernel_rfl) (by simp) ?_
          refine AllReadyH.cons (o := ⟨some 10, .load 25 (.tmp 9), _, _, _, _⟩) rfl (fun K hK => ?_) AllReadyH.nil
          have hcell := rf_log HAT.out HR5.out
          go_simp
          clear hcell
          refine hK.out _ _ trivial (fun hHeld => ?_)
          clear hK K
          refine wpAnyH_take (i := 9) (oi := ⟨some 12, .fieldAddr 34 (.tmp 1) 0, _, _, _, _⟩) (v := (.pointer (some ⟨w.heap.size, 0, none⟩))) rfl (by kernel_rfl) (by kernel_rfl) (by kernel_rfl) (fun _ _ _ h => h) (Or.inl ⟨by rfl, fun W hW => by go_simp⟩) (by assumption) ?_
          simp only [Act.put, List.setIfInBounds_toArray, List.set_cons_zero, List.set_cons_succ]
          refine wpAnyH_ready (rs := [8]) (by kernel_rfl) (by simp) ?_
          refine AllReadyH.cons (o := ⟨some 11, .call { callee := .value (.func 52), args := #[(.tmp 10)], argTypes := #[25] }, _, _, _, _⟩) rfl (fun K hK => ?_) AllReadyH.nil
          go_simp
          refine (HCL.out _ HB5.out).mono ?_
          rintro e w8 ⟨a8, c8, rfl, ho8, hb8⟩
          have HH8 := Lib.hid (Holds.add (base := w.heap.size) (h := hG enK EEf (.slice a8 S.nl c8) r.log) HH5.out ho8.1 hb8 HB5.out.size)
          have HK8 := Lib.hid ho8.2
          have HR8 := Lib.hid (HR5.out.below hb8)
          have HZ8 := Lib.hid (HZ5.out.below hb8)
          have HB8 := Lib.hid (HB5.out.trans (hb8.mono HB5.out.size))
          clear ho8 hb8
          refine hK.out _ _ trivial (fun hHeld => ?_)
          clear hK K
          have HO8 := Lib.hid (Holds.perm HH8.out (List.reverse_perm _).symm)
          have NEr3 : ∀ x ∈ [hG rnK NEf (.slice a2 S.nb c2) r.br, hG rnK NEf (.slice a5 S.ng c5) r.tg, hG enK EEf (.slice a8 S.nl c8) r.log], x.E ≠ REf := fun x hx => by simp only [List.mem_cons, List.not_mem_nil, or_false] at hx; rcases hx with rfl | rfl | rfl <;> first | exact NErf | exact EErf
          refine wpAnyH_ready (rs := [10]) (by kernel_rfl) (by simp) ?_
          refine AllReadyH.cons (o := ⟨none, .store 32 (.tmp 12) (.tmp 5), _, _, _, _⟩) rfl (fun K hK => ?_) AllReadyH.nil
          have hcell := rf_br HR8.out
          have hfz := HR8.out.free 0
          go_simp
          clear hcell hfz
          have HR18 : Hid (RowAt (w8.setCell ⟨w.heap.size, 0, none⟩ (.slice a2 S.nb c2)) w.heap.size REf (rfL { S with ab := a2, cb := c2 } r.head r.at_)) := Lib.hid (HR8.out.set 0 (.slice a2 S.nb c2))
          have HO18 := Lib.hid (holds_setBox HO8.out HR8.out NEr3 0 (.slice a2 S.nb c2))
          have HZ18 := Lib.hid (HZ8.out.other (a := ⟨w.heap.size, 0, none⟩) (Nat.succ_ne_self _) (.slice a2 S.nb c2))
          have HB18 := Lib.hid (HB8.out.setCell (p := ⟨w.heap.size, 0, none⟩) (Nat.le_refl _) (.slice a2 S.nb c2))
          generalize w8.setCell ⟨w.heap.size, 0, none⟩ (.slice a2 S.nb c2) = w18 at HR18 HO18 HZ18 HB18 ⊢
          refine hK.out _ _ trivial (fun hHeld => ?_)
          clear hK K
          refine wpAnyH_take (i := 11) (oi := ⟨some 13, .fieldAddr 34 (.tmp 1) 1, _, _, _, _⟩) (v := (.pointer (some ⟨w.heap.size, 1, none⟩))) rfl (by kernel_rfl) (by kernel_rfl) (by kernel_rfl) (fun _ _ _ h => h) (Or.inl ⟨by rfl, fun W hW => by go_simp⟩) (by assumption) ?_
          simp only [Act.put, List.setIfInBounds_toArray, List.set_cons_zero, List.set_cons_succ]
          refine wpAnyH_ready (rs := [12]) (by kernel_rfl) (by simp) ?_
          refine AllReadyH.cons (o := ⟨none, .store 32 (.tmp 13) (.tmp 8), _, _, _, _⟩) rfl (fun K hK => ?_) AllReadyH.nil
          have hcell := rf_tg HR18.out
          have hfz := HR18.out.free 1
          go_simp
          clear hcell hfz
          have HR19 : Hid (RowAt (w18.setCell ⟨w.heap.size, 1, none⟩ (.slice a5 S.ng c5)) w.heap.size REf (rfL { S with ab := a2, cb := c2, ag := a5, cg := c5 } r.head r.at_)) := Lib.hid (HR18.out.set 1 (.slice a5 S.ng c5))
          have HO19 := Lib.hid (holds_setBox HO18.out HR18.out NEr3 1 (.slice a5 S.ng c5))
          have HZ19 := Lib.hid (HZ18.out.other (a := ⟨w.heap.size, 1, none⟩) (Nat.succ_ne_self _) (.slice a5 S.ng c5))
          have HB19 := Lib.hid (HB18.out.setCell (p := ⟨w.heap.size, 1, none⟩) (Nat.le_refl _) (.slice a5 S.ng c5))
          generalize w18.setCell ⟨w.heap.size, 1, none⟩ (.slice a5 S.ng c5) = w19 at HR19 HO19 HZ19 HB19 ⊢
          refine hK.out _ _ trivial (fun hHeld => ?_)
          clear hK K
          refine wpAnyH_take (i := 13) (oi := ⟨some 14, .fieldAddr 34 (.tmp 1) 4, _, _, _, _⟩) (v := (.pointer (some ⟨w.heap.size, 35, none⟩))) rfl (by kernel_rfl) (by kernel_rfl) (by kernel_rfl) (fun _ _ _ h => h) (Or.inl ⟨by rfl, fun W hW => by go_simp⟩) (by assumption) ?_
          simp only [Act.put, List.setIfInBounds_toArray, List.set_cons_zero, List.set_cons_succ]
          refine wpAnyH_ready (rs := [14]) (by kernel_rfl) (by simp) ?_
          refine AllReadyH.cons (o := ⟨none, .store 25 (.tmp 14) (.tmp 11), _, _, _, _⟩) rfl (fun K hK => ?_) AllReadyH.nil
          have hcell := rf_log HAT.out HR19.out
          have hfz := HR19.out.free 35
          go_simp
          clear hcell hfz
          have hrow := HR19.out.set 35 (.slice a8 S.nl c8)
          rw [rfL_log ({ S with ab := a2, cb := c2, ag := a5, cg := c5 }) r.head r.at_ HAT.out] at hrow
          have HR20 : Hid (RowAt (w19.setCell ⟨w.heap.size, 35, none⟩ (.slice a8 S.nl c8)) w.heap.size REf (rfL { S with ab := a2, cb := c2, ag := a5, cg := c5, al := a8, cl := c8 } r.head r.at_)) := Lib.hid hrow
          have HO20 := Lib.hid (holds_setBox HO19.out HR19.out NEr3 35 (.slice a8 S.nl c8))
          have HZ20 := Lib.hid (HZ19.out.other (a := ⟨w.heap.size, 35, none⟩) (Nat.succ_ne_self _) (.slice a8 S.nl c8))
          have HB20 := Lib.hid (HB19.out.setCell (p := ⟨w.heap.size, 35, none⟩) (Nat.le_refl _) (.slice a8 S.nl c8))
          generalize w19.setCell ⟨w.heap.size, 35, none⟩ (.slice a8 S.nl c8) = w20 at HR20 HO20 HZ20 HB20 ⊢
          refine hK.out _ _ trivial (fun hHeld => ?_)
          clear hK K
          refine wpAnyH_done (by kernel_rfl) ?_ _
          go_wp2_with (first
            | ((with_reducible show wpList _ _ _ (⟨some 15, _, _, _, _, _⟩ :: _) _ _); go_must (refine wl_ex rfl (exec_loadRf _ rfl _ { S with ab := a2, cb := c2, ag := a5, cg := c5, al := a8, cl := c8 } r.head r.at_ HAT.out rfl HR20.out) ?_))
            | ((with_reducible show wpList _ _ _ (⟨_, Op.store _ (.tmp 2) _, _, _, _, _⟩ :: _) _ _); go_must (refine wl_store_rf (S := { S with ab := a2, cb := c2, ag := a5, cg := c5, al := a8, cl := c8 }) (h := r.head) (a := r.at_) HAT.out HZ20.out (len36 rfl) rfl _ _ rfl rfl rfl ?_); intro w21 hr21 hg21; have HR21 := Lib.hid hr21; have HG21 := Lib.hid hg21; clear hr21 hg21))
          refine bodyPost_ret (results_row rfl _ _ (w.heap.size + 1) REf (rfL { S with ab := a2, cb := c2, ag := a5, cg := c5, al := a8, cl := c8 } r.head r.at_) _ rfl HR21.out Tryd.underlying34 rfl (size36 HAT.out)) rfl ?_
          refine ⟨{ S with ab := a2, cb := c2, ag := a5, cg := c5, al := a8, cl := c8 }, rfl, ⟨HO20.out.grownOut HG21.out NEr3 HZ20.out, HK2.out, HK5.out, HK8.out, HAT.out⟩, HB20.out.grown HG21.out HB20.out.size (fun k hk => by cases hk; omega)⟩
        · have hcell := rf_log HAT.out HR2.out
          go_simp
          clear hcell
          refine hK.out _ _ trivial (fun hHeld => ?_)
          clear hK K
          refine wpAnyH_take (i := 9) (oi := ⟨some 12, .fieldAddr 34 (.tmp 1) 0, _, _, _, _⟩) (v := (.pointer (some ⟨w.heap.size, 0, none⟩))) rfl (by kernel_rfl) (by kernel_rfl) (by kernel_rfl) (fun _ _ _ h => h) (Or.inl ⟨by rfl, fun W hW => by go_simp⟩) (by assumption) ?_
          simp only [Act.put, List.setIfInBounds_toArray, List.set_cons_zero, List.set_cons_succ]
          refine wpAnyH_ready (rs := [5]) (by kernel_rfl) (by simp) ?_
          refine AllReadyH.cons (o := ⟨some 8, .call { callee := .value (.func 51), args := #[(.tmp 7)], argTypes := #[32] }, _, _, _, _⟩) rfl (fun K hK => ?_) AllReadyH.nil
          go_simp
          refine (HCG.out _ HB2.out).mono ?_
          rintro e w5 ⟨a5, c5, rfl, ho5, hb5⟩
          have HH5 := Lib.hid (Holds.add (base := w.heap.size) (h := hG rnK NEf (.slice a5 S.ng c5) r.tg) HH2.out ho5.1 hb5 HB2.out.size)
          have HK5 := Lib.hid ho5.2
          have HR5 := Lib.hid (HR2.out.below hb5)
          have HZ5 := Lib.hid (HZ2.out.below hb5)
          have HB5 := Lib.hid (HB2.out.trans (hb5.mono HB2.out.size))
          clear ho5 hb5
          refine hK.out _ _ trivial (fun hHeld => ?_)
          clear hK K
          refine wpAnyH_ready (rs := [8]) (by kernel_rfl) (by simp) ?_
          refine AllReadyH.cons (o := ⟨some 11, .call { callee := .value (.func 52), args := #[(.tmp 10)], argTypes := #[25] }, _, _, _, _⟩) rfl (fun K hK => ?_) AllReadyH.nil
          go_simp
          refine (HCL.out _ HB5.out).mono ?_
          rintro e w8 ⟨a8, c8, rfl, ho8, hb8⟩
          have HH8 := Lib.hid (Holds.add (base := w.heap.size) (h := hG enK EEf (.slice a8 S.nl c8) r.log) HH5.out ho8.1 hb8 HB5.out.size)
          have HK8 := Lib.hid ho8.2
          have HR8 := Lib.hid (HR5.out.below hb8)
          have HZ8 := Lib.hid (HZ5.out.below hb8)
          have HB8 := Lib.hid (HB5.out.trans (hb8.mono HB5.out.size))
          clear ho8 hb8
          refine hK.out _ _ trivial (fun hHeld => ?_)
          clear hK K
          have HO8 := Lib.hid (Holds.perm HH8.out (List.reverse_perm _).symm)
          have NEr3 : ∀ x ∈ [hG rnK NEf (.slice a2 S.nb c2) r.br, hG rnK NEf (.slice a5 S.ng c5) r.tg, hG enK EEf (.slice a8 S.nl c8) r.log], x.E ≠ REf := fun x hx => by simp only [List.mem_cons, List.not_mem_nil, or_false] at hx; rcases hx with rfl | rfl | rfl <;> first | exact NErf | exact EErf
          refine wpAnyH_ready (rs := [10]) (by kernel_rfl) (by simp) ?_
          refine AllReadyH.cons (o := ⟨none, .store 32 (.tmp 12) (.tmp 5), _, _, _, _⟩) rfl (fun K hK => ?_) AllReadyH.nil
          have hcell := rf_br HR8.out
          have hfz := HR8.out.free 0
          go_simp
          clear hcell hfz
          have HR18 : Hid (RowAt (w8.setCell ⟨w.heap.size, 0, none⟩ (.slice a2 S.nb c2)) w.heap.size REf (rfL { S with ab := a2, cb := c2 } r.head r.at_)) := Lib.hid (HR8.out.set 0 (.slice a2 S.nb c2))
          have HO18 := Lib.hid (holds_setBox HO8.out HR8.out NEr3 0 (.slice a2 S.nb c2))
          have HZ18 := Lib.hid (HZ8.out.other (a := ⟨w.heap.size, 0, none⟩) (Nat.succ_ne_self _) (.slice a2 S.nb c2))
          have HB18 := Lib.hid (HB8.out.setCell (p := ⟨w.heap.size, 0, none⟩) (Nat.le_refl _) (.slice a2 S.nb c2))
          generalize w8.setCell ⟨w.heap.size, 0, none⟩ (.slice a2 S.nb c2) = w18 at HR18 HO18 HZ18 HB18 ⊢
          refine hK.out _ _ trivial (fun hHeld => ?_)
          clear hK K
          refine wpAnyH_take (i := 11) (oi := ⟨some 13, .fieldAddr 34 (.tmp 1) 1, _, _, _, _⟩) (v := (.pointer (some ⟨w.heap.size, 1, none⟩))) rfl (by kernel_rfl) (by kernel_rfl) (by kernel_rfl) (fun _ _ _ h => h) (Or.inl ⟨by rfl, fun W hW => by go_simp⟩) (by assumption) ?_
          simp only [Act.put, List.setIfInBounds_toArray, List.set_cons_zero, List.set_cons_succ]
          refine wpAnyH_ready (rs := [12]) (by kernel_rfl) (by simp) ?_
          refine AllReadyH.cons (o := ⟨none, .store 32 (.tmp 13) (.tmp 8), _, _, _, _⟩) rfl (fun K hK => ?_) AllReadyH.nil
          have hcell := rf_tg HR18.out
          have hfz := HR18.out.free 1
          go_simp
          clear hcell hfz
          have HR19 : Hid (RowAt (w18.setCell ⟨w.heap.size, 1, none⟩ (.slice a5 S.ng c5)) w.heap.size REf (rfL { S with ab := a2, cb := c2, ag := a5, cg := c5 } r.head r.at_)) := Lib.hid (HR18.out.set 1 (.slice a5 S.ng c5))
          have HO19 := Lib.hid (holds_setBox HO18.out HR18.out NEr3 1 (.slice a5 S.ng c5))
          have HZ19 := Lib.hid (HZ18.out.other (a := ⟨w.heap.size, 1, none⟩) (Nat.succ_ne_self _) (.slice a5 S.ng c5))
          have HB19 := Lib.hid (HB18.out.setCell (p := ⟨w.heap.size, 1, none⟩) (Nat.le_refl _) (.slice a5 S.ng c5))
          generalize w18.setCell ⟨w.heap.size, 1, none⟩ (.slice a5 S.ng c5) = w19 at HR19 HO19 HZ19 HB19 ⊢
          refine hK.out _ _ trivial (fun hHeld => ?_)
          clear hK K
          refine wpAnyH_take (i := 13) (oi := ⟨some 14, .fieldAddr 34 (.tmp 1) 4, _, _, _, _⟩) (v := (.pointer (some ⟨w.heap.size, 35, none⟩))) rfl (by kernel_rfl) (by kernel_rfl) (by kernel_rfl) (fun _ _ _ h => h) (Or.inl ⟨by rfl, fun W hW => by go_simp⟩) (by assumption) ?_
          simp only [Act.put, List.setIfInBounds_toArray, List.set_cons_zero, List.set_cons_succ]
          refine wpAnyH_ready (rs := [14]) (by kernel_rfl) (by simp) ?_
          refine AllReadyH.cons (o := ⟨none, .store 25 (.tmp 14) (.tmp 11), _, _, _, _⟩) rfl (fun K hK => ?_) AllReadyH.nil
          have hcell := rf_log HAT.out HR19.out
          have hfz := HR19.out.free 35
          go_simp
          clear hcell hfz
          have hrow := HR19.out.set 35 (.slice a8 S.nl c8)
          rw [rfL_log ({ S with ab := a2, cb := c2, ag := a5, cg := c5 }) r.head r.at_ HAT.out] at hrow
          have HR20 : Hid (RowAt (w19.setCell ⟨w.heap.size, 35, none⟩ (.slice a8 S.nl c8)) w.heap.size REf (rfL { S with ab := a2, cb := c2, ag := a5, cg := c5, al := a8, cl := c8 } r.head r.at_)) := Lib.hid hrow
          have HO20 := Lib.hid (holds_setBox HO19.out HR19.out NEr3 35 (.slice a8 S.nl c8))
          have HZ20 := Lib.hid (HZ19.out.other (a := ⟨w.heap.size, 35, none⟩) (Nat.succ_ne_self _) (.slice a8 S.nl c8))
          have HB20 := Lib.hid (HB19.out.setCell (p := ⟨w.heap.size, 35, none⟩) (Nat.le_refl _) (.slice a8 S.nl c8))
          generalize w19.setCell ⟨w.heap.size, 35, none⟩ (.slice a8 S.nl c8) = w20 at HR20 HO20 HZ20 HB20 ⊢
          refine hK.out _ _ trivial (fun hHeld => ?_)
          clear hK K
          refine wpAnyH_done (by kernel_rfl) ?_ _
          go_wp2_with (first
            | ((with_reducible show wpList _ _ _ (⟨some 15, _, _, _, _, _⟩ :: _) _ _); go_must (refine wl_ex rfl (exec_loadRf _ rfl _ { S with ab := a2, cb := c2, ag := a5, cg := c5, al := a8, cl := c8 } r.head r.at_ HAT.out rfl HR20.out) ?_))
            | ((with_reducible show wpList _ _ _ (⟨_, Op.store _ (.tmp 2) _, _, _, _, _⟩ :: _) _ _); go_must (refine wl_store_rf (S := { S with ab := a2, cb := c2, ag := a5, cg := c5, al := a8, cl := c8 }) (h := r.head) (a := r.at_) HAT.out HZ20.out (len36 rfl) rfl _ _ rfl rfl rfl ?_); intro w21 hr21 hg21; have HR21 := Lib.hid hr21; have HG21 := Lib.hid hg21; clear hr21 hg21))
          refine bodyPost_ret (results_row rfl _ _ (w.heap.size + 1) REf (rfL { S with ab := a2, cb := c2, ag := a5, cg := c5, al := a8, cl := c8 } r.head r.at_) _ rfl HR21.out Tryd.underlying34 rfl (size36 HAT.out)) rfl ?_
          refine ⟨{ S with ab := a2, cb := c2, ag := a5, cg := c5, al := a8, cl := c8 }, rfl, ⟨HO20.out.grownOut HG21.out NEr3 HZ20.out, HK2.out, HK5.out, HK8.out, HAT.out⟩, HB20.out.grown HG21.out HB20.out.size (fun k hk => by cases hk; omega)⟩
      · have hcell := rf_log HAT.out HR2.out
        go_simp
        clear hcell
        refine hK.out _ _ trivial (fun hHeld => ?_)
        clear hK K
        refine wpAnyH_ready (rs := [4]) (by kernel_rfl) (by simp) ?_
        refine AllReadyH.cons (o := ⟨some 7, .load 32 (.tmp 6), _, _, _, _⟩) rfl (fun K hK => ?_) AllReadyH.nil
        have hcell := rf_tg HR2.out
        go_simp
        clear hcell
        refine hK.out _ _ trivial (fun hHeld => ?_)
        clear hK K
        refine wpAnyH_take (i := 9) (oi := ⟨some 12, .fieldAddr 34 (.tmp 1) 0, _, _, _, _⟩) (v := (.pointer (some ⟨w.heap.size, 0, none⟩))) rfl (by kernel_rfl) (by kernel_rfl) (by kernel_rfl) (fun _ _ _ h => h) (Or.inl ⟨by rfl, fun W hW => by go_simp⟩) (by assumption) ?_
        simp only [Act.put, List.setIfInBounds_toArray, List.set_cons_zero, List.set_cons_succ]
        refine wpAnyH_ready (rs := [5]) (by kernel_rfl) (by simp) ?_
        refine AllReadyH.cons (o := ⟨some 8, .call { callee := .value (.func 51), args := #[(.tmp 7)], argTypes := #[32] }, _, _, _, _⟩) rfl (fun K hK => ?_) AllReadyH.nil
        go_simp
        refine (HCG.out _ HB2.out).mono ?_
        rintro e w5 ⟨a5, c5, rfl, ho5, hb5⟩
        have HH5 := Lib.hid (Holds.add (base := w.heap.size) (h := hG rnK NEf (.slice a5 S.ng c5) r.tg) HH2.out ho5.1 hb5 HB2.out.size)
        have HK5 := Lib.hid ho5.2
        have HR5 := Lib.hid (HR2.out.below hb5)
        have HZ5 := Lib.hid (HZ2.out.below hb5)
        have HB5 := Lib.hid (HB2.out.trans (hb5.mono HB2.out.size))
        clear ho5 hb5
        refine hK.out _ _ trivial (fun hHeld => ?_)
        clear hK K
        refine wpAnyH_ready (rs := [8]) (by kernel_rfl) (by simp) ?_
        refine AllReadyH.cons (o := ⟨some 11, .call { callee := .value (.func 52), args := #[(.tmp 10)], argTypes := #[25] }, _, _, _, _⟩) rfl (fun K hK => ?_) AllReadyH.nil
        go_simp
        refine (HCL.out _ HB5.out).mono ?_
        rintro e w8 ⟨a8, c8, rfl, ho8, hb8⟩
        have HH8 := Lib.hid (Holds.add (base := w.heap.size) (h := hG enK EEf (.slice a8 S.nl c8) r.log) HH5.out ho8.1 hb8 HB5.out.size)
        have HK8 := Lib.hid ho8.2
        have HR8 := Lib.hid (HR5.out.below hb8)
        have HZ8 := Lib.hid (HZ5.out.below hb8)
        have HB8 := Lib.hid (HB5.out.trans (hb8.mono HB5.out.size))
        clear ho8 hb8
        refine hK.out _ _ trivial (fun hHeld => ?_)
        clear hK K
        have HO8 := Lib.hid (Holds.perm HH8.out (List.reverse_perm _).symm)
        have NEr3 : ∀ x ∈ [hG rnK NEf (.slice a2 S.nb c2) r.br, hG rnK NEf (.slice a5 S.ng c5) r.tg, hG enK EEf (.slice a8 S.nl c8) r.log], x.E ≠ REf := fun x hx => by simp only [List.mem_cons, List.not_mem_nil, or_false] at hx; rcases hx with rfl | rfl | rfl <;> first | exact NErf | exact EErf
        refine wpAnyH_ready (rs := [10]) (by kernel_rfl) (by simp) ?_
        refine AllReadyH.cons (o := ⟨none, .store 32 (.tmp 12) (.tmp 5), _, _, _, _⟩) rfl (fun K hK => ?_) AllReadyH.nil
        have hcell := rf_br HR8.out
        have hfz := HR8.out.free 0
        go_simp
        clear hcell hfz
        have HR18 : Hid (RowAt (w8.setCell ⟨w.heap.size, 0, none⟩ (.slice a2 S.nb c2)) w.heap.size REf (rfL { S with ab := a2, cb := c2 } r.head r.at_)) := Lib.hid (HR8.out.set 0 (.slice a2 S.nb c2))
        have HO18 := Lib.hid (holds_setBox HO8.out HR8.out NEr3 0 (.slice a2 S.nb c2))
        have HZ18 := Lib.hid (HZ8.out.other (a := ⟨w.heap.size, 0, none⟩) (Nat.succ_ne_self _) (.slice a2 S.nb c2))
        have HB18 := Lib.hid (HB8.out.setCell (p := ⟨w.heap.size, 0, none⟩) (Nat.le_refl _) (.slice a2 S.nb c2))
        generalize w8.setCell ⟨w.heap.size, 0, none⟩ (.slice a2 S.nb c2) = w18 at HR18 HO18 HZ18 HB18 ⊢
        refine hK.out _ _ trivial (fun hHeld => ?_)
        clear hK K
        refine wpAnyH_take (i := 11) (oi := ⟨some 13, .fieldAddr 34 (.tmp 1) 1, _, _, _, _⟩) (v := (.pointer (some ⟨w.heap.size, 1, none⟩))) rfl (by kernel_rfl) (by kernel_rfl) (by kernel_rfl) (fun _ _ _ h => h) (Or.inl ⟨by rfl, fun W hW => by go_simp⟩) (by assumption) ?_
        simp only [Act.put, List.setIfInBounds_toArray, List.set_cons_zero, List.set_cons_succ]
        refine wpAnyH_ready (rs := [12]) (by kernel_rfl) (by simp) ?_
        refine AllReadyH.cons (o := ⟨none, .store 32 (.tmp 13) (.tmp 8), _, _, _, _⟩) rfl (fun K hK => ?_) AllReadyH.nil
        have hcell := rf_tg HR18.out
        have hfz := HR18.out.free 1
        go_simp
        clear hcell hfz
        have HR19 : Hid (RowAt (w18.setCell ⟨w.heap.size, 1, none⟩ (.slice a5 S.ng c5)) w.heap.size REf (rfL { S with ab := a2, cb := c2, ag := a5, cg := c5 } r.head r.at_)) := Lib.hid (HR18.out.set 1 (.slice a5 S.ng c5))
        have HO19 := Lib.hid (holds_setBox HO18.out HR18.out NEr3 1 (.slice a5 S.ng c5))
        have HZ19 := Lib.hid (HZ18.out.other (a := ⟨w.heap.size, 1, none⟩) (Nat.succ_ne_self _) (.slice a5 S.ng c5))
        have HB19 := Lib.hid (HB18.out.setCell (p := ⟨w.heap.size, 1, none⟩) (Nat.le_refl _) (.slice a5 S.ng c5))
        generalize w18.setCell ⟨w.heap.size, 1, none⟩ (.slice a5 S.ng c5) = w19 at HR19 HO19 HZ19 HB19 ⊢
        refine hK.out _ _ trivial (fun hHeld => ?_)
        clear hK K
        refine wpAnyH_take (i := 13) (oi := ⟨some 14, .fieldAddr 34 (.tmp 1) 4, _, _, _, _⟩) (v := (.pointer (some ⟨w.heap.size, 35, none⟩))) rfl (by kernel_rfl) (by kernel_rfl) (by kernel_rfl) (fun _ _ _ h => h) (Or.inl ⟨by rfl, fun W hW => by go_simp⟩) (by assumption) ?_
        simp only [Act.put, List.setIfInBounds_toArray, List.set_cons_zero, List.set_cons_succ]
        refine wpAnyH_ready (rs := [14]) (by kernel_rfl) (by simp) ?_
        refine AllReadyH.cons (o := ⟨none, .store 25 (.tmp 14) (.tmp 11), _, _, _, _⟩) rfl (fun K hK => ?_) AllReadyH.nil
        have hcell := rf_log HAT.out HR19.out
        have hfz := HR19.out.free 35
        go_simp
        clear hcell hfz
        have hrow := HR19.out.set 35 (.slice a8 S.nl c8)
        rw [rfL_log ({ S with ab := a2, cb := c2, ag := a5, cg := c5 }) r.head r.at_ HAT.out] at hrow
        have HR20 : Hid (RowAt (w19.setCell ⟨w.heap.size, 35, none⟩ (.slice a8 S.nl c8)) w.heap.size REf (rfL { S with ab := a2, cb := c2, ag := a5, cg := c5, al := a8, cl := c8 } r.head r.at_)) := Lib.hid hrow
        have HO20 := Lib.hid (holds_setBox HO19.out HR19.out NEr3 35 (.slice a8 S.nl c8))
        have HZ20 := Lib.hid (HZ19.out.other (a := ⟨w.heap.size, 35, none⟩) (Nat.succ_ne_self _) (.slice a8 S.nl c8))
        have HB20 := Lib.hid (HB19.out.setCell (p := ⟨w.heap.size, 35, none⟩) (Nat.le_refl _) (.slice a8 S.nl c8))
        generalize w19.setCell ⟨w.heap.size, 35, none⟩ (.slice a8 S.nl c8) = w20 at HR20 HO20 HZ20 HB20 ⊢
        refine hK.out _ _ trivial (fun hHeld => ?_)
        clear hK K
        refine wpAnyH_done (by kernel_rfl) ?_ _
        go_wp2_with (first
          | ((with_reducible show wpList _ _ _ (⟨some 15, _, _, _, _, _⟩ :: _) _ _); go_must (refine wl_ex rfl (exec_loadRf _ rfl _ { S with ab := a2, cb := c2, ag := a5, cg := c5, al := a8, cl := c8 } r.head r.at_ HAT.out rfl HR20.out) ?_))
          | ((with_reducible show wpList _ _ _ (⟨_, Op.store _ (.tmp 2) _, _, _, _, _⟩ :: _) _ _); go_must (refine wl_store_rf (S := { S with ab := a2, cb := c2, ag := a5, cg := c5, al := a8, cl := c8 }) (h := r.head) (a := r.at_) HAT.out HZ20.out (len36 rfl) rfl _ _ rfl rfl rfl ?_); intro w21 hr21 hg21; have HR21 := Lib.hid hr21; have HG21 := Lib.hid hg21; clear hr21 hg21))
        refine bodyPost_ret (results_row rfl _ _ (w.heap.size + 1) REf (rfL { S with ab := a2, cb := c2, ag := a5, cg := c5, al := a8, cl := c8 } r.head r.at_) _ rfl HR21.out Tryd.underlying34 rfl (size36 HAT.out)) rfl ?_
        refine ⟨{ S with ab := a2, cb := c2, ag := a5, cg := c5, al := a8, cl := c8 }, rfl, ⟨HO20.out.grownOut HG21.out NEr3 HZ20.out, HK2.out, HK5.out, HK8.out, HAT.out⟩, HB20.out.grown HG21.out HB20.out.size (fun k hk => by cases hk; omega)⟩
    · have hcell := rf_tg HR0.out
      go_simp
      clear hcell
      refine hK.out _ _ trivial (fun hHeld => ?_)
      clear hK K
      refine wpAnyH_ready (rs := [2, 7]) (by kernel_rfl) (by simp) ?_
      refine AllReadyH.cons (o := ⟨some 5, .call { callee := .value (.func 51), args := #[(.tmp 4)], argTypes := #[32] }, _, _, _, _⟩) rfl (fun K hK => ?_) (AllReadyH.cons (o := ⟨some 10, .load 25 (.tmp 9), _, _, _, _⟩) rfl (fun K hK => ?_) AllReadyH.nil)
      · go_simp
        refine (HCB.out _ HB0.out).mono ?_
        rintro e w2 ⟨a2, c2, rfl, ho2, hb2⟩
        have HH2 := Lib.hid (Holds.add (base := w.heap.size) (h := hG rnK NEf (.slice a2 S.nb c2) r.br) Holds.nil ho2.1 hb2 HB0.out.size)
        have HK2 := Lib.hid ho2.2
        have HR2 := Lib.hid (HR0.out.below hb2)
        have HZ2 := Lib.hid (HZ0.out.below hb2)
        have HB2 := Lib.hid (HB0.out.trans (hb2.mono HB0.out.size))
        clear ho2 hb2
        refine hK.out _ _ trivial (fun hHeld => ?_)
        clear hK K
        refine wpAnyH_ready (rs := [5, 7]) (by kernel_rfl) (by simp) ?_
        refine AllReadyH.cons (o := ⟨some 8, .call { callee := .value (.func 51), args := #[(.tmp 7)], argTypes := #[32] }, _, _, _, _⟩) rfl (fun K hK => ?_) (AllReadyH.cons (o := ⟨some 10, .load 25 (.tmp 9), _, _, _, _⟩) rfl (fun K hK => ?_) AllReadyH.nil)
        · go_simp
          refine (HCG.out _ HB2.out).mono ?_
          rintro e w5 ⟨a5, c5, rfl, ho5, hb5⟩
          have HH5 := Lib.hid (Holds.add (base := w.heap.size) (h := hG rnK NEf (.slice a5 S.ng c5) r.tg) HH2.out ho5.1 hb5 HB2.out.size)
          have HK5 := Lib.hid ho5.2
          have HR5 := Lib.hid (HR2.out.below hb5)
          have HZ5 := Lib.hid (HZ2.out.below hb5)
          have HB5 := Lib.hid (HB2.out.trans (hb5.mono HB2.out.size))
          clear ho5 hb5
          refine hK.out _ _ trivial (fun hHeld => ?_)
          clear hK K
          refine wpAnyH_ready (rs := [7]) (by kernel_rfl) (by simp) ?_
          refine AllReadyH.cons (o := ⟨some 10, .load 25 (.tmp 9), _, _, _, _⟩) rfl (fun K hK => ?_) AllReadyH.nil
          have hcell := rf_log HAT.out HR5.out
          go_simp
          clear hcell
          refine hK.out _ _ trivial (fun hHeld => ?_)
          clear hK K
          refine wpAnyH_take (i := 9) (oi := ⟨some 12, .fieldAddr 34 (.tmp 1) 0, _, _, _, _⟩) (v := (.pointer (some ⟨w.heap.size, 0, none⟩))) rfl (by kernel_rfl) (by kernel_rfl) (by kernel_rfl) (fun _ _ _ h => h) (Or.inl ⟨by rfl, fun W hW => by go_simp⟩) (by assumption) ?_
          simp only [Act.put, List.setIfInBounds_toArray, List.set_cons_zero, List.set_cons_succ]
          refine wpAnyH_ready (rs := [8]) (by kernel_rfl) (by simp) ?_
          refine AllReadyH.cons (o := ⟨some 11, .call { callee := .value (.func 52), args := #[(.tmp 10)], argTypes := #[25] }, _, _, _, _⟩) rfl (fun K hK => ?_) AllReadyH.nil
          go_simp
          refine (HCL.out _ HB5.out).mono ?_
          rintro e w8 ⟨a8, c8, rfl, ho8, hb8⟩
          have HH8 := Lib.hid (Holds.add (base := w.heap.size) (h := hG enK EEf (.slice a8 S.nl c8) r.log) HH5.out ho8.1 hb8 HB5.out.size)
          have HK8 := Lib.hid ho8.2
          have HR8 := Lib.hid (HR5.out.below hb8)
          have HZ8 := Lib.hid (HZ5.out.below hb8)
          have HB8 := Lib.hid (HB5.out.trans (hb8.mono HB5.out.size))
          clear ho8 hb8
          refine hK.out _ _ trivial (fun hHeld => ?_)
          clear hK K
          have HO8 := Lib.hid (Holds.perm HH8.out (List.reverse_perm _).symm)
          have NEr3 : ∀ x ∈ [hG rnK NEf (.slice a2 S.nb c2) r.br, hG rnK NEf (.slice a5 S.ng c5) r.tg, hG enK EEf (.slice a8 S.nl c8) r.log], x.E ≠ REf := fun x hx => by simp only [List.mem_cons, List.not_mem_nil, or_false] at hx; rcases hx with rfl | rfl | rfl <;> first | exact NErf | exact EErf
          refine wpAnyH_ready (rs := [10]) (by kernel_rfl) (by simp) ?_
          refine AllReadyH.cons (o := ⟨none, .store 32 (.tmp 12) (.tmp 5), _, _, _, _⟩) rfl (fun K hK => ?_) AllReadyH.nil
          have hcell := rf_br HR8.out
          have hfz := HR8.out.free 0
          go_simp
          clear hcell hfz
          have HR18 : Hid (RowAt (w8.setCell ⟨w.heap.size, 0, none⟩ (.slice a2 S.nb c2)) w.heap.size REf (rfL { S with ab := a2, cb := c2 } r.head r.at_)) := Lib.hid (HR8.out.set 0 (.slice a2 S.nb c2))
          have HO18 := Lib.hid (holds_setBox HO8.out HR8.out NEr3 0 (.slice a2 S.nb c2))
          have HZ18 := Lib.hid (HZ8.out.other (a := ⟨w.heap.size, 0, none⟩) (Nat.succ_ne_self _) (.slice a2 S.nb c2))
          have HB18 := Lib.hid (HB8.out.setCell (p := ⟨w.heap.size, 0, none⟩) (Nat.le_refl _) (.slice a2 S.nb c2))
          generalize w8.setCell ⟨w.heap.size, 0, none⟩ (.slice a2 S.nb c2) = w18 at HR18 HO18 HZ18 HB18 ⊢
          refine hK.out _ _ trivial (fun hHeld => ?_)
          clear hK K
          refine wpAnyH_take (i := 11) (oi := ⟨some 13, .fieldAddr 34 (.tmp 1) 1, _, _, _, _⟩) (v := (.pointer (some ⟨w.heap.size, 1, none⟩))) rfl (by kernel_rfl) (by kernel_rfl) (by kernel_rfl) (fun _ _ _ h => h) (Or.inl ⟨by rfl, fun W hW => by go_simp⟩) (by assumption) ?_
          simp only [Act.put, List.setIfInBounds_toArray, List.set_cons_zero, List.set_cons_succ]
          refine wpAnyH_ready (rs := [12]) (by kernel_rfl) (by simp) ?_
          refine AllReadyH.cons (o := ⟨none, .store 32 (.tmp 13) (.tmp 8), _, _, _, _⟩) rfl (fun K hK => ?_) AllReadyH.nil
          have hcell := rf_tg HR18.out
          have hfz := HR18.out.free 1
          go_simp
          clear hcell hfz
          have HR19 : Hid (RowAt (w18.setCell ⟨w.heap.size, 1, none⟩ (.slice a5 S.ng c5)) w.heap.size REf (rfL { S with ab := a2, cb := c2, ag := a5, cg := c5 } r.head r.at_)) := Lib.hid (HR18.out.set 1 (.slice a5 S.ng c5))
          have HO19 := Lib.hid (holds_setBox HO18.out HR18.out NEr3 1 (.slice a5 S.ng c5))
          have HZ19 := Lib.hid (HZ18.out.other (a := ⟨w.heap.size, 1, none⟩) (Nat.succ_ne_self _) (.slice a5 S.ng c5))
          have HB19 := Lib.hid (HB18.out.setCell (p := ⟨w.heap.size, 1, none⟩) (Nat.le_refl _) (.slice a5 S.ng c5))
          generalize w18.setCell ⟨w.heap.size, 1, none⟩ (.slice a5 S.ng c5) = w19 at HR19 HO19 HZ19 HB19 ⊢
          refine hK.out _ _ trivial (fun hHeld => ?_)
          clear hK K
          refine wpAnyH_take (i := 13) (oi := ⟨some 14, .fieldAddr 34 (.tmp 1) 4, _, _, _, _⟩) (v := (.pointer (some ⟨w.heap.size, 35, none⟩))) rfl (by kernel_rfl) (by kernel_rfl) (by kernel_rfl) (fun _ _ _ h => h) (Or.inl ⟨by rfl, fun W hW => by go_simp⟩) (by assumption) ?_
          simp only [Act.put, List.setIfInBounds_toArray, List.set_cons_zero, List.set_cons_succ]
          refine wpAnyH_ready (rs := [14]) (by kernel_rfl) (by simp) ?_
          refine AllReadyH.cons (o := ⟨none, .store 25 (.tmp 14) (.tmp 11), _, _, _, _⟩) rfl (fun K hK => ?_) AllReadyH.nil
          have hcell := rf_log HAT.out HR19.out
          have hfz := HR19.out.free 35
          go_simp
          clear hcell hfz
          have hrow := HR19.out.set 35 (.slice a8 S.nl c8)
          rw [rfL_log ({ S with ab := a2, cb := c2, ag := a5, cg := c5 }) r.head r.at_ HAT.out] at hrow
          have HR20 : Hid (RowAt (w19.setCell ⟨w.heap.size, 35, none⟩ (.slice a8 S.nl c8)) w.heap.size REf (rfL { S with ab := a2, cb := c2, ag := a5, cg := c5, al := a8, cl := c8 } r.head r.at_)) := Lib.hid hrow
          have HO20 := Lib.hid (holds_setBox HO19.out HR19.out NEr3 35 (.slice a8 S.nl c8))
          have HZ20 := Lib.hid (HZ19.out.other (a := ⟨w.heap.size, 35, none⟩) (Nat.succ_ne_self _) (.slice a8 S.nl c8))
          have HB20 := Lib.hid (HB19.out.setCell (p := ⟨w.heap.size, 35, none⟩) (Nat.le_refl _) (.slice a8 S.nl c8))
          generalize w19.setCell ⟨w.heap.size, 35, none⟩ (.slice a8 S.nl c8) = w20 at HR20 HO20 HZ20 HB20 ⊢
          refine hK.out _ _ trivial (fun hHeld => ?_)
          clear hK K
          refine wpAnyH_done (by kernel_rfl) ?_ _
          go_wp2_with (first
            | ((with_reducible show wpList _ _ _ (⟨some 15, _, _, _, _, _⟩ :: _) _ _); go_must (refine wl_ex rfl (exec_loadRf _ rfl _ { S with ab := a2, cb := c2, ag := a5, cg := c5, al := a8, cl := c8 } r.head r.at_ HAT.out rfl HR20.out) ?_))
            | ((with_reducible show wpList _ _ _ (⟨_, Op.store _ (.tmp 2) _, _, _, _, _⟩ :: _) _ _); go_must (refine wl_store_rf (S := { S with ab := a2, cb := c2, ag := a5, cg := c5, al := a8, cl := c8 }) (h := r.head) (a := r.at_) HAT.out HZ20.out (len36 rfl) rfl _ _ rfl rfl rfl ?_); intro w21 hr21 hg21; have HR21 := Lib.hid hr21; have HG21 := Lib.hid hg21; clear hr21 hg21))
          refine bodyPost_ret (results_row rfl _ _ (w.heap.size + 1) REf (rfL { S with ab := a2, cb := c2, ag := a5, cg := c5, al := a8, cl := c8 } r.head r.at_) _ rfl HR21.out Tryd.underlying34 rfl (size36 HAT.out)) rfl ?_
          refine ⟨{ S with ab := a2, cb := c2, ag := a5, cg := c5, al := a8, cl := c8 }, rfl, ⟨HO20.out.grownOut HG21.out NEr3 HZ20.out, HK2.out, HK5.out, HK8.out, HAT.out⟩, HB20.out.grown HG21.out HB20.out.size (fun k hk => by cases hk; omega)⟩
        · have hcell := rf_log HAT.out HR2.out
          go_simp
          clear hcell
          refine hK.out _ _ trivial (fun hHeld => ?_)
          clear hK K
          refine wpAnyH_take (i := 9) (oi := ⟨some 12, .fieldAddr 34 (.tmp 1) 0, _, _, _, _⟩) (v := (.pointer (some ⟨w.heap.size, 0, none⟩))) rfl (by kernel_rfl) (by kernel_rfl) (by kernel_rfl) (fun _ _ _ h => h) (Or.inl ⟨by rfl, fun W hW => by go_simp⟩) (by assumption) ?_
          simp only [Act.put, List.setIfInBounds_toArray, List.set_cons_zero, List.set_cons_succ]
          refine wpAnyH_ready (rs := [5]) (by kernel_rfl) (by simp) ?_
          refine AllReadyH.cons (o := ⟨some 8, .call { callee := .value (.func 51), args := #[(.tmp 7)], argTypes := #[32] }, _, _, _, _⟩) rfl (fun K hK => ?_) AllReadyH.nil
          go_simp
          refine (HCG.out _ HB2.out).mono ?_
          rintro e w5 ⟨a5, c5, rfl, ho5, hb5⟩
          have HH5 := Lib.hid (Holds.add (base := w.heap.size) (h := hG rnK NEf (.slice a5 S.ng c5) r.tg) HH2.out ho5.1 hb5 HB2.out.size)
          have HK5 := Lib.hid ho5.2
          have HR5 := Lib.hid (HR2.out.below hb5)
          have HZ5 := Lib.hid (HZ2.out.below hb5)
          have HB5 := Lib.hid (HB2.out.trans (hb5.mono HB2.out.size))
          clear ho5 hb5
          refine hK.out _ _ trivial (fun hHeld => ?_)
          clear hK K
          refine wpAnyH_ready (rs := [8]) (by kernel_rfl) (by simp) ?_
          refine AllReadyH.cons (o := ⟨some 11, .call { callee := .value (.func 52), args := #[(.tmp 10)], argTypes := #[25] }, _, _, _, _⟩) rfl (fun K hK => ?_) AllReadyH.nil
          go_simp
          refine (HCL.out _ HB5.out).mono ?_
          rintro e w8 ⟨a8, c8, rfl, ho8, hb8⟩
          have HH8 := Lib.hid (Holds.add (base := w.heap.size) (h := hG enK EEf (.slice a8 S.nl c8) r.log) HH5.out ho8.1 hb8 HB5.out.size)
          have HK8 := Lib.hid ho8.2
          have HR8 := Lib.hid (HR5.out.below hb8)
          have HZ8 := Lib.hid (HZ5.out.below hb8)
          have HB8 := Lib.hid (HB5.out.trans (hb8.mono HB5.out.size))
          clear ho8 hb8
          refine hK.out _ _ trivial (fun hHeld => ?_)
          clear hK K
          have HO8 := Lib.hid (Holds.perm HH8.out (List.reverse_perm _).symm)
          have NEr3 : ∀ x ∈ [hG rnK NEf (.slice a2 S.nb c2) r.br, hG rnK NEf (.slice a5 S.ng c5) r.tg, hG enK EEf (.slice a8 S.nl c8) r.log], x.E ≠ REf := fun x hx => by simp only [List.mem_cons, List.not_mem_nil, or_false] at hx; rcases hx with rfl | rfl | rfl <;> first | exact NErf | exact EErf
          refine wpAnyH_ready (rs := [10]) (by kernel_rfl) (by simp) ?_
          refine AllReadyH.cons (o := ⟨none, .store 32 (.tmp 12) (.tmp 5), _, _, _, _⟩) rfl (fun K hK => ?_) AllReadyH.nil
          have hcell := rf_br HR8.out
          have hfz := HR8.out.free 0
          go_simp
          clear hcell hfz
          have HR18 : Hid (RowAt (w8.setCell ⟨w.heap.size, 0, none⟩ (.slice a2 S.nb c2)) w.heap.size REf (rfL { S with ab := a2, cb := c2 } r.head r.at_)) := Lib.hid (HR8.out.set 0 (.slice a2 S.nb c2))
          have HO18 := Lib.hid (holds_setBox HO8.out HR8.out NEr3 0 (.slice a2 S.nb c2))
          have HZ18 := Lib.hid (HZ8.out.other (a := ⟨w.heap.size, 0, none⟩) (Nat.succ_ne_self _) (.slice a2 S.nb c2))
          have HB18 := Lib.hid (HB8.out.setCell (p := ⟨w.heap.size, 0, none⟩) (Nat.le_refl _) (.slice a2 S.nb c2))
          generalize w8.setCell ⟨w.heap.size, 0, none⟩ (.slice a2 S.nb c2) = w18 at HR18 HO18 HZ18 HB18 ⊢
          refine hK.out _ _ trivial (fun hHeld => ?_)
          clear hK K
          refine wpAnyH_take (i := 11) (oi := ⟨some 13, .fieldAddr 34 (.tmp 1) 1, _, _, _, _⟩) (v := (.pointer (some ⟨w.heap.size, 1, none⟩))) rfl (by kernel_rfl) (by kernel_rfl) (by kernel_rfl) (fun _ _ _ h => h) (Or.inl ⟨by rfl, fun W hW => by go_simp⟩) (by assumption) ?_
          simp only [Act.put, List.setIfInBounds_toArray, List.set_cons_zero, List.set_cons_succ]
          refine wpAnyH_ready (rs := [12]) (by kernel_rfl) (by simp) ?_
          refine AllReadyH.cons (o := ⟨none, .store 32 (.tmp 13) (.tmp 8), _, _, _, _⟩) rfl (fun K hK => ?_) AllReadyH.nil
          have hcell := rf_tg HR18.out
          have hfz := HR18.out.free 1
          go_simp
          clear hcell hfz
          have HR19 : Hid (RowAt (w18.setCell ⟨w.heap.size, 1, none⟩ (.slice a5 S.ng c5)) w.heap.size REf (rfL { S with ab := a2, cb := c2, ag := a5, cg := c5 } r.head r.at_)) := Lib.hid (HR18.out.set 1 (.slice a5 S.ng c5))
          have HO19 := Lib.hid (holds_setBox HO18.out HR18.out NEr3 1 (.slice a5 S.ng c5))
          have HZ19 := Lib.hid (HZ18.out.other (a := ⟨w.heap.size, 1, none⟩) (Nat.succ_ne_self _) (.slice a5 S.ng c5))
          have HB19 := Lib.hid (HB18.out.setCell (p := ⟨w.heap.size, 1, none⟩) (Nat.le_refl _) (.slice a5 S.ng c5))
          generalize w18.setCell ⟨w.heap.size, 1, none⟩ (.slice a5 S.ng c5) = w19 at HR19 HO19 HZ19 HB19 ⊢
          refine hK.out _ _ trivial (fun hHeld => ?_)
          clear hK K
          refine wpAnyH_take (i := 13) (oi := ⟨some 14, .fieldAddr 34 (.tmp 1) 4, _, _, _, _⟩) (v := (.pointer (some ⟨w.heap.size, 35, none⟩))) rfl (by kernel_rfl) (by kernel_rfl) (by kernel_rfl) (fun _ _ _ h => h) (Or.inl ⟨by rfl, fun W hW => by go_simp⟩) (by assumption) ?_
          simp only [Act.put, List.setIfInBounds_toArray, List.set_cons_zero, List.set_cons_succ]
          refine wpAnyH_ready (rs := [14]) (by kernel_rfl) (by simp) ?_
          refine AllReadyH.cons (o := ⟨none, .store 25 (.tmp 14) (.tmp 11), _, _, _, _⟩) rfl (fun K hK => ?_) AllReadyH.nil
          have hcell := rf_log HAT.out HR19.out
          have hfz := HR19.out.free 35
          go_simp
          clear hcell hfz
          have hrow := HR19.out.set 35 (.slice a8 S.nl c8)
          rw [rfL_log ({ S with ab := a2, cb := c2, ag := a5, cg := c5 }) r.head r.at_ HAT.out] at hrow
          have HR20 : Hid (RowAt (w19.setCell ⟨w.heap.size, 35, none⟩ (.slice a8 S.nl c8)) w.heap.size REf (rfL { S with ab := a2, cb := c2, ag := a5, cg := c5, al := a8, cl := c8 } r.head r.at_)) := Lib.hid hrow
          have HO20 := Lib.hid (holds_setBox HO19.out HR19.out NEr3 35 (.slice a8 S.nl c8))
          have HZ20 := Lib.hid (HZ19.out.other (a := ⟨w.heap.size, 35, none⟩) (Nat.succ_ne_self _) (.slice a8 S.nl c8))
          have HB20 := Lib.hid (HB19.out.setCell (p := ⟨w.heap.size, 35, none⟩) (Nat.le_refl _) (.slice a8 S.nl c8))
          generalize w19.setCell ⟨w.heap.size, 35, none⟩ (.slice a8 S.nl c8) = w20 at HR20 HO20 HZ20 HB20 ⊢
          refine hK.out _ _ trivial (fun hHeld => ?_)
          clear hK K
          refine wpAnyH_done (by kernel_rfl) ?_ _
          go_wp2_with (first
            | ((with_reducible show wpList _ _ _ (⟨some 15, _, _, _, _, _⟩ :: _) _ _); go_must (refine wl_ex rfl (exec_loadRf _ rfl _ { S with ab := a2, cb := c2, ag := a5, cg := c5, al := a8, cl := c8 } r.head r.at_ HAT.out rfl HR20.out) ?_))
            | ((with_reducible show wpList _ _ _ (⟨_, Op.store _ (.tmp 2) _, _, _, _, _⟩ :: _) _ _); go_must (refine wl_store_rf (S := { S with ab := a2, cb := c2, ag := a5, cg := c5, al := a8, cl := c8 }) (h := r.head) (a := r.at_) HAT.out HZ20.out (len36 rfl) rfl _ _ rfl rfl rfl ?_); intro w21 hr21 hg21; have HR21 := Lib.hid hr21; have HG21 := Lib.hid hg21; clear hr21 hg21))
          refine bodyPost_ret (results_row rfl _ _ (w.heap.size + 1) REf (rfL { S with ab := a2, cb := c2, ag := a5, cg := c5, al := a8, cl := c8 } r.head r.at_) _ rfl HR21.out Tryd.underlying34 rfl (size36 HAT.out)) rfl ?_
          refine ⟨{ S with ab := a2, cb := c2, ag := a5, cg := c5, al := a8, cl := c8 }, rfl, ⟨HO20.out.grownOut HG21.out NEr3 HZ20.out, HK2.out, HK5.out, HK8.out, HAT.out⟩, HB20.out.grown HG21.out HB20.out.size (fun k hk => by cases hk; omega)⟩
      · have hcell := rf_log HAT.out HR0.out
        go_simp
        clear hcell
        refine hK.out _ _ trivial (fun hHeld => ?_)
        clear hK K
        refine wpAnyH_ready (rs := [2]) (by kernel_rfl) (by simp) ?_
        refine AllReadyH.cons (o := ⟨some 5, .call { callee := .value (.func 51), args := #[(.tmp 4)], argTypes := #[32] }, _, _, _, _⟩) rfl (fun K hK => ?_) AllReadyH.nil
        go_simp
        refine (HCB.out _ HB0.out).mono ?_
        rintro e w2 ⟨a2, c2, rfl, ho2, hb2⟩
        have HH2 := Lib.hid (Holds.add (base := w.heap.size) (h := hG rnK NEf (.slice a2 S.nb c2) r.br) Holds.nil ho2.1 hb2 HB0.out.size)
        have HK2 := Lib.hid ho2.2
        have HR2 := Lib.hid (HR0.out.below hb2)
        have HZ2 := Lib.hid (HZ0.out.below hb2)
        have HB2 := Lib.hid (HB0.out.trans (hb2.mono HB0.out.size))
        clear ho2 hb2
        refine hK.out _ _ trivial (fun hHeld => ?_)
        clear hK K
        refine wpAnyH_take (i := 9) (oi := ⟨some 12, .fieldAddr 34 (.tmp 1) 0, _, _, _, _⟩) (v := (.pointer (some ⟨w.heap.size, 0, none⟩))) rfl (by kernel_rfl) (by kernel_rfl) (by kernel_rfl) (fun _ _ _ h => h) (Or.inl ⟨by rfl, fun W hW => by go_simp⟩) (by assumption) ?_
        simp only [Act.put, List.setIfInBounds_toArray, List.set_cons_zero, List.set_cons_succ]
        refine wpAnyH_ready (rs := [5]) (by kernel_rfl) (by simp) ?_
        refine AllReadyH.cons (o := ⟨some 8, .call { callee := .value (.func 51), args := #[(.tmp 7)], argTypes := #[32] }, _, _, _, _⟩) rfl (fun K hK => ?_) AllReadyH.nil
        go_simp
        refine (HCG.out _ HB2.out).mono ?_
        rintro e w5 ⟨a5, c5, rfl, ho5, hb5⟩
        have HH5 := Lib.hid (Holds.add (base := w.heap.size) (h := hG rnK NEf (.slice a5 S.ng c5) r.tg) HH2.out ho5.1 hb5 HB2.out.size)
        have HK5 := Lib.hid ho5.2
        have HR5 := Lib.hid (HR2.out.below hb5)
        have HZ5 := Lib.hid (HZ2.out.below hb5)
        have HB5 := Lib.hid (HB2.out.trans (hb5.mono HB2.out.size))
        clear ho5 hb5
        refine hK.out _ _ trivial (fun hHeld => ?_)
        clear hK K
        refine wpAnyH_ready (rs := [8]) (by kernel_rfl) (by simp) ?_
        refine AllReadyH.cons (o := ⟨some 11, .call { callee := .value (.func 52), args := #[(.tmp 10)], argTypes := #[25] }, _, _, _, _⟩) rfl (fun K hK => ?_) AllReadyH.nil
        go_simp
        refine (HCL.out _ HB5.out).mono ?_
        rintro e w8 ⟨a8, c8, rfl, ho8, hb8⟩
        have HH8 := Lib.hid (Holds.add (base := w.heap.size) (h := hG enK EEf (.slice a8 S.nl c8) r.log) HH5.out ho8.1 hb8 HB5.out.size)
        have HK8 := Lib.hid ho8.2
        have HR8 := Lib.hid (HR5.out.below hb8)
        have HZ8 := Lib.hid (HZ5.out.below hb8)
        have HB8 := Lib.hid (HB5.out.trans (hb8.mono HB5.out.size))
        clear ho8 hb8
        refine hK.out _ _ trivial (fun hHeld => ?_)
        clear hK K
        have HO8 := Lib.hid (Holds.perm HH8.out (List.reverse_perm _).symm)
        have NEr3 : ∀ x ∈ [hG rnK NEf (.slice a2 S.nb c2) r.br, hG rnK NEf (.slice a5 S.ng c5) r.tg, hG enK EEf (.slice a8 S.nl c8) r.log], x.E ≠ REf := fun x hx => by simp only [List.mem_cons, List.not_mem_nil, or_false] at hx; rcases hx with rfl | rfl | rfl <;> first | exact NErf | exact EErf
        refine wpAnyH_ready (rs := [10]) (by kernel_rfl) (by simp) ?_
        refine AllReadyH.cons (o := ⟨none, .store 32 (.tmp 12) (.tmp 5), _, _, _, _⟩) rfl (fun K hK => ?_) AllReadyH.nil
        have hcell := rf_br HR8.out
        have hfz := HR8.out.free 0
        go_simp
        clear hcell hfz
        have HR18 : Hid (RowAt (w8.setCell ⟨w.heap.size, 0, none⟩ (.slice a2 S.nb c2)) w.heap.size REf (rfL { S with ab := a2, cb := c2 } r.head r.at_)) := Lib.hid (HR8.out.set 0 (.slice a2 S.nb c2))
        have HO18 := Lib.hid (holds_setBox HO8.out HR8.out NEr3 0 (.slice a2 S.nb c2))
        have HZ18 := Lib.hid (HZ8.out.other (a := ⟨w.heap.size, 0, none⟩) (Nat.succ_ne_self _) (.slice a2 S.nb c2))
        have HB18 := Lib.hid (HB8.out.setCell (p := ⟨w.heap.size, 0, none⟩) (Nat.le_refl _) (.slice a2 S.nb c2))
        generalize w8.setCell ⟨w.heap.size, 0, none⟩ (.slice a2 S.nb c2) = w18 at HR18 HO18 HZ18 HB18 ⊢
        refine hK.out _ _ trivial (fun hHeld => ?_)
        clear hK K
        refine wpAnyH_take (i := 11) (oi := ⟨some 13, .fieldAddr 34 (.tmp 1) 1, _, _, _, _⟩) (v := (.pointer (some ⟨w.heap.size, 1, none⟩))) rfl (by kernel_rfl) (by kernel_rfl) (by kernel_rfl) (fun _ _ _ h => h) (Or.inl ⟨by rfl, fun W hW => by go_simp⟩) (by assumption) ?_
        simp only [Act.put, List.setIfInBounds_toArray, List.set_cons_zero, List.set_cons_succ]
        refine wpAnyH_ready (rs := [12]) (by kernel_rfl) (by simp) ?_
        refine AllReadyH.cons (o := ⟨none, .store 32 (.tmp 13) (.tmp 8), _, _, _, _⟩) rfl (fun K hK => ?_) AllReadyH.nil
        have hcell := rf_tg HR18.out
        have hfz := HR18.out.free 1
        go_simp
        clear hcell hfz
        have HR19 : Hid (RowAt (w18.setCell ⟨w.heap.size, 1, none⟩ (.slice a5 S.ng c5)) w.heap.size REf (rfL { S with ab := a2, cb := c2, ag := a5, cg := c5 } r.head r.at_)) := Lib.hid (HR18.out.set 1 (.slice a5 S.ng c5))
        have HO19 := Lib.hid (holds_setBox HO18.out HR18.out NEr3 1 (.slice a5 S.ng c5))
        have HZ19 := Lib.hid (HZ18.out.other (a := ⟨w.heap.size, 1, none⟩) (Nat.succ_ne_self _) (.slice a5 S.ng c5))
        have HB19 := Lib.hid (HB18.out.setCell (p := ⟨w.heap.size, 1, none⟩) (Nat.le_refl _) (.slice a5 S.ng c5))
        generalize w18.setCell ⟨w.heap.size, 1, none⟩ (.slice a5 S.ng c5) = w19 at HR19 HO19 HZ19 HB19 ⊢
        refine hK.out _ _ trivial (fun hHeld => ?_)
        clear hK K
        refine wpAnyH_take (i := 13) (oi := ⟨some 14, .fieldAddr 34 (.tmp 1) 4, _, _, _, _⟩) (v := (.pointer (some ⟨w.heap.size, 35, none⟩))) rfl (by kernel_rfl) (by kernel_rfl) (by kernel_rfl) (fun _ _ _ h => h) (Or.inl ⟨by rfl, fun W hW => by go_simp⟩) (by assumption) ?_
        simp only [Act.put, List.setIfInBounds_toArray, List.set_cons_zero, List.set_cons_succ]
        refine wpAnyH_ready (rs := [14]) (by kernel_rfl) (by simp) ?_
        refine AllReadyH.cons (o := ⟨none, .store 25 (.tmp 14) (.tmp 11), _, _, _, _⟩) rfl (fun K hK => ?_) AllReadyH.nil
        have hcell := rf_log HAT.out HR19.out
        have hfz := HR19.out.free 35
        go_simp
        clear hcell hfz
        have hrow := HR19.out.set 35 (.slice a8 S.nl c8)
        rw [rfL_log ({ S with ab := a2, cb := c2, ag := a5, cg := c5 }) r.head r.at_ HAT.out] at hrow
        have HR20 : Hid (RowAt (w19.setCell ⟨w.heap.size, 35, none⟩ (.slice a8 S.nl c8)) w.heap.size REf (rfL { S with ab := a2, cb := c2, ag := a5, cg := c5, al := a8, cl := c8 } r.head r.at_)) := Lib.hid hrow
        have HO20 := Lib.hid (holds_setBox HO19.out HR19.out NEr3 35 (.slice a8 S.nl c8))
        have HZ20 := Lib.hid (HZ19.out.other (a := ⟨w.heap.size, 35, none⟩) (Nat.succ_ne_self _) (.slice a8 S.nl c8))
        have HB20 := Lib.hid (HB19.out.setCell (p := ⟨w.heap.size, 35, none⟩) (Nat.le_refl _) (.slice a8 S.nl c8))
        generalize w19.setCell ⟨w.heap.size, 35, none⟩ (.slice a8 S.nl c8) = w20 at HR20 HO20 HZ20 HB20 ⊢
        refine hK.out _ _ trivial (fun hHeld => ?_)
        clear hK K
        refine wpAnyH_done (by kernel_rfl) ?_ _
        go_wp2_with (first
          | ((with_reducible show wpList _ _ _ (⟨some 15, _, _, _, _, _⟩ :: _) _ _); go_must (refine wl_ex rfl (exec_loadRf _ rfl _ { S with ab := a2, cb := c2, ag := a5, cg := c5, al := a8, cl := c8 } r.head r.at_ HAT.out rfl HR20.out) ?_))
          | ((with_reducible show wpList _ _ _ (⟨_, Op.store _ (.tmp 2) _, _, _, _, _⟩ :: _) _ _); go_must (refine wl_store_rf (S := { S with ab := a2, cb := c2, ag := a5, cg := c5, al := a8, cl := c8 }) (h := r.head) (a := r.at_) HAT.out HZ20.out (len36 rfl) rfl _ _ rfl rfl rfl ?_); intro w21 hr21 hg21; have HR21 := Lib.hid hr21; have HG21 := Lib.hid hg21; clear hr21 hg21))
        refine bodyPost_ret (results_row rfl _ _ (w.heap.size + 1) REf (rfL { S with ab := a2, cb := c2, ag := a5, cg := c5, al := a8, cl := c8 } r.head r.at_) _ rfl HR21.out Tryd.underlying34 rfl (size36 HAT.out)) rfl ?_
        refine ⟨{ S with ab := a2, cb := c2, ag := a5, cg := c5, al := a8, cl := c8 }, rfl, ⟨HO20.out.grownOut HG21.out NEr3 HZ20.out, HK2.out, HK5.out, HK8.out, HAT.out⟩, HB20.out.grown HG21.out HB20.out.size (fun k hk => by cases hk; omega)⟩
    · have hcell := rf_log HAT.out HR0.out
      go_simp
      clear hcell
      refine hK.out _ _ trivial (fun hHeld => ?_)
      clear hK K
      refine wpAnyH_ready (rs := [2, 4]) (by kernel_rfl) (by simp) ?_
      refine AllReadyH.cons (o := ⟨some 5, .call { callee := .value (.func 51), args := #[(.tmp 4)], argTypes := #[32] }, _, _, _, _⟩) rfl (fun K hK => ?_) (AllReadyH.cons (o := ⟨some 7, .load 32 (.tmp 6), _, _, _, _⟩) rfl (fun K hK => ?_) AllReadyH.nil)
      · go_simp
        refine (HCB.out _ HB0.out).mono ?_
        rintro e w2 ⟨a2, c2, rfl, ho2, hb2⟩
        have HH2 := Lib.hid (Holds.add (base := w.heap.size) (h := hG rnK NEf (.slice a2 S.nb c2) r.br) Holds.nil ho2.1 hb2 HB0.out.size)
        have HK2 := Lib.hid ho2.2
        have HR2 := Lib.hid (HR0.out.below hb2)
        have HZ2 := Lib.hid (HZ0.out.below hb2)
        have HB2 := Lib.hid (HB0.out.trans (hb2.mono HB0.out.size))
        clear ho2 hb2
        refine hK.out _ _ trivial (fun hHeld => ?_)
        clear hK K
        refine wpAnyH_ready (rs := [4]) (by kernel_rfl) (by simp) ?_
        refine AllReadyH.cons (o := ⟨some 7, .load 32 (.tmp 6), _, _, _, _⟩) rfl (fun K hK => ?_) AllReadyH.nil
        have hcell := rf_tg HR2.out
        go_simp
        clear hcell
        refine hK.out _ _ trivial (fun hHeld => ?_)
        clear hK K
        refine wpAnyH_take (i := 9) (oi := ⟨some 12, .fieldAddr 34 (.tmp 1) 0, _, _, _, _⟩) (v := (.pointer (some ⟨w.heap.size, 0, none⟩))) rfl (by kernel_rfl) (by kernel_rfl) (by kernel_rfl) (fun _ _ _ h => h) (Or.inl ⟨by rfl, fun W hW => by go_simp⟩) (by assumption) ?_
        simp only [Act.put, List.setIfInBounds_toArray, List.set_cons_zero, List.set_cons_succ]
        refine wpAnyH_ready (rs := [5]) (by kernel_rfl) (by simp) ?_
        refine AllReadyH.cons (o := ⟨some 8, .call { callee := .value (.func 51), args := #[(.tmp 7)], argTypes := #[32] }, _, _, _, _⟩) rfl (fun K hK => ?_) AllReadyH.nil
        go_simp
        refine (HCG.out _ HB2.out).mono ?_
        rintro e w5 ⟨a5, c5, rfl, ho5, hb5⟩
        have HH5 := Lib.hid (Holds.add (base := w.heap.size) (h := hG rnK NEf (.slice a5 S.ng c5) r.tg) HH2.out ho5.1 hb5 HB2.out.size)
        have HK5 := Lib.hid ho5.2
        have HR5 := Lib.hid (HR2.out.below hb5)
        have HZ5 := Lib.hid (HZ2.out.below hb5)
        have HB5 := Lib.hid (HB2.out.trans (hb5.mono HB2.out.size))
        clear ho5 hb5
        refine hK.out _ _ trivial (fun hHeld => ?_)
        clear hK K
        refine wpAnyH_ready (rs := [8]) (by kernel_rfl) (by simp) ?_
        refine AllReadyH.cons (o := ⟨some 11, .call { callee := .value (.func 52), args := #[(.tmp 10)], argTypes := #[25] }, _, _, _, _⟩) rfl (fun K hK => ?_) AllReadyH.nil
        go_simp
        refine (HCL.out _ HB5.out).mono ?_
        rintro e w8 ⟨a8, c8, rfl, ho8, hb8⟩
        have HH8 := Lib.hid (Holds.add (base := w.heap.size) (h := hG enK EEf (.slice a8 S.nl c8) r.log) HH5.out ho8.1 hb8 HB5.out.size)
        have HK8 := Lib.hid ho8.2
        have HR8 := Lib.hid (HR5.out.below hb8)
        have HZ8 := Lib.hid (HZ5.out.below hb8)
        have HB8 := Lib.hid (HB5.out.trans (hb8.mono HB5.out.size))
        clear ho8 hb8
        refine hK.out _ _ trivial (fun hHeld => ?_)
        clear hK K
        have HO8 := Lib.hid (Holds.perm HH8.out (List.reverse_perm _).symm)
        have NEr3 : ∀ x ∈ [hG rnK NEf (.slice a2 S.nb c2) r.br, hG rnK NEf (.slice a5 S.ng c5) r.tg, hG enK EEf (.slice a8 S.nl c8) r.log], x.E ≠ REf := fun x hx => by simp only [List.mem_cons, List.not_mem_nil, or_false] at hx; rcases hx with rfl | rfl | rfl <;> first | exact NErf | exact EErf
        refine wpAnyH_ready (rs := [10]) (by kernel_rfl) (by simp) ?_
        refine AllReadyH.cons (o := ⟨none, .store 32 (.tmp 12) (.tmp 5), _, _, _, _⟩) rfl (fun K hK => ?_) AllReadyH.nil
        have hcell := rf_br HR8.out
        have hfz := HR8.out.free 0
        go_simp
        clear hcell hfz
        have HR18 : Hid (RowAt (w8.setCell ⟨w.heap.size, 0, none⟩ (.slice a2 S.nb c2)) w.heap.size REf (rfL { S with ab := a2, cb := c2 } r.head r.at_)) := Lib.hid (HR8.out.set 0 (.slice a2 S.nb c2))
        have HO18 := Lib.hid (holds_setBox HO8.out HR8.out NEr3 0 (.slice a2 S.nb c2))
        have HZ18 := Lib.hid (HZ8.out.other (a := ⟨w.heap.size, 0, none⟩) (Nat.succ_ne_self _) (.slice a2 S.nb c2))
        have HB18 := Lib.hid (HB8.out.setCell (p := ⟨w.heap.size, 0, none⟩) (Nat.le_refl _) (.slice a2 S.nb c2))
        generalize w8.setCell ⟨w.heap.size, 0, none⟩ (.slice a2 S.nb c2) = w18 at HR18 HO18 HZ18 HB18 ⊢
        refine hK.out _ _ trivial (fun hHeld => ?_)
        clear hK K
        refine wpAnyH_take (i := 11) (oi := ⟨some 13, .fieldAddr 34 (.tmp 1) 1, _, _, _, _⟩) (v := (.pointer (some ⟨w.heap.size, 1, none⟩))) rfl (by kernel_rfl) (by kernel_rfl) (by kernel_rfl) (fun _ _ _ h => h) (Or.inl ⟨by rfl, fun W hW => by go_simp⟩) (by assumption) ?_
        simp only [Act.put, List.setIfInBounds_toArray, List.set_cons_zero, List.set_cons_succ]
        refine wpAnyH_ready (rs := [12]) (by kernel_rfl) (by simp) ?_
        refine AllReadyH.cons (o := ⟨none, .store 32 (.tmp 13) (.tmp 8), _, _, _, _⟩) rfl (fun K hK => ?_) AllReadyH.nil
        have hcell := rf_tg HR18.out
        have hfz := HR18.out.free 1
        go_simp
        clear hcell hfz
        have HR19 : Hid (RowAt (w18.setCell ⟨w.heap.size, 1, none⟩ (.slice a5 S.ng c5)) w.heap.size REf (rfL { S with ab := a2, cb := c2, ag := a5, cg := c5 } r.head r.at_)) := Lib.hid (HR18.out.set 1 (.slice a5 S.ng c5))
        have HO19 := Lib.hid (holds_setBox HO18.out HR18.out NEr3 1 (.slice a5 S.ng c5))
        have HZ19 := Lib.hid (HZ18.out.other (a := ⟨w.heap.size, 1, none⟩) (Nat.succ_ne_self _) (.slice a5 S.ng c5))
        have HB19 := Lib.hid (HB18.out.setCell (p := ⟨w.heap.size, 1, none⟩) (Nat.le_refl _) (.slice a5 S.ng c5))
        generalize w18.setCell ⟨w.heap.size, 1, none⟩ (.slice a5 S.ng c5) = w19 at HR19 HO19 HZ19 HB19 ⊢
        refine hK.out _ _ trivial (fun hHeld => ?_)
        clear hK K
        refine wpAnyH_take (i := 13) (oi := ⟨some 14, .fieldAddr 34 (.tmp 1) 4, _, _, _, _⟩) (v := (.pointer (some ⟨w.heap.size, 35, none⟩))) rfl (by kernel_rfl) (by kernel_rfl) (by kernel_rfl) (fun _ _ _ h => h) (Or.inl ⟨by rfl, fun W hW => by go_simp⟩) (by assumption) ?_
        simp only [Act.put, List.setIfInBounds_toArray, List.set_cons_zero, List.set_cons_succ]
        refine wpAnyH_ready (rs := [14]) (by kernel_rfl) (by simp) ?_
        refine AllReadyH.cons (o := ⟨none, .store 25 (.tmp 14) (.tmp 11), _, _, _, _⟩) rfl (fun K hK => ?_) AllReadyH.nil
        have hcell := rf_log HAT.out HR19.out
        have hfz := HR19.out.free 35
        go_simp
        clear hcell hfz
        have hrow := HR19.out.set 35 (.slice a8 S.nl c8)
        rw [rfL_log ({ S with ab := a2, cb := c2, ag := a5, cg := c5 }) r.head r.at_ HAT.out] at hrow
        have HR20 : Hid (RowAt (w19.setCell ⟨w.heap.size, 35, none⟩ (.slice a8 S.nl c8)) w.heap.size REf (rfL { S with ab := a2, cb := c2, ag := a5, cg := c5, al := a8, cl := c8 } r.head r.at_)) := Lib.hid hrow
        have HO20 := Lib.hid (holds_setBox HO19.out HR19.out NEr3 35 (.slice a8 S.nl c8))
        have HZ20 := Lib.hid (HZ19.out.other (a := ⟨w.heap.size, 35, none⟩) (Nat.succ_ne_self _) (.slice a8 S.nl c8))
        have HB20 := Lib.hid (HB19.out.setCell (p := ⟨w.heap.size, 35, none⟩) (Nat.le_refl _) (.slice a8 S.nl c8))
        generalize w19.setCell ⟨w.heap.size, 35, none⟩ (.slice a8 S.nl c8) = w20 at HR20 HO20 HZ20 HB20 ⊢
        refine hK.out _ _ trivial (fun hHeld => ?_)
        clear hK K
        refine wpAnyH_done (by kernel_rfl) ?_ _
        go_wp2_with (first
          | ((with_reducible show wpList _ _ _ (⟨some 15, _, _, _, _, _⟩ :: _) _ _); go_must (refine wl_ex rfl (exec_loadRf _ rfl _ { S with ab := a2, cb := c2, ag := a5, cg := c5, al := a8, cl := c8 } r.head r.at_ HAT.out rfl HR20.out) ?_))
          | ((with_reducible show wpList _ _ _ (⟨_, Op.store _ (.tmp 2) _, _, _, _, _⟩ :: _) _ _); go_must (refine wl_store_rf (S := { S with ab := a2, cb := c2, ag := a5, cg := c5, al := a8, cl := c8 }) (h := r.head) (a := r.at_) HAT.out HZ20.out (len36 rfl) rfl _ _ rfl rfl rfl ?_); intro w21 hr21 hg21; have HR21 := Lib.hid hr21; have HG21 := Lib.hid hg21; clear hr21 hg21))
        refine bodyPost_ret (results_row rfl _ _ (w.heap.size + 1) REf (rfL { S with ab := a2, cb := c2, ag := a5, cg := c5, al := a8, cl := c8 } r.head r.at_) _ rfl HR21.out Tryd.underlying34 rfl (size36 HAT.out)) rfl ?_
        refine ⟨{ S with ab := a2, cb := c2, ag := a5, cg := c5, al := a8, cl := c8 }, rfl, ⟨HO20.out.grownOut HG21.out NEr3 HZ20.out, HK2.out, HK5.out, HK8.out, HAT.out⟩, HB20.out.grown HG21.out HB20.out.size (fun k hk => by cases hk; omega)⟩
      · have hcell := rf_tg HR0.out
        go_simp
        clear hcell
        refine hK.out _ _ trivial (fun hHeld => ?_)
        clear hK K
        refine wpAnyH_ready (rs := [2]) (by kernel_rfl) (by simp) ?_
        refine AllReadyH.cons (o := ⟨some 5, .call { callee := .value (.func 51), args := #[(.tmp 4)], argTypes := #[32] }, _, _, _, _⟩) rfl (fun K hK => ?_) AllReadyH.nil
        go_simp
        refine (HCB.out _ HB0.out).mono ?_
        rintro e w2 ⟨a2, c2, rfl, ho2, hb2⟩
        have HH2 := Lib.hid (Holds.add (base := w.heap.size) (h := hG rnK NEf (.slice a2 S.nb c2) r.br) Holds.nil ho2.1 hb2 HB0.out.size)
        have HK2 := Lib.hid ho2.2
        have HR2 := Lib.hid (HR0.out.below hb2)
        have HZ2 := Lib.hid (HZ0.out.below hb2)
        have HB2 := Lib.hid (HB0.out.trans (hb2.mono HB0.out.size))
        clear ho2 hb2
        refine hK.out _ _ trivial (fun hHeld => ?_)
        clear hK K
        refine wpAnyH_take (i := 9) (oi := ⟨some 12, .fieldAddr 34 (.tmp 1) 0, _, _, _, _⟩) (v := (.pointer (some ⟨w.heap.size, 0, none⟩))) rfl (by kernel_rfl) (by kernel_rfl) (by kernel_rfl) (fun _ _ _ h => h) (Or.inl ⟨by rfl, fun W hW => by go_simp⟩) (by assumption) ?_
        simp only [Act.put, List.setIfInBounds_toArray, List.set_cons_zero, List.set_cons_succ]
        refine wpAnyH_ready (rs := [5]) (by kernel_rfl) (by simp) ?_
        refine AllReadyH.cons (o := ⟨some 8, .call { callee := .value (.func 51), args := #[(.tmp 7)], argTypes := #[32] }, _, _, _, _⟩) rfl (fun K hK => ?_) AllReadyH.nil
        go_simp
        refine (HCG.out _ HB2.out).mono ?_
        rintro e w5 ⟨a5, c5, rfl, ho5, hb5⟩
        have HH5 := Lib.hid (Holds.add (base := w.heap.size) (h := hG rnK NEf (.slice a5 S.ng c5) r.tg) HH2.out ho5.1 hb5 HB2.out.size)
        have HK5 := Lib.hid ho5.2
        have HR5 := Lib.hid (HR2.out.below hb5)
        have HZ5 := Lib.hid (HZ2.out.below hb5)
        have HB5 := Lib.hid (HB2.out.trans (hb5.mono HB2.out.size))
        clear ho5 hb5
        refine hK.out _ _ trivial (fun hHeld => ?_)
        clear hK K
        refine wpAnyH_ready (rs := [8]) (by kernel_rfl) (by simp) ?_
        refine AllReadyH.cons (o := ⟨some 11, .call { callee := .value (.func 52), args := #[(.tmp 10)], argTypes := #[25] }, _, _, _, _⟩) rfl (fun K hK => ?_) AllReadyH.nil
        go_simp
        refine (HCL.out _ HB5.out).mono ?_
        rintro e w8 ⟨a8, c8, rfl, ho8, hb8⟩
        have HH8 := Lib.hid (Holds.add (base := w.heap.size) (h := hG enK EEf (.slice a8 S.nl c8) r.log) HH5.out ho8.1 hb8 HB5.out.size)
        have HK8 := Lib.hid ho8.2
        have HR8 := Lib.hid (HR5.out.below hb8)
        have HZ8 := Lib.hid (HZ5.out.below hb8)
        have HB8 := Lib.hid (HB5.out.trans (hb8.mono HB5.out.size))
        clear ho8 hb8
        refine hK.out _ _ trivial (fun hHeld => ?_)
        clear hK K
        have HO8 := Lib.hid (Holds.perm HH8.out (List.reverse_perm _).symm)
        have NEr3 : ∀ x ∈ [hG rnK NEf (.slice a2 S.nb c2) r.br, hG rnK NEf (.slice a5 S.ng c5) r.tg, hG enK EEf (.slice a8 S.nl c8) r.log], x.E ≠ REf := fun x hx => by simp only [List.mem_cons, List.not_mem_nil, or_false] at hx; rcases hx with rfl | rfl | rfl <;> first | exact NErf | exact EErf
        refine wpAnyH_ready (rs := [10]) (by kernel_rfl) (by simp) ?_
        refine AllReadyH.cons (o := ⟨none, .store 32 (.tmp 12) (.tmp 5), _, _, _, _⟩) rfl (fun K hK => ?_) AllReadyH.nil
        have hcell := rf_br HR8.out
        have hfz := HR8.out.free 0
        go_simp
        clear hcell hfz
        have HR18 : Hid (RowAt (w8.setCell ⟨w.heap.size, 0, none⟩ (.slice a2 S.nb c2)) w.heap.size REf (rfL { S with ab := a2, cb := c2 } r.head r.at_)) := Lib.hid (HR8.out.set 0 (.slice a2 S.nb c2))
        have HO18 := Lib.hid (holds_setBox HO8.out HR8.out NEr3 0 (.slice a2 S.nb c2))
        have HZ18 := Lib.hid (HZ8.out.other (a := ⟨w.heap.size, 0, none⟩) (Nat.succ_ne_self _) (.slice a2 S.nb c2))
        have HB18 := Lib.hid (HB8.out.setCell (p := ⟨w.heap.size, 0, none⟩) (Nat.le_refl _) (.slice a2 S.nb c2))
        generalize w8.setCell ⟨w.heap.size, 0, none⟩ (.slice a2 S.nb c2) = w18 at HR18 HO18 HZ18 HB18 ⊢
        refine hK.out _ _ trivial (fun hHeld => ?_)
        clear hK K
        refine wpAnyH_take (i := 11) (oi := ⟨some 13, .fieldAddr 34 (.tmp 1) 1, _, _, _, _⟩) (v := (.pointer (some ⟨w.heap.size, 1, none⟩))) rfl (by kernel_rfl) (by kernel_rfl) (by kernel_rfl) (fun _ _ _ h => h) (Or.inl ⟨by rfl, fun W hW => by go_simp⟩) (by assumption) ?_
        simp only [Act.put, List.setIfInBounds_toArray, List.set_cons_zero, List.set_cons_succ]
        refine wpAnyH_ready (rs := [12]) (by kernel_rfl) (by simp) ?_
        refine AllReadyH.cons (o := ⟨none, .store 32 (.tmp 13) (.tmp 8), _, _, _, _⟩) rfl (fun K hK => ?_) AllReadyH.nil
        have hcell := rf_tg HR18.out
        have hfz := HR18.out.free 1
        go_simp
        clear hcell hfz
        have HR19 : Hid (RowAt (w18.setCell ⟨w.heap.size, 1, none⟩ (.slice a5 S.ng c5)) w.heap.size REf (rfL { S with ab := a2, cb := c2, ag := a5, cg := c5 } r.head r.at_)) := Lib.hid (HR18.out.set 1 (.slice a5 S.ng c5))
        have HO19 := Lib.hid (holds_setBox HO18.out HR18.out NEr3 1 (.slice a5 S.ng c5))
        have HZ19 := Lib.hid (HZ18.out.other (a := ⟨w.heap.size, 1, none⟩) (Nat.succ_ne_self _) (.slice a5 S.ng c5))
        have HB19 := Lib.hid (HB18.out.setCell (p := ⟨w.heap.size, 1, none⟩) (Nat.le_refl _) (.slice a5 S.ng c5))
        generalize w18.setCell ⟨w.heap.size, 1, none⟩ (.slice a5 S.ng c5) = w19 at HR19 HO19 HZ19 HB19 ⊢
        refine hK.out _ _ trivial (fun hHeld => ?_)
        clear hK K
        refine wpAnyH_take (i := 13) (oi := ⟨some 14, .fieldAddr 34 (.tmp 1) 4, _, _, _, _⟩) (v := (.pointer (some ⟨w.heap.size, 35, none⟩))) rfl (by kernel_rfl) (by kernel_rfl) (by kernel_rfl) (fun _ _ _ h => h) (Or.inl ⟨by rfl, fun W hW => by go_simp⟩) (by assumption) ?_
        simp only [Act.put, List.setIfInBounds_toArray, List.set_cons_zero, List.set_cons_succ]
        refine wpAnyH_ready (rs := [14]) (by kernel_rfl) (by simp) ?_
        refine AllReadyH.cons (o := ⟨none, .store 25 (.tmp 14) (.tmp 11), _, _, _, _⟩) rfl (fun K hK => ?_) AllReadyH.nil
        have hcell := rf_log HAT.out HR19.out
        have hfz := HR19.out.free 35
        go_simp
        clear hcell hfz
        have hrow := HR19.out.set 35 (.slice a8 S.nl c8)
        rw [rfL_log ({ S with ab := a2, cb := c2, ag := a5, cg := c5 }) r.head r.at_ HAT.out] at hrow
        have HR20 : Hid (RowAt (w19.setCell ⟨w.heap.size, 35, none⟩ (.slice a8 S.nl c8)) w.heap.size REf (rfL { S with ab := a2, cb := c2, ag := a5, cg := c5, al := a8, cl := c8 } r.head r.at_)) := Lib.hid hrow
        have HO20 := Lib.hid (holds_setBox HO19.out HR19.out NEr3 35 (.slice a8 S.nl c8))
        have HZ20 := Lib.hid (HZ19.out.other (a := ⟨w.heap.size, 35, none⟩) (Nat.succ_ne_self _) (.slice a8 S.nl c8))
        have HB20 := Lib.hid (HB19.out.setCell (p := ⟨w.heap.size, 35, none⟩) (Nat.le_refl _) (.slice a8 S.nl c8))
        generalize w19.setCell ⟨w.heap.size, 35, none⟩ (.slice a8 S.nl c8) = w20 at HR20 HO20 HZ20 HB20 ⊢
        refine hK.out _ _ trivial (fun hHeld => ?_)
        clear hK K
        refine wpAnyH_done (by kernel_rfl) ?_ _
        go_wp2_with (first
          | ((with_reducible show wpList _ _ _ (⟨some 15, _, _, _, _, _⟩ :: _) _ _); go_must (refine wl_ex rfl (exec_loadRf _ rfl _ { S with ab := a2, cb := c2, ag := a5, cg := c5, al := a8, cl := c8 } r.head r.at_ HAT.out rfl HR20.out) ?_))
          | ((with_reducible show wpList _ _ _ (⟨_, Op.store _ (.tmp 2) _, _, _, _, _⟩ :: _) _ _); go_must (refine wl_store_rf (S := { S with ab := a2, cb := c2, ag := a5, cg := c5, al := a8, cl := c8 }) (h := r.head) (a := r.at_) HAT.out HZ20.out (len36 rfl) rfl _ _ rfl rfl rfl ?_); intro w21 hr21 hg21; have HR21 := Lib.hid hr21; have HG21 := Lib.hid hg21; clear hr21 hg21))
        refine bodyPost_ret (results_row rfl _ _ (w.heap.size + 1) REf (rfL { S with ab := a2, cb := c2, ag := a5, cg := c5, al := a8, cl := c8 } r.head r.at_) _ rfl HR21.out Tryd.underlying34 rfl (size36 HAT.out)) rfl ?_
        refine ⟨{ S with ab := a2, cb := c2, ag := a5, cg := c5, al := a8, cl := c8 }, rfl, ⟨HO20.out.grownOut HG21.out NEr3 HZ20.out, HK2.out, HK5.out, HK8.out, HAT.out⟩, HB20.out.grown HG21.out HB20.out.size (fun k hk => by cases hk; omega)⟩
  · have hcell := rf_tg HR0.out
    go_simp
    clear hcell
    refine hK.out _ _ trivial (fun hHeld => ?_)
    clear hK K
    refine wpAnyH_ready (rs := [1, 7]) (by kernel_rfl) (by simp) ?_
    refine AllReadyH.cons (o := ⟨some 4, .load 32 (.tmp 3), _, _, _, _⟩) rfl (fun K hK => ?_) (AllReadyH.cons (o := ⟨some 10, .load 25 (.tmp 9), _, _, _, _⟩) rfl (fun K hK => ?_) AllReadyH.nil)
    · have hcell := rf_br HR0.out
      go_simp
      clear hcell
      refine hK.out _ _ trivial (fun hHeld => ?_)
      clear hK K
      refine wpAnyH_ready (rs := [2, 7]) (by kernel_rfl) (by simp) ?_
      refine AllReadyH.cons (o := ⟨some 5, .call { callee := .value (.func 51), args := #[(.tmp 4)], argTypes := #[32] }, _, _, _, _⟩) rfl (fun K hK => ?_) (AllReadyH.cons (o := ⟨some 10, .load 25 (.tmp 9), _, _, _, _⟩) rfl (fun K hK => ?_) AllReadyH.nil)
      · go_simp
        refine (HCB.out _ HB0.out).mono ?_
        rintro e w2 ⟨a2, c2, rfl, ho2, hb2⟩
        have HH2 := Lib.hid (Holds.add (base := w.heap.size) (h := hG rnK NEf (.slice a2 S.nb c2) r.br) Holds.nil ho2.1 hb2 HB0.out.size)
        have HK2 := Lib.hid ho2.2
        have HR2 := Lib.hid (HR0.out.below hb2)
        have HZ2 := Lib.hid (HZ0.out.below hb2)
        have HB2 := Lib.hid (HB0.out.trans (hb2.mono HB0.out.size))
        clear ho2 hb2
        refine hK.out _ _ trivial (fun hHeld => ?_)
        clear hK K
        refine wpAnyH_ready (rs := [5, 7]) (by kernel_rfl) (by simp) ?_
        refine AllReadyH.cons (o := ⟨some 8, .call { callee := .value (.func 51), args := #[(.tmp 7)], argTypes := #[32] }, _, _, _, _⟩) rfl (fun K hK => ?_) (AllReadyH.cons (o := ⟨some 10, .load 25 (.tmp 9), _, _, _, _⟩) rfl (fun K hK => ?_) AllReadyH.nil)
        · go_simp
          refine (HCG.out _ HB2.out).mono ?_
          rintro e w5 ⟨a5, c5, rfl, ho5, hb5⟩
          have HH5 := Lib.hid (Holds.add (base := w.heap.size) (h := hG rnK NEf (.slice a5 S.ng c5) r.tg) HH2.out ho5.1 hb5 HB2.out.size)
          have HK5 := Lib.hid ho5.2
          have HR5 := Lib.hid (HR2.out.below hb5)
          have HZ5 := Lib.hid (HZ2.out.below hb5)
          have HB5 := Lib.hid (HB2.out.trans (hb5.mono HB2.out.size))
          clear ho5 hb5
          refine hK.out _ _ trivial (fun hHeld => ?_)
          clear hK K
          refine wpAnyH_ready (rs := [7]) (by kernel_rfl) (by simp) ?_
          refine AllReadyH.cons (o := ⟨some 10, .load 25 (.tmp 9), _, _, _, _⟩) rfl (fun K hK => ?_) AllReadyH.nil
          have hcell := rf_log HAT.out HR5.out
          go_simp
          clear hcell
          refine hK.out _ _ trivial (fun hHeld => ?_)
          clear hK K
          refine wpAnyH_take (i := 9) (oi := ⟨some 12, .fieldAddr 34 (.tmp 1) 0, _, _, _, _⟩) (v := (.pointer (some ⟨w.heap.size, 0, none⟩))) rfl (by kernel_rfl) (by kernel_rfl) (by kernel_rfl) (fun _ _ _ h => h) (Or.inl ⟨by rfl, fun W hW => by go_simp⟩) (by assumption) ?_
          simp only [Act.put, List.setIfInBounds_toArray, List.set_cons_zero, List.set_cons_succ]
          refine wpAnyH_ready (rs := [8]) (by kernel_rfl) (by simp) ?_
          refine AllReadyH.cons (o := ⟨some 11, .call { callee := .value (.func 52), args := #[(.tmp 10)], argTypes := #[25] }, _, _, _, _⟩) rfl (fun K hK => ?_) AllReadyH.nil
          go_simp
          refine (HCL.out _ HB5.out).mono ?_
          rintro e w8 ⟨a8, c8, rfl, ho8, hb8⟩
          have HH8 := Lib.hid (Holds.add (base := w.heap.size) (h := hG enK EEf (.slice a8 S.nl c8) r.log) HH5.out ho8.1 hb8 HB5.out.size)
          have HK8 := Lib.hid ho8.2
          have HR8 := Lib.hid (HR5.out.below hb8)
          have HZ8 := Lib.hid (HZ5.out.below hb8)
          have HB8 := Lib.hid (HB5.out.trans (hb8.mono HB5.out.size))
          clear ho8 hb8
          refine hK.out _ _ trivial (fun hHeld => ?_)
          clear hK K
          have HO8 := Lib.hid (Holds.perm HH8.out (List.reverse_perm _).symm)
          have NEr3 : ∀ x ∈ [hG rnK NEf (.slice a2 S.nb c2) r.br, hG rnK NEf (.slice a5 S.ng c5) r.tg, hG enK EEf (.slice a8 S.nl c8) r.log], x.E ≠ REf := fun x hx => by simp only [List.mem_cons, List.not_mem_nil, or_false] at hx; rcases hx with rfl | rfl | rfl <;> first | exact NErf | exact EErf
          refine wpAnyH_ready (rs := [10]) (by kernel_rfl) (by simp) ?_
          refine AllReadyH.cons (o := ⟨none, .store 32 (.tmp 12) (.tmp 5), _, _, _, _⟩) rfl (fun K hK => ?_) AllReadyH.nil
          have hcell := rf_br HR8.out
          have hfz := HR8.out.free 0
          go_simp
          clear hcell hfz
          have HR18 : Hid (RowAt (w8.setCell ⟨w.heap.size, 0, none⟩ (.slice a2 S.nb c2)) w.heap.size REf (rfL { S with ab := a2, cb := c2 } r.head r.at_)) := Lib.hid (HR8.out.set 0 (.slice a2 S.nb c2))
          have HO18 := Lib.hid (holds_setBox HO8.out HR8.out NEr3 0 (.slice a2 S.nb c2))
          have HZ18 := Lib.hid (HZ8.out.other (a := ⟨w.heap.size, 0, none⟩) (Nat.succ_ne_self _) (.slice a2 S.nb c2))
          have HB18 := Lib.hid (HB8.out.setCell (p := ⟨w.heap.size, 0, none⟩) (Nat.le_refl _) (.slice a2 S.nb c2))
          generalize w8.setCell ⟨w.heap.size, 0, none⟩ (.slice a2 S.nb c2) = w18 at HR18 HO18 HZ18 HB18 ⊢
          refine hK.out _ _ trivial (fun hHeld => ?_)
          clear hK K
          refine wpAnyH_take (i := 11) (oi := ⟨some 13, .fieldAddr 34 (.tmp 1) 1, _, _, _, _⟩) (v := (.pointer (some ⟨w.heap.size, 1, none⟩))) rfl (by kernel_rfl) (by kernel_rfl) (by kernel_rfl) (fun _ _ _ h => h) (Or.inl ⟨by rfl, fun W hW => by go_simp⟩) (by assumption) ?_
          simp only [Act.put, List.setIfInBounds_toArray, List.set_cons_zero, List.set_cons_succ]
          refine wpAnyH_ready (rs := [12]) (by kernel_rfl) (by simp) ?_
          refine AllReadyH.cons (o := ⟨none, .store 32 (.tmp 13) (.tmp 8), _, _, _, _⟩) rfl (fun K hK => ?_) AllReadyH.nil
          have hcell := rf_tg HR18.out
          have hfz := HR18.out.free 1
          go_simp
          clear hcell hfz
          have HR19 : Hid (RowAt (w18.setCell ⟨w.heap.size, 1, none⟩ (.slice a5 S.ng c5)) w.heap.size REf (rfL { S with ab := a2, cb := c2, ag := a5, cg := c5 } r.head r.at_)) := Lib.hid (HR18.out.set 1 (.slice a5 S.ng c5))
          have HO19 := Lib.hid (holds_setBox HO18.out HR18.out NEr3 1 (.slice a5 S.ng c5))
          have HZ19 := Lib.hid (HZ18.out.other (a := ⟨w.heap.size, 1, none⟩) (Nat.succ_ne_self _) (.slice a5 S.ng c5))
          have HB19 := Lib.hid (HB18.out.setCell (p := ⟨w.heap.size, 1, none⟩) (Nat.le_refl _) (.slice a5 S.ng c5))
          generalize w18.setCell ⟨w.heap.size, 1, none⟩ (.slice a5 S.ng c5) = w19 at HR19 HO19 HZ19 HB19 ⊢
          refine hK.out _ _ trivial (fun hHeld => ?_)
          clear hK K
          refine wpAnyH_take (i := 13) (oi := ⟨some 14, .fieldAddr 34 (.tmp 1) 4, _, _, _, _⟩) (v := (.pointer (some ⟨w.heap.size, 35, none⟩))) rfl (by kernel_rfl) (by kernel_rfl) (by kernel_rfl) (fun _ _ _ h => h) (Or.inl ⟨by rfl, fun W hW => by go_simp⟩) (by assumption) ?_
          simp only [Act.put, List.setIfInBounds_toArray, List.set_cons_zero, List.set_cons_succ]
          refine wpAnyH_ready (rs := [14]) (by kernel_rfl) (by simp) ?_
          refine AllReadyH.cons (o := ⟨none, .store 25 (.tmp 14) (.tmp 11), _, _, _, _⟩) rfl (fun K hK => ?_) AllReadyH.nil
          have hcell := rf_log HAT.out HR19.out
          have hfz := HR19.out.free 35
          go_simp
          clear hcell hfz
          have hrow := HR19.out.set 35 (.slice a8 S.nl c8)
          rw [rfL_log ({ S with ab := a2, cb := c2, ag := a5, cg := c5 }) r.head r.at_ HAT.out] at hrow
          have HR20 : Hid (RowAt (w19.setCell ⟨w.heap.size, 35, none⟩ (.slice a8 S.nl c8)) w.heap.size REf (rfL { S with ab := a2, cb := c2, ag := a5, cg := c5, al := a8, cl := c8 } r.head r.at_)) := Lib.hid hrow
          have HO20 := Lib.hid (holds_setBox HO19.out HR19.out NEr3 35 (.slice a8 S.nl c8))
          have HZ20 := Lib.hid (HZ19.out.other (a := ⟨w.heap.size, 35, none⟩) (Nat.succ_ne_self _) (.slice a8 S.nl c8))
          have HB20 := Lib.hid (HB19.out.setCell (p := ⟨w.heap.size, 35, none⟩) (Nat.le_refl _) (.slice a8 S.nl c8))
          generalize w19.setCell ⟨w.heap.size, 35, none⟩ (.slice a8 S.nl c8) = w20 at HR20 HO20 HZ20 HB20 ⊢
          refine hK.out _ _ trivial (fun hHeld => ?_)
          clear hK K
          refine wpAnyH_done (by kernel_rfl) ?_ _
          go_wp2_with (first
            | ((with_reducible show wpList _ _ _ (⟨some 15, _, _, _, _, _⟩ :: _) _ _); go_must (refine wl_ex rfl (exec_loadRf _ rfl _ { S with ab := a2, cb := c2, ag := a5, cg := c5, al := a8, cl := c8 } r.head r.at_ HAT.out rfl HR20.out) ?_))
            | ((with_reducible show wpList _ _ _ (⟨_, Op.store _ (.tmp 2) _, _, _, _, _⟩ :: _) _ _); go_must (refine wl_store_rf (S := { S with ab := a2, cb := c2, ag := a5, cg := c5, al := a8, cl := c8 }) (h := r.head) (a := r.at_) HAT.out HZ20.out (len36 rfl) rfl _ _ rfl rfl rfl ?_); intro w21 hr21 hg21; have HR21 := Lib.hid hr21; have HG21 := Lib.hid hg21; clear hr21 hg21))
          refine bodyPost_ret (results_row rfl _ _ (w.heap.size + 1) REf (rfL { S with ab := a2, cb := c2, ag := a5, cg := c5, al := a8, cl := c8 } r.head r.at_) _ rfl HR21.out Tryd.underlying34 rfl (size36 HAT.out)) rfl ?_
          refine ⟨{ S with ab := a2, cb := c2, ag := a5, cg := c5, al := a8, cl := c8 }, rfl, ⟨HO20.out.grownOut HG21.out NEr3 HZ20.out, HK2.out, HK5.out, HK8.out, HAT.out⟩, HB20.out.grown HG21.out HB20.out.size (fun k hk => by cases hk; omega)⟩
        · have hcell := rf_log HAT.out HR2.out
          go_simp
          clear hcell
          refine hK.out _ _ trivial (fun hHeld => ?_)
          clear hK K
          refine wpAnyH_take (i := 9) (oi := ⟨some 12, .fieldAddr 34 (.tmp 1) 0, _, _, _, _⟩) (v := (.pointer (some ⟨w.heap.size, 0, none⟩))) rfl (by kernel_rfl) (by kernel_rfl) (by kernel_rfl) (fun _ _ _ h => h) (Or.inl ⟨by rfl, fun W hW => by go_simp⟩) (by assumption) ?_
          simp only [Act.put, List.setIfInBounds_toArray, List.set_cons_zero, List.set_cons_succ]
          refine wpAnyH_ready (rs := [5]) (by kernel_rfl) (by simp) ?_
          refine AllReadyH.cons (o := ⟨some 8, .call { callee := .value (.func 51), args := #[(.tmp 7)], argTypes := #[32] }, _, _, _, _⟩) rfl (fun K hK => ?_) AllReadyH.nil
          go_simp
          refine (HCG.out _ HB2.out).mono ?_
          rintro e w5 ⟨a5, c5, rfl, ho5, hb5⟩
          have HH5 := Lib.hid (Holds.add (base := w.heap.size) (h := hG rnK NEf (.slice a5 S.ng c5) r.tg) HH2.out ho5.1 hb5 HB2.out.size)
          have HK5 := Lib.hid ho5.2
          have HR5 := Lib.hid (HR2.out.below hb5)
          have HZ5 := Lib.hid (HZ2.out.below hb5)
          have HB5 := Lib.hid (HB2.out.trans (hb5.mono HB2.out.size))
          clear ho5 hb5
          refine hK.out _ _ trivial (fun hHeld => ?_)
          clear hK K
          refine wpAnyH_ready (rs := [8]) (by kernel_rfl) (by simp) ?_
          refine AllReadyH.cons (o := ⟨some 11, .call { callee := .value (.func 52), args := #[(.tmp 10)], argTypes := #[25] }, _, _, _, _⟩) rfl (fun K hK => ?_) AllReadyH.nil
          go_simp
          refine (HCL.out _ HB5.out).mono ?_
          rintro e w8 ⟨a8, c8, rfl, ho8, hb8⟩
          have HH8 := Lib.hid (Holds.add (base := w.heap.size) (h := hG enK EEf (.slice a8 S.nl c8) r.log) HH5.out ho8.1 hb8 HB5.out.size)
          have HK8 := Lib.hid ho8.2
          have HR8 := Lib.hid (HR5.out.below hb8)
          have HZ8 := Lib.hid (HZ5.out.below hb8)
          have HB8 := Lib.hid (HB5.out.trans (hb8.mono HB5.out.size))
          clear ho8 hb8
          refine hK.out _ _ trivial (fun hHeld => ?_)
          clear hK K
          have HO8 := Lib.hid (Holds.perm HH8.out (List.reverse_perm _).symm)
          have NEr3 : ∀ x ∈ [hG rnK NEf (.slice a2 S.nb c2) r.br, hG rnK NEf (.slice a5 S.ng c5) r.tg, hG enK EEf (.slice a8 S.nl c8) r.log], x.E ≠ REf := fun x hx => by simp only [List.mem_cons, List.not_mem_nil, or_false] at hx; rcases hx with rfl | rfl | rfl <;> first | exact NErf | exact EErf
          refine wpAnyH_ready (rs := [10]) (by kernel_rfl) (by simp) ?_
          refine AllReadyH.cons (o := ⟨none, .store 32 (.tmp 12) (.tmp 5), _, _, _, _⟩) rfl (fun K hK => ?_) AllReadyH.nil
          have hcell := rf_br HR8.out
          have hfz := HR8.out.free 0
          go_simp
          clear hcell hfz
          have HR18 : Hid (RowAt (w8.setCell ⟨w.heap.size, 0, none⟩ (.slice a2 S.nb c2)) w.heap.size REf (rfL { S with ab := a2, cb := c2 } r.head r.at_)) := Lib.hid (HR8.out.set 0 (.slice a2 S.nb c2))
          have HO18 := Lib.hid (holds_setBox HO8.out HR8.out NEr3 0 (.slice a2 S.nb c2))
          have HZ18 := Lib.hid (HZ8.out.other (a := ⟨w.heap.size, 0, none⟩) (Nat.succ_ne_self _) (.slice a2 S.nb c2))
          have HB18 := Lib.hid (HB8.out.setCell (p := ⟨w.heap.size, 0, none⟩) (Nat.le_refl _) (.slice a2 S.nb c2))
          generalize w8.setCell ⟨w.heap.size, 0, none⟩ (.slice a2 S.nb c2) = w18 at HR18 HO18 HZ18 HB18 ⊢
          refine hK.out _ _ trivial (fun hHeld => ?_)
          clear hK K
          refine wpAnyH_take (i := 11) (oi := ⟨some 13, .fieldAddr 34 (.tmp 1) 1, _, _, _, _⟩) (v := (.pointer (some ⟨w.heap.size, 1, none⟩))) rfl (by kernel_rfl) (by kernel_rfl) (by kernel_rfl) (fun _ _ _ h => h) (Or.inl ⟨by rfl, fun W hW => by go_simp⟩) (by assumption) ?_
          simp only [Act.put, List.setIfInBounds_toArray, List.set_cons_zero, List.set_cons_succ]
          refine wpAnyH_ready (rs := [12]) (by kernel_rfl) (by simp) ?_
          refine AllReadyH.cons (o := ⟨none, .store 32 (.tmp 13) (.tmp 8), _, _, _, _⟩) rfl (fun K hK => ?_) AllReadyH.nil
          have hcell := rf_tg HR18.out
          have hfz := HR18.out.free 1
          go_simp
          clear hcell hfz
          have HR19 : Hid (RowAt (w18.setCell ⟨w.heap.size, 1, none⟩ (.slice a5 S.ng c5)) w.heap.size REf (rfL { S with ab := a2, cb := c2, ag := a5, cg := c5 } r.head r.at_)) := Lib.hid (HR18.out.set 1 (.slice a5 S.ng c5))
          have HO19 := Lib.hid (holds_setBox HO18.out HR18.out NEr3 1 (.slice a5 S.ng c5))
          have HZ19 := Lib.hid (HZ18.out.other (a := ⟨w.heap.size, 1, none⟩) (Nat.succ_ne_self _) (.slice a5 S.ng c5))
          have HB19 := Lib.hid (HB18.out.setCell (p := ⟨w.heap.size, 1, none⟩) (Nat.le_refl _) (.slice a5 S.ng c5))
          generalize w18.setCell ⟨w.heap.size, 1, none⟩ (.slice a5 S.ng c5) = w19 at HR19 HO19 HZ19 HB19 ⊢
          refine hK.out _ _ trivial (fun hHeld => ?_)
          clear hK K
          refine wpAnyH_take (i := 13) (oi := ⟨some 14, .fieldAddr 34 (.tmp 1) 4, _, _, _, _⟩) (v := (.pointer (some ⟨w.heap.size, 35, none⟩))) rfl (by kernel_rfl) (by kernel_rfl) (by kernel_rfl) (fun _ _ _ h => h) (Or.inl ⟨by rfl, fun W hW => by go_simp⟩) (by assumption) ?_
          simp only [Act.put, List.setIfInBounds_toArray, List.set_cons_zero, List.set_cons_succ]
          refine wpAnyH_ready (rs := [14]) (by kernel_rfl) (by simp) ?_
          refine AllReadyH.cons (o := ⟨none, .store 25 (.tmp 14) (.tmp 11), _, _, _, _⟩) rfl (fun K hK => ?_) AllReadyH.nil
          have hcell := rf_log HAT.out HR19.out
          have hfz := HR19.out.free 35
          go_simp
          clear hcell hfz
          have hrow := HR19.out.set 35 (.slice a8 S.nl c8)
          rw [rfL_log ({ S with ab := a2, cb := c2, ag := a5, cg := c5 }) r.head r.at_ HAT.out] at hrow
          have HR20 : Hid (RowAt (w19.setCell ⟨w.heap.size, 35, none⟩ (.slice a8 S.nl c8)) w.heap.size REf (rfL { S with ab := a2, cb := c2, ag := a5, cg := c5, al := a8, cl := c8 } r.head r.at_)) := Lib.hid hrow
          have HO20 := Lib.hid (holds_setBox HO19.out HR19.out NEr3 35 (.slice a8 S.nl c8))
          have HZ20 := Lib.hid (HZ19.out.other (a := ⟨w.heap.size, 35, none⟩) (Nat.succ_ne_self _) (.slice a8 S.nl c8))
          have HB20 := Lib.hid (HB19.out.setCell (p := ⟨w.heap.size, 35, none⟩) (Nat.le_refl _) (.slice a8 S.nl c8))
          generalize w19.setCell ⟨w.heap.size, 35, none⟩ (.slice a8 S.nl c8) = w20 at HR20 HO20 HZ20 HB20 ⊢
          refine hK.out _ _ trivial (fun hHeld => ?_)
          clear hK K
          refine wpAnyH_done (by kernel_rfl) ?_ _
          go_wp2_with (first
            | ((with_reducible show wpList _ _ _ (⟨some 15, _, _, _, _, _⟩ :: _) _ _); go_must (refine wl_ex rfl (exec_loadRf _ rfl _ { S with ab := a2, cb := c2, ag := a5, cg := c5, al := a8, cl := c8 } r.head r.at_ HAT.out rfl HR20.out) ?_))
            | ((with_reducible show wpList _ _ _ (⟨_, Op.store _ (.tmp 2) _, _, _, _, _⟩ :: _) _ _); go_must (refine wl_store_rf (S := { S with ab := a2, cb := c2, ag := a5, cg := c5, al := a8, cl := c8 }) (h := r.head) (a := r.at_) HAT.out HZ20.out (len36 rfl) rfl _ _ rfl rfl rfl ?_); intro w21 hr21 hg21; have HR21 := Lib.hid hr21; have HG21 := Lib.hid hg21; clear hr21 hg21))
          refine bodyPost_ret (results_row rfl _ _ (w.heap.size + 1) REf (rfL { S with ab := a2, cb := c2, ag := a5, cg := c5, al := a8, cl := c8 } r.head r.at_) _ rfl HR21.out Tryd.underlying34 rfl (size36 HAT.out)) rfl ?_
          refine ⟨{ S with ab := a2, cb := c2, ag := a5, cg := c5, al := a8, cl := c8 }, rfl, ⟨HO20.out.grownOut HG21.out NEr3 HZ20.out, HK2.out, HK5.out, HK8.out, HAT.out⟩, HB20.out.grown HG21.out HB20.out.size (fun k hk => by cases hk; omega)⟩
      · have hcell := rf_log HAT.out HR0.out
        go_simp
        clear hcell
        refine hK.out _ _ trivial (fun hHeld => ?_)
        clear hK K
        refine wpAnyH_ready (rs := [2]) (by kernel_rfl) (by simp) ?_
        refine AllReadyH.cons (o := ⟨some 5, .call { callee := .value (.func 51), args := #[(.tmp 4)], argTypes := #[32] }, _, _, _, _⟩) rfl (fun K hK => ?_) AllReadyH.nil
        go_simp
        refine (HCB.out _ HB0.out).mono ?_
        rintro e w2 ⟨a2, c2, rfl, ho2, hb2⟩
        have HH2 := Lib.hid (Holds.add (base := w.heap.size) (h := hG rnK NEf (.slice a2 S.nb c2) r.br) Holds.nil ho2.1 hb2 HB0.out.size)
        have HK2 := Lib.hid ho2.2
        have HR2 := Lib.hid (HR0.out.below hb2)
        have HZ2 := Lib.hid (HZ0.out.below hb2)
        have HB2 := Lib.hid (HB0.out.trans (hb2.mono HB0.out.size))
        clear ho2 hb2
        refine hK.out _ _ trivial (fun hHeld => ?_)
        clear hK K
        refine wpAnyH_take (i := 9) (oi := ⟨some 12, .fieldAddr 34 (.tmp 1) 0, _, _, _, _⟩) (v := (.pointer (some ⟨w.heap.size, 0, none⟩))) rfl (by kernel_rfl) (by kernel_rfl) (by kernel_rfl) (fun _ _ _ h => h) (Or.inl ⟨by rfl, fun W hW => by go_simp⟩) (by assumption) ?_
        simp only [Act.put, List.setIfInBounds_toArray, List.set_cons_zero, List.set_cons_succ]
        refine wpAnyH_ready (rs := [5]) (by kernel_rfl) (by simp) ?_
        refine AllReadyH.cons (o := ⟨some 8, .call { callee := .value (.func 51), args := #[(.tmp 7)], argTypes := #[32] }, _, _, _, _⟩) rfl (fun K hK => ?_) AllReadyH.nil
        go_simp
        refine (HCG.out _ HB2.out).mono ?_
        rintro e w5 ⟨a5, c5, rfl, ho5, hb5⟩
        have HH5 := Lib.hid (Holds.add (base := w.heap.size) (h := hG rnK NEf (.slice a5 S.ng c5) r.tg) HH2.out ho5.1 hb5 HB2.out.size)
        have HK5 := Lib.hid ho5.2
        have HR5 := Lib.hid (HR2.out.below hb5)
        have HZ5 := Lib.hid (HZ2.out.below hb5)
        have HB5 := Lib.hid (HB2.out.trans (hb5.mono HB2.out.size))
        clear ho5 hb5
        refine hK.out _ _ trivial (fun hHeld => ?_)
        clear hK K
        refine wpAnyH_ready (rs := [8]) (by kernel_rfl) (by simp) ?_
        refine AllReadyH.cons (o := ⟨some 11, .call { callee := .value (.func 52), args := #[(.tmp 10)], argTypes := #[25] }, _, _, _, _⟩) rfl (fun K hK => ?_) AllReadyH.nil
        go_simp
        refine (HCL.out _ HB5.out).mono ?_
        rintro e w8 ⟨a8, c8, rfl, ho8, hb8⟩
        have HH8 := Lib.hid (Holds.add (base := w.heap.size) (h := hG enK EEf (.slice a8 S.nl c8) r.log) HH5.out ho8.1 hb8 HB5.out.size)
        have HK8 := Lib.hid ho8.2
        have HR8 := Lib.hid (HR5.out.below hb8)
        have HZ8 := Lib.hid (HZ5.out.below hb8)
        have HB8 := Lib.hid (HB5.out.trans (hb8.mono HB5.out.size))
        clear ho8 hb8
        refine hK.out _ _ trivial (fun hHeld => ?_)
        clear hK K
        have HO8 := Lib.hid (Holds.perm HH8.out (List.reverse_perm _).symm)
        have NEr3 : ∀ x ∈ [hG rnK NEf (.slice a2 S.nb c2) r.br, hG rnK NEf (.slice a5 S.ng c5) r.tg, hG enK EEf (.slice a8 S.nl c8) r.log], x.E ≠ REf := fun x hx => by simp only [List.mem_cons, List.not_mem_nil, or_false] at hx; rcases hx with rfl | rfl | rfl <;> first | exact NErf | exact EErf
        refine wpAnyH_ready (rs := [10]) (by kernel_rfl) (by simp) ?_
        refine AllReadyH.cons (o := ⟨none, .store 32 (.tmp 12) (.tmp 5), _, _, _, _⟩) rfl (fun K hK => ?_) AllReadyH.nil
        have hcell := rf_br HR8.out
        have hfz := HR8.out.free 0
        go_simp
        clear hcell hfz
        have HR18 : Hid (RowAt (w8.setCell ⟨w.heap.size, 0, none⟩ (.slice a2 S.nb c2)) w.heap.size REf (rfL { S with ab := a2, cb := c2 } r.head r.at_)) := Lib.hid (HR8.out.set 0 (.slice a2 S.nb c2))
        have HO18 := Lib.hid (holds_setBox HO8.out HR8.out NEr3 0 (.slice a2 S.nb c2))
        have HZ18 := Lib.hid (HZ8.out.other (a := ⟨w.heap.size, 0, none⟩) (Nat.succ_ne_self _) (.slice a2 S.nb c2))
        have HB18 := Lib.hid (HB8.out.setCell (p := ⟨w.heap.size, 0, none⟩) (Nat.le_refl _) (.slice a2 S.nb c2))
        generalize w8.setCell ⟨w.heap.size, 0, none⟩ (.slice a2 S.nb c2) = w18 at HR18 HO18 HZ18 HB18 ⊢
        refine hK.out _ _ trivial (fun hHeld => ?_)
        clear hK K
        refine wpAnyH_take (i := 11) (oi := ⟨some 13, .fieldAddr 34 (.tmp 1) 1, _, _, _, _⟩) (v := (.pointer (some ⟨w.heap.size, 1, none⟩))) rfl (by kernel_rfl) (by kernel_rfl) (by kernel_rfl) (fun _ _ _ h => h) (Or.inl ⟨by rfl, fun W hW => by go_simp⟩) (by assumption) ?_
        simp only [Act.put, List.setIfInBounds_toArray, List.set_cons_zero, List.set_cons_succ]
        refine wpAnyH_ready (rs := [12]) (by kernel_rfl) (by simp) ?_
        refine AllReadyH.cons (o := ⟨none, .store 32 (.tmp 13) (.tmp 8), _, _, _, _⟩) rfl (fun K hK => ?_) AllReadyH.nil
        have hcell := rf_tg HR18.out
        have hfz := HR18.out.free 1
        go_simp
        clear hcell hfz
        have HR19 : Hid (RowAt (w18.setCell ⟨w.heap.size, 1, none⟩ (.slice a5 S.ng c5)) w.heap.size REf (rfL { S with ab := a2, cb := c2, ag := a5, cg := c5 } r.head r.at_)) := Lib.hid (HR18.out.set 1 (.slice a5 S.ng c5))
        have HO19 := Lib.hid (holds_setBox HO18.out HR18.out NEr3 1 (.slice a5 S.ng c5))
        have HZ19 := Lib.hid (HZ18.out.other (a := ⟨w.heap.size, 1, none⟩) (Nat.succ_ne_self _) (.slice a5 S.ng c5))
        have HB19 := Lib.hid (HB18.out.setCell (p := ⟨w.heap.size, 1, none⟩) (Nat.le_refl _) (.slice a5 S.ng c5))
        generalize w18.setCell ⟨w.heap.size, 1, none⟩ (.slice a5 S.ng c5) = w19 at HR19 HO19 HZ19 HB19 ⊢
        refine hK.out _ _ trivial (fun hHeld => ?_)
        clear hK K
        refine wpAnyH_take (i := 13) (oi := ⟨some 14, .fieldAddr 34 (.tmp 1) 4, _, _, _, _⟩) (v := (.pointer (some ⟨w.heap.size, 35, none⟩))) rfl (by kernel_rfl) (by kernel_rfl) (by kernel_rfl) (fun _ _ _ h => h) (Or.inl ⟨by rfl, fun W hW => by go_simp⟩) (by assumption) ?_
        simp only [Act.put, List.setIfInBounds_toArray, List.set_cons_zero, List.set_cons_succ]
        refine wpAnyH_ready (rs := [14]) (by kernel_rfl) (by simp) ?_
        refine AllReadyH.cons (o := ⟨none, .store 25 (.tmp 14) (.tmp 11), _, _, _, _⟩) rfl (fun K hK => ?_) AllReadyH.nil
        have hcell := rf_log HAT.out HR19.out
        have hfz := HR19.out.free 35
        go_simp
        clear hcell hfz
        have hrow := HR19.out.set 35 (.slice a8 S.nl c8)
        rw [rfL_log ({ S with ab := a2, cb := c2, ag := a5, cg := c5 }) r.head r.at_ HAT.out] at hrow
        have HR20 : Hid (RowAt (w19.setCell ⟨w.heap.size, 35, none⟩ (.slice a8 S.nl c8)) w.heap.size REf (rfL { S with ab := a2, cb := c2, ag := a5, cg := c5, al := a8, cl := c8 } r.head r.at_)) := Lib.hid hrow
        have HO20 := Lib.hid (holds_setBox HO19.out HR19.out NEr3 35 (.slice a8 S.nl c8))
        have HZ20 := Lib.hid (HZ19.out.other (a := ⟨w.heap.size, 35, none⟩) (Nat.succ_ne_self _) (.slice a8 S.nl c8))
        have HB20 := Lib.hid (HB19.out.setCell (p := ⟨w.heap.size, 35, none⟩) (Nat.le_refl _) (.slice a8 S.nl c8))
        generalize w19.setCell ⟨w.heap.size, 35, none⟩ (.slice a8 S.nl c8) = w20 at HR20 HO20 HZ20 HB20 ⊢
        refine hK.out _ _ trivial (fun hHeld => ?_)
        clear hK K
        refine wpAnyH_done (by kernel_rfl) ?_ _
        go_wp2_with (first
          | ((with_reducible show wpList _ _ _ (⟨some 15, _, _, _, _, _⟩ :: _) _ _); go_must (refine wl_ex rfl (exec_loadRf _ rfl _ { S with ab := a2, cb := c2, ag := a5, cg := c5, al := a8, cl := c8 } r.head r.at_ HAT.out rfl HR20.out) ?_))
          | ((with_reducible show wpList _ _ _ (⟨_, Op.store _ (.tmp 2) _, _, _, _, _⟩ :: _) _ _); go_must (refine wl_store_rf (S := { S with ab := a2, cb := c2, ag := a5, cg := c5, al := a8, cl := c8 }) (h := r.head) (a := r.at_) HAT.out HZ20.out (len36 rfl) rfl _ _ rfl rfl rfl ?_); intro w21 hr21 hg21; have HR21 := Lib.hid hr21; have HG21 := Lib.hid hg21; clear hr21 hg21))
        refine bodyPost_ret (results_row rfl _ _ (w.heap.size + 1) REf (rfL { S with ab := a2, cb := c2, ag := a5, cg := c5, al := a8, cl := c8 } r.head r.at_) _ rfl HR21.out Tryd.underlying34 rfl (size36 HAT.out)) rfl ?_
        refine ⟨{ S with ab := a2, cb := c2, ag := a5, cg := c5, al := a8, cl := c8 }, rfl, ⟨HO20.out.grownOut HG21.out NEr3 HZ20.out, HK2.out, HK5.out, HK8.out, HAT.out⟩, HB20.out.grown HG21.out HB20.out.size (fun k hk => by cases hk; omega)⟩
    · have hcell := rf_log HAT.out HR0.out
      go_simp
      clear hcell
      refine hK.out _ _ trivial (fun hHeld => ?_)
      clear hK K
      refine wpAnyH_ready (rs := [1]) (by kernel_rfl) (by simp) ?_
      refine AllReadyH.cons (o := ⟨some 4, .load 32 (.tmp 3), _, _, _, _⟩) rfl (fun K hK => ?_) AllReadyH.nil
      have hcell := rf_br HR0.out
      go_simp
      clear hcell
      refine hK.out _ _ trivial (fun hHeld => ?_)
      clear hK K
      refine wpAnyH_ready (rs := [2]) (by kernel_rfl) (by simp) ?_
      refine AllReadyH.cons (o := ⟨some 5, .call { callee := .value (.func 51), args := #[(.tmp 4)], argTypes := #[32] }, _, _, _, _⟩) rfl (fun K hK => ?_) AllReadyH.nil
      go_simp
      refine (HCB.out _ HB0.out).mono ?_
      rintro e w2 ⟨a2, c2, rfl, ho2, hb2⟩
      have HH2 := Lib.hid (Holds.add (base := w.heap.size) (h := hG rnK NEf (.slice a2 S.nb c2) r.br) Holds.nil ho2.1 hb2 HB0.out.size)
      have HK2 := Lib.hid ho2.2
      have HR2 := Lib.hid (HR0.out.below hb2)
      have HZ2 := Lib.hid (HZ0.out.below hb2)
      have HB2 := Lib.hid (HB0.out.trans (hb2.mono HB0.out.size))
      clear ho2 hb2
      refine hK.out _ _ trivial (fun hHeld => ?_)
      clear hK K
      refine wpAnyH_take (i := 9) (oi := ⟨some 12, .fieldAddr 34 (.tmp 1) 0, _, _, _, _⟩) (v := (.pointer (some ⟨w.heap.size, 0, none⟩))) rfl (by kernel_rfl) (by kernel_rfl) (by kernel_rfl) (fun _ _ _ h => h) (Or.inl ⟨by rfl, fun W hW => by go_simp⟩) (by assumption) ?_
      simp only [Act.put, List.setIfInBounds_toArray, List.set_cons_zero, List.set_cons_succ]
      refine wpAnyH_ready (rs := [5]) (by kernel_rfl) (by simp) ?_
      refine AllReadyH.cons (o := ⟨some 8, .call { callee := .value (.func 51), args := #[(.tmp 7)], argTypes := #[32] }, _, _, _, _⟩) rfl (fun K hK => ?_) AllReadyH.nil
      go_simp
      refine (HCG.out _ HB2.out).mono ?_
      rintro e w5 ⟨a5, c5, rfl, ho5, hb5⟩
      have HH5 := Lib.hid (Holds.add (base := w.heap.size) (h := hG rnK NEf (.slice a5 S.ng c5) r.tg) HH2.out ho5.1 hb5 HB2.out.size)
      have HK5 := Lib.hid ho5.2
      have HR5 := Lib.hid (HR2.out.below hb5)
      have HZ5 := Lib.hid (HZ2.out.below hb5)
      have HB5 := Lib.hid (HB2.out.trans (hb5.mono HB2.out.size))
      clear ho5 hb5
      refine hK.out _ _ trivial (fun hHeld => ?_)
      clear hK K
      refine wpAnyH_ready (rs := [8]) (by kernel_rfl) (by simp) ?_
      refine AllReadyH.cons (o := ⟨some 11, .call { callee := .value (.func 52), args := #[(.tmp 10)], argTypes := #[25] }, _, _, _, _⟩) rfl (fun K hK => ?_) AllReadyH.nil
      go_simp
      refine (HCL.out _ HB5.out).mono ?_
      rintro e w8 ⟨a8, c8, rfl, ho8, hb8⟩
      have HH8 := Lib.hid (Holds.add (base := w.heap.size) (h := hG enK EEf (.slice a8 S.nl c8) r.log) HH5.out ho8.1 hb8 HB5.out.size)
      have HK8 := Lib.hid ho8.2
      have HR8 := Lib.hid (HR5.out.below hb8)
      have HZ8 := Lib.hid (HZ5.out.below hb8)
      have HB8 := Lib.hid (HB5.out.trans (hb8.mono HB5.out.size))
      clear ho8 hb8
      refine hK.out _ _ trivial (fun hHeld => ?_)
      clear hK K
      have HO8 := Lib.hid (Holds.perm HH8.out (List.reverse_perm _).symm)
      have NEr3 : ∀ x ∈ [hG rnK NEf (.slice a2 S.nb c2) r.br, hG rnK NEf (.slice a5 S.ng c5) r.tg, hG enK EEf (.slice a8 S.nl c8) r.log], x.E ≠ REf := fun x hx => by simp only [List.mem_cons, List.not_mem_nil, or_false] at hx; rcases hx with rfl | rfl | rfl <;> first | exact NErf | exact EErf
      refine wpAnyH_ready (rs := [10]) (by kernel_rfl) (by simp) ?_
      refine AllReadyH.cons (o := ⟨none, .store 32 (.tmp 12) (.tmp 5), _, _, _, _⟩) rfl (fun K hK => ?_) AllReadyH.nil
      have hcell := rf_br HR8.out
      have hfz := HR8.out.free 0
      go_simp
      clear hcell hfz
      have HR18 : Hid (RowAt (w8.setCell ⟨w.heap.size, 0, none⟩ (.slice a2 S.nb c2)) w.heap.size REf (rfL { S with ab := a2, cb := c2 } r.head r.at_)) := Lib.hid (HR8.out.set 0 (.slice a2 S.nb c2))
      have HO18 := Lib.hid (holds_setBox HO8.out HR8.out NEr3 0 (.slice a2 S.nb c2))
      have HZ18 := Lib.hid (HZ8.out.other (a := ⟨w.heap.size, 0, none⟩) (Nat.succ_ne_self _) (.slice a2 S.nb c2))
      have HB18 := Lib.hid (HB8.out.setCell (p := ⟨w.heap.size, 0, none⟩) (Nat.le_refl _) (.slice a2 S.nb c2))
      generalize w8.setCell ⟨w.heap.size, 0, none⟩ (.slice a2 S.nb c2) = w18 at HR18 HO18 HZ18 HB18 ⊢
      refine hK.out _ _ trivial (fun hHeld => ?_)
      clear hK K
      refine wpAnyH_take (i := 11) (oi := ⟨some 13, .fieldAddr 34 (.tmp 1) 1, _, _, _, _⟩) (v := (.pointer (some ⟨w.heap.size, 1, none⟩))) rfl (by kernel_rfl) (by kernel_rfl) (by kernel_rfl) (fun _ _ _ h => h) (Or.inl ⟨by rfl, fun W hW => by go_simp⟩) (by assumption) ?_
      simp only [Act.put, List.setIfInBounds_toArray, List.set_cons_zero, List.set_cons_succ]
      refine wpAnyH_ready (rs := [12]) (by kernel_rfl) (by simp) ?_
      refine AllReadyH.cons (o := ⟨none, .store 32 (.tmp 13) (.tmp 8), _, _, _, _⟩) rfl (fun K hK => ?_) AllReadyH.nil
      have hcell := rf_tg HR18.out
      have hfz := HR18.out.free 1
      go_simp
      clear hcell hfz
      have HR19 : Hid (RowAt (w18.setCell ⟨w.heap.size, 1, none⟩ (.slice a5 S.ng c5)) w.heap.size REf (rfL { S with ab := a2, cb := c2, ag := a5, cg := c5 } r.head r.at_)) := Lib.hid (HR18.out.set 1 (.slice a5 S.ng c5))
      have HO19 := Lib.hid (holds_setBox HO18.out HR18.out NEr3 1 (.slice a5 S.ng c5))
      have HZ19 := Lib.hid (HZ18.out.other (a := ⟨w.heap.size, 1, none⟩) (Nat.succ_ne_self _) (.slice a5 S.ng c5))
      have HB19 := Lib.hid (HB18.out.setCell (p := ⟨w.heap.size, 1, none⟩) (Nat.le_refl _) (.slice a5 S.ng c5))
      generalize w18.setCell ⟨w.heap.size, 1, none⟩ (.slice a5 S.ng c5) = w19 at HR19 HO19 HZ19 HB19 ⊢
      refine hK.out _ _ trivial (fun hHeld => ?_)
      clear hK K
      refine wpAnyH_take (i := 13) (oi := ⟨some 14, .fieldAddr 34 (.tmp 1) 4, _, _, _, _⟩) (v := (.pointer (some ⟨w.heap.size, 35, none⟩))) rfl (by kernel_rfl) (by kernel_rfl) (by kernel_rfl) (fun _ _ _ h => h) (Or.inl ⟨by rfl, fun W hW => by go_simp⟩) (by assumption) ?_
      simp only [Act.put, List.setIfInBounds_toArray, List.set_cons_zero, List.set_cons_succ]
      refine wpAnyH_ready (rs := [14]) (by kernel_rfl) (by simp) ?_
      refine AllReadyH.cons (o := ⟨none, .store 25 (.tmp 14) (.tmp 11), _, _, _, _⟩) rfl (fun K hK => ?_) AllReadyH.nil
      have hcell := rf_log HAT.out HR19.out
      have hfz := HR19.out.free 35
      go_simp
      clear hcell hfz
      have hrow := HR19.out.set 35 (.slice a8 S.nl c8)
      rw [rfL_log ({ S with ab := a2, cb := c2, ag := a5, cg := c5 }) r.head r.at_ HAT.out] at hrow
      have HR20 : Hid (RowAt (w19.setCell ⟨w.heap.size, 35, none⟩ (.slice a8 S.nl c8)) w.heap.size REf (rfL { S with ab := a2, cb := c2, ag := a5, cg := c5, al := a8, cl := c8 } r.head r.at_)) := Lib.hid hrow
      have HO20 := Lib.hid (holds_setBox HO19.out HR19.out NEr3 35 (.slice a8 S.nl c8))
      have HZ20 := Lib.hid (HZ19.out.other (a := ⟨w.heap.size, 35, none⟩) (Nat.succ_ne_self _) (.slice a8 S.nl c8))
      have HB20 := Lib.hid (HB19.out.setCell (p := ⟨w.heap.size, 35, none⟩) (Nat.le_refl _) (.slice a8 S.nl c8))
      generalize w19.setCell ⟨w.heap.size, 35, none⟩ (.slice a8 S.nl c8) = w20 at HR20 HO20 HZ20 HB20 ⊢
      refine hK.out _ _ trivial (fun hHeld => ?_)
      clear hK K
      refine wpAnyH_done (by kernel_rfl) ?_ _
      go_wp2_with (first
        | ((with_reducible show wpList _ _ _ (⟨some 15, _, _, _, _, _⟩ :: _) _ _); go_must (refine wl_ex rfl (exec_loadRf _ rfl _ { S with ab := a2, cb := c2, ag := a5, cg := c5, al := a8, cl := c8 } r.head r.at_ HAT.out rfl HR20.out) ?_))
        | ((with_reducible show wpList _ _ _ (⟨_, Op.store _ (.tmp 2) _, _, _, _, _⟩ :: _) _ _); go_must (refine wl_store_rf (S := { S with ab := a2, cb := c2, ag := a5, cg := c5, al := a8, cl := c8 }) (h := r.head) (a := r.at_) HAT.out HZ20.out (len36 rfl) rfl _ _ rfl rfl rfl ?_); intro w21 hr21 hg21; have HR21 := Lib.hid hr21; have HG21 := Lib.hid hg21; clear hr21 hg21))
      refine bodyPost_ret (results_row rfl _ _ (w.heap.size + 1) REf (rfL { S with ab := a2, cb := c2, ag := a5, cg := c5, al := a8, cl := c8 } r.head r.at_) _ rfl HR21.out Tryd.underlying34 rfl (size36 HAT.out)) rfl ?_
      refine ⟨{ S with ab := a2, cb := c2, ag := a5, cg := c5, al := a8, cl := c8 }, rfl, ⟨HO20.out.grownOut HG21.out NEr3 HZ20.out, HK2.out, HK5.out, HK8.out, HAT.out⟩, HB20.out.grown HG21.out HB20.out.size (fun k hk => by cases hk; omega)⟩
  · have hcell := rf_log HAT.out HR0.out
    go_simp
    clear hcell
    refine hK.out _ _ trivial (fun hHeld => ?_)
    clear hK K
    refine wpAnyH_ready (rs := [1, 4]) (by kernel_rfl) (by simp) ?_
    refine AllReadyH.cons (o := ⟨some 4, .load 32 (.tmp 3), _, _, _, _⟩) rfl (fun K hK => ?_) (AllReadyH.cons (o := ⟨some 7, .load 32 (.tmp 6), _, _, _, _⟩) rfl (fun K hK => ?_) AllReadyH.nil)
    · have hcell := rf_br HR0.out
      go_simp
      clear hcell
      refine hK.out _ _ trivial (fun hHeld => ?_)
      clear hK K
      refine wpAnyH_ready (rs := [2, 4]) (by kernel_rfl) (by simp) ?_
      refine AllReadyH.cons (o := ⟨some 5, .call { callee := .value (.func 51), args := #[(.tmp 4)], argTypes := #[32] }, _, _, _, _⟩) rfl (fun K hK => ?_) (AllReadyH.cons (o := ⟨some 7, .load 32 (.tmp 6), _, _, _, _⟩) rfl (fun K hK => ?_) AllReadyH.nil)
      · go_simp
        refine (HCB.out _ HB0.out).mono ?_
        rintro e w2 ⟨a2, c2, rfl, ho2, hb2⟩
        have HH2 := Lib.hid (Holds.add (base := w.heap.size) (h := hG rnK NEf (.slice a2 S.nb c2) r.br) Holds.nil ho2.1 hb2 HB0.out.size)
        have HK2 := Lib.hid ho2.2
        have HR2 := Lib.hid (HR0.out.below hb2)
        have HZ2 := Lib.hid (HZ0.out.below hb2)
        have HB2 := Lib.hid (HB0.out.trans (hb2.mono HB0.out.size))
        clear ho2 hb2
        refine hK.out _ _ trivial (fun hHeld => ?_)
        clear hK K
        refine wpAnyH_ready (rs := [4]) (by kernel_rfl) (by simp) ?_
        refine AllReadyH.cons (o := ⟨some 7, .load 32 (.tmp 6), _, _, _, _⟩) rfl (fun K hK => ?_) AllReadyH.nil
        have hcell := rf_tg HR2.out
        go_simp
        clear hcell
        refine hK.out _ _ trivial (fun hHeld => ?_)
        clear hK K
        refine wpAnyH_take (i := 9) (oi := ⟨some 12, .fieldAddr 34 (.tmp 1) 0, _, _, _, _⟩) (v := (.pointer (some ⟨w.heap.size, 0, none⟩))) rfl (by kernel_rfl) (by kernel_rfl) (by kernel_rfl) (fun _ _ _ h => h) (Or.inl ⟨by rfl, fun W hW => by go_simp⟩) (by assumption) ?_
        simp only [Act.put, List.setIfInBounds_toArray, List.set_cons_zero, List.set_cons_succ]
        refine wpAnyH_ready (rs := [5]) (by kernel_rfl) (by simp) ?_
        refine AllReadyH.cons (o := ⟨some 8, .call { callee := .value (.func 51), args := #[(.tmp 7)], argTypes := #[32] }, _, _, _, _⟩) rfl (fun K hK => ?_) AllReadyH.nil
        go_simp
        refine (HCG.out _ HB2.out).mono ?_
        rintro e w5 ⟨a5, c5, rfl, ho5, hb5⟩
        have HH5 := Lib.hid (Holds.add (base := w.heap.size) (h := hG rnK NEf (.slice a5 S.ng c5) r.tg) HH2.out ho5.1 hb5 HB2.out.size)
        have HK5 := Lib.hid ho5.2
        have HR5 := Lib.hid (HR2.out.below hb5)
        have HZ5 := Lib.hid (HZ2.out.below hb5)
        have HB5 := Lib.hid (HB2.out.trans (hb5.mono HB2.out.size))
        clear ho5 hb5
        refine hK.out _ _ trivial (fun hHeld => ?_)
        clear hK K
        refine wpAnyH_ready (rs := [8]) (by kernel_rfl) (by simp) ?_
        refine AllReadyH.cons (o := ⟨some 11, .call { callee := .value (.func 52), args := #[(.tmp 10)], argTypes := #[25] }, _, _, _, _⟩) rfl (fun K hK => ?_) AllReadyH.nil
        go_simp
        refine (HCL.out _ HB5.out).mono ?_
        rintro e w8 ⟨a8, c8, rfl, ho8, hb8⟩
        have HH8 := Lib.hid (Holds.add (base := w.heap.size) (h := hG enK EEf (.slice a8 S.nl c8) r.log) HH5.out ho8.1 hb8 HB5.out.size)
        have HK8 := Lib.hid ho8.2
        have HR8 := Lib.hid (HR5.out.below hb8)
        have HZ8 := Lib.hid (HZ5.out.below hb8)
        have HB8 := Lib.hid (HB5.out.trans (hb8.mono HB5.out.size))
        clear ho8 hb8
        refine hK.out _ _ trivial (fun hHeld => ?_)
        clear hK K
        have HO8 := Lib.hid (Holds.perm HH8.out (List.reverse_perm _).symm)
        have NEr3 : ∀ x ∈ [hG rnK NEf (.slice a2 S.nb c2) r.br, hG rnK NEf (.slice a5 S.ng c5) r.tg, hG enK EEf (.slice a8 S.nl c8) r.log], x.E ≠ REf := fun x hx => by simp only [List.mem_cons, List.not_mem_nil, or_false] at hx; rcases hx with rfl | rfl | rfl <;> first | exact NErf | exact EErf
        refine wpAnyH_ready (rs := [10]) (by kernel_rfl) (by simp) ?_
        refine AllReadyH.cons (o := ⟨none, .store 32 (.tmp 12) (.tmp 5), _, _, _, _⟩) rfl (fun K hK => ?_) AllReadyH.nil
        have hcell := rf_br HR8.out
        have hfz := HR8.out.free 0
        go_simp
        clear hcell hfz
        have HR18 : Hid (RowAt (w8.setCell ⟨w.heap.size, 0, none⟩ (.slice a2 S.nb c2)) w.heap.size REf (rfL { S with ab := a2, cb := c2 } r.head r.at_)) := Lib.hid (HR8.out.set 0 (.slice a2 S.nb c2))
        have HO18 := Lib.hid (holds_setBox HO8.out HR8.out NEr3 0 (.slice a2 S.nb c2))
        have HZ18 := Lib.hid (HZ8.out.other (a := ⟨w.heap.size, 0, none⟩) (Nat.succ_ne_self _) (.slice a2 S.nb c2))
        have HB18 := Lib.hid (HB8.out.setCell (p := ⟨w.heap.size, 0, none⟩) (Nat.le_refl _) (.slice a2 S.nb c2))
        generalize w8.setCell ⟨w.heap.size, 0, none⟩ (.slice a2 S.nb c2) = w18 at HR18 HO18 HZ18 HB18 ⊢
        refine hK.out _ _ trivial (fun hHeld => ?_)
        clear hK K
        refine wpAnyH_take (i := 11) (oi := ⟨some 13, .fieldAddr 34 (.tmp 1) 1, _, _, _, _⟩) (v := (.pointer (some ⟨w.heap.size, 1, none⟩))) rfl (by kernel_rfl) (by kernel_rfl) (by kernel_rfl) (fun _ _ _ h => h) (Or.inl ⟨by rfl, fun W hW => by go_simp⟩) (by assumption) ?_
        simp only [Act.put, List.setIfInBounds_toArray, List.set_cons_zero, List.set_cons_succ]
        refine wpAnyH_ready (rs := [12]) (by kernel_rfl) (by simp) ?_
        refine AllReadyH.cons (o := ⟨none, .store 32 (.tmp 13) (.tmp 8), _, _, _, _⟩) rfl (fun K hK => ?_) AllReadyH.nil
        have hcell := rf_tg HR18.out
        have hfz := HR18.out.free 1
        go_simp
        clear hcell hfz
        have HR19 : Hid (RowAt (w18.setCell ⟨w.heap.size, 1, none⟩ (.slice a5 S.ng c5)) w.heap.size REf (rfL { S with ab := a2, cb := c2, ag := a5, cg := c5 } r.head r.at_)) := Lib.hid (HR18.out.set 1 (.slice a5 S.ng c5))
        have HO19 := Lib.hid (holds_setBox HO18.out HR18.out NEr3 1 (.slice a5 S.ng c5))
        have HZ19 := Lib.hid (HZ18.out.other (a := ⟨w.heap.size, 1, none⟩) (Nat.succ_ne_self _) (.slice a5 S.ng c5))
        have HB19 := Lib.hid (HB18.out.setCell (p := ⟨w.heap.size, 1, none⟩) (Nat.le_refl _) (.slice a5 S.ng c5))
        generalize w18.setCell ⟨w.heap.size, 1, none⟩ (.slice a5 S.ng c5) = w19 at HR19 HO19 HZ19 HB19 ⊢
        refine hK.out _ _ trivial (fun hHeld => ?_)
        clear hK K
        refine wpAnyH_take (i := 13) (oi := ⟨some 14, .fieldAddr 34 (.tmp 1) 4, _, _, _, _⟩) (v := (.pointer (some ⟨w.heap.size, 35, none⟩))) rfl (by kernel_rfl) (by kernel_rfl) (by kernel_rfl) (fun _ _ _ h => h) (Or.inl ⟨by rfl, fun W hW => by go_simp⟩) (by assumption) ?_
        simp only [Act.put, List.setIfInBounds_toArray, List.set_cons_zero, List.set_cons_succ]
        refine wpAnyH_ready (rs := [14]) (by kernel_rfl) (by simp) ?_
        refine AllReadyH.cons (o := ⟨none, .store 25 (.tmp 14) (.tmp 11), _, _, _, _⟩) rfl (fun K hK => ?_) AllReadyH.nil
        have hcell := rf_log HAT.out HR19.out
        have hfz := HR19.out.free 35
        go_simp
        clear hcell hfz
        have hrow := HR19.out.set 35 (.slice a8 S.nl c8)
        rw [rfL_log ({ S with ab := a2, cb := c2, ag := a5, cg := c5 }) r.head r.at_ HAT.out] at hrow
        have HR20 : Hid (RowAt (w19.setCell ⟨w.heap.size, 35, none⟩ (.slice a8 S.nl c8)) w.heap.size REf (rfL { S with ab := a2, cb := c2, ag := a5, cg := c5, al := a8, cl := c8 } r.head r.at_)) := Lib.hid hrow
        have HO20 := Lib.hid (holds_setBox HO19.out HR19.out NEr3 35 (.slice a8 S.nl c8))
        have HZ20 := Lib.hid (HZ19.out.other (a := ⟨w.heap.size, 35, none⟩) (Nat.succ_ne_self _) (.slice a8 S.nl c8))
        have HB20 := Lib.hid (HB19.out.setCell (p := ⟨w.heap.size, 35, none⟩) (Nat.le_refl _) (.slice a8 S.nl c8))
        generalize w19.setCell ⟨w.heap.size, 35, none⟩ (.slice a8 S.nl c8) = w20 at HR20 HO20 HZ20 HB20 ⊢
        refine hK.out _ _ trivial (fun hHeld => ?_)
        clear hK K
        refine wpAnyH_done (by kernel_rfl) ?_ _
        go_wp2_with (first
          | ((with_reducible show wpList _ _ _ (⟨some 15, _, _, _, _, _⟩ :: _) _ _); go_must (refine wl_ex rfl (exec_loadRf _ rfl _ { S with ab := a2, cb := c2, ag := a5, cg := c5, al := a8, cl := c8 } r.head r.at_ HAT.out rfl HR20.out) ?_))
          | ((with_reducible show wpList _ _ _ (⟨_, Op.store _ (.tmp 2) _, _, _, _, _⟩ :: _) _ _); go_must (refine wl_store_rf (S := { S with ab := a2, cb := c2, ag := a5, cg := c5, al := a8, cl := c8 }) (h := r.head) (a := r.at_) HAT.out HZ20.out (len36 rfl) rfl _ _ rfl rfl rfl ?_); intro w21 hr21 hg21; have HR21 := Lib.hid hr21; have HG21 := Lib.hid hg21; clear hr21 hg21))
        refine bodyPost_ret (results_row rfl _ _ (w.heap.size + 1) REf (rfL { S with ab := a2, cb := c2, ag := a5, cg := c5, al := a8, cl := c8 } r.head r.at_) _ rfl HR21.out Tryd.underlying34 rfl (size36 HAT.out)) rfl ?_
        refine ⟨{ S with ab := a2, cb := c2, ag := a5, cg := c5, al := a8, cl := c8 }, rfl, ⟨HO20.out.grownOut HG21.out NEr3 HZ20.out, HK2.out, HK5.out, HK8.out, HAT.out⟩, HB20.out.grown HG21.out HB20.out.size (fun k hk => by cases hk; omega)⟩
      · have hcell := rf_tg HR0.out
        go_simp
        clear hcell
        refine hK.out _ _ trivial (fun hHeld => ?_)
        clear hK K
        refine wpAnyH_ready (rs := [2]) (by kernel_rfl) (by simp) ?_
        refine AllReadyH.cons (o := ⟨some 5, .call { callee := .value (.func 51), args := #[(.tmp 4)], argTypes := #[32] }, _, _, _, _⟩) rfl (fun K hK => ?_) AllReadyH.nil
        go_simp
        refine (HCB.out _ HB0.out).mono ?_
        rintro e w2 ⟨a2, c2, rfl, ho2, hb2⟩
        have HH2 := Lib.hid (Holds.add (base := w.heap.size) (h := hG rnK NEf (.slice a2 S.nb c2) r.br) Holds.nil ho2.1 hb2 HB0.out.size)
        have HK2 := Lib.hid ho2.2
        have HR2 := Lib.hid (HR0.out.below hb2)
        have HZ2 := Lib.hid (HZ0.out.below hb2)
        have HB2 := Lib.hid (HB0.out.trans (hb2.mono HB0.out.size))
        clear ho2 hb2
        refine hK.out _ _ trivial (fun hHeld => ?_)
        clear hK K
        refine wpAnyH_take (i := 9) (oi := ⟨some 12, .fieldAddr 34 (.tmp 1) 0, _, _, _, _⟩) (v := (.pointer (some ⟨w.heap.size, 0, none⟩))) rfl (by kernel_rfl) (by kernel_rfl) (by kernel_rfl) (fun _ _ _ h => h) (Or.inl ⟨by rfl, fun W hW => by go_simp⟩) (by assumption) ?_
        simp only [Act.put, List.setIfInBounds_toArray, List.set_cons_zero, List.set_cons_succ]
        refine wpAnyH_ready (rs := [5]) (by kernel_rfl) (by simp) ?_
        refine AllReadyH.cons (o := ⟨some 8, .call { callee := .value (.func 51), args := #[(.tmp 7)], argTypes := #[32] }, _, _, _, _⟩) rfl (fun K hK => ?_) AllReadyH.nil
        go_simp
        refine (HCG.out _ HB2.out).mono ?_
        rintro e w5 ⟨a5, c5, rfl, ho5, hb5⟩
        have HH5 := Lib.hid (Holds.add (base := w.heap.size) (h := hG rnK NEf (.slice a5 S.ng c5) r.tg) HH2.out ho5.1 hb5 HB2.out.size)
        have HK5 := Lib.hid ho5.2
        have HR5 := Lib.hid (HR2.out.below hb5)
        have HZ5 := Lib.hid (HZ2.out.below hb5)
        have HB5 := Lib.hid (HB2.out.trans (hb5.mono HB2.out.size))
        clear ho5 hb5
        refine hK.out _ _ trivial (fun hHeld => ?_)
        clear hK K
        refine wpAnyH_ready (rs := [8]) (by kernel_rfl) (by simp) ?_
        refine AllReadyH.cons (o := ⟨some 11, .call { callee := .value (.func 52), args := #[(.tmp 10)], argTypes := #[25] }, _, _, _, _⟩) rfl (fun K hK => ?_) AllReadyH.nil
        go_simp
        refine (HCL.out _ HB5.out).mono ?_
        rintro e w8 ⟨a8, c8, rfl, ho8, hb8⟩
        have HH8 := Lib.hid (Holds.add (base := w.heap.size) (h := hG enK EEf (.slice a8 S.nl c8) r.log) HH5.out ho8.1 hb8 HB5.out.size)
        have HK8 := Lib.hid ho8.2
        have HR8 := Lib.hid (HR5.out.below hb8)
        have HZ8 := Lib.hid (HZ5.out.below hb8)
        have HB8 := Lib.hid (HB5.out.trans (hb8.mono HB5.out.size))
        clear ho8 hb8
        refine hK.out _ _ trivial (fun hHeld => ?_)
        clear hK K
        have HO8 := Lib.hid (Holds.perm HH8.out (List.reverse_perm _).symm)
        have NEr3 : ∀ x ∈ [hG rnK NEf (.slice a2 S.nb c2) r.br, hG rnK NEf (.slice a5 S.ng c5) r.tg, hG enK EEf (.slice a8 S.nl c8) r.log], x.E ≠ REf := fun x hx => by simp only [List.mem_cons, List.not_mem_nil, or_false] at hx; rcases hx with rfl | rfl | rfl <;> first | exact NErf | exact EErf
        refine wpAnyH_ready (rs := [10]) (by kernel_rfl) (by simp) ?_
        refine AllReadyH.cons (o := ⟨none, .store 32 (.tmp 12) (.tmp 5), _, _, _, _⟩) rfl (fun K hK => ?_) AllReadyH.nil
        have hcell := rf_br HR8.out
        have hfz := HR8.out.free 0
        go_simp
        clear hcell hfz
        have HR18 : Hid (RowAt (w8.setCell ⟨w.heap.size, 0, none⟩ (.slice a2 S.nb c2)) w.heap.size REf (rfL { S with ab := a2, cb := c2 } r.head r.at_)) := Lib.hid (HR8.out.set 0 (.slice a2 S.nb c2))
        have HO18 := Lib.hid (holds_setBox HO8.out HR8.out NEr3 0 (.slice a2 S.nb c2))
        have HZ18 := Lib.hid (HZ8.out.other (a := ⟨w.heap.size, 0, none⟩) (Nat.succ_ne_self _) (.slice a2 S.nb c2))
        have HB18 := Lib.hid (HB8.out.setCell (p := ⟨w.heap.size, 0, none⟩) (Nat.le_refl _) (.slice a2 S.nb c2))
        generalize w8.setCell ⟨w.heap.size, 0, none⟩ (.slice a2 S.nb c2) = w18 at HR18 HO18 HZ18 HB18 ⊢
        refine hK.out _ _ trivial (fun hHeld => ?_)
        clear hK K
        refine wpAnyH_take (i := 11) (oi := ⟨some 13, .fieldAddr 34 (.tmp 1) 1, _, _, _, _⟩) (v := (.pointer (some ⟨w.heap.size, 1, none⟩))) rfl (by kernel_rfl) (by kernel_rfl) (by kernel_rfl) (fun _ _ _ h => h) (Or.inl ⟨by rfl, fun W hW => by go_simp⟩) (by assumption) ?_
        simp only [Act.put, List.setIfInBounds_toArray, List.set_cons_zero, List.set_cons_succ]
        refine wpAnyH_ready (rs := [12]) (by kernel_rfl) (by simp) ?_
        refine AllReadyH.cons (o := ⟨none, .store 32 (.tmp 13) (.tmp 8), _, _, _, _⟩) rfl (fun K hK => ?_) AllReadyH.nil
        have hcell := rf_tg HR18.out
        have hfz := HR18.out.free 1
        go_simp
        clear hcell hfz
        have HR19 : Hid (RowAt (w18.setCell ⟨w.heap.size, 1, none⟩ (.slice a5 S.ng c5)) w.heap.size REf (rfL { S with ab := a2, cb := c2, ag := a5, cg := c5 } r.head r.at_)) := Lib.hid (HR18.out.set 1 (.slice a5 S.ng c5))
        have HO19 := Lib.hid (holds_setBox HO18.out HR18.out NEr3 1 (.slice a5 S.ng c5))
        have HZ19 := Lib.hid (HZ18.out.other (a := ⟨w.heap.size, 1, none⟩) (Nat.succ_ne_self _) (.slice a5 S.ng c5))
        have HB19 := Lib.hid (HB18.out.setCell (p := ⟨w.heap.size, 1, none⟩) (Nat.le_refl _) (.slice a5 S.ng c5))
        generalize w18.setCell ⟨w.heap.size, 1, none⟩ (.slice a5 S.ng c5) = w19 at HR19 HO19 HZ19 HB19 ⊢
        refine hK.out _ _ trivial (fun hHeld => ?_)
        clear hK K
        refine wpAnyH_take (i := 13) (oi := ⟨some 14, .fieldAddr 34 (.tmp 1) 4, _, _, _, _⟩) (v := (.pointer (some ⟨w.heap.size, 35, none⟩))) rfl (by kernel_rfl) (by kernel_rfl) (by kernel_rfl) (fun _ _ _ h => h) (Or.inl ⟨by rfl, fun W hW => by go_simp⟩) (by assumption) ?_
        simp only [Act.put, List.setIfInBounds_toArray, List.set_cons_zero, List.set_cons_succ]
        refine wpAnyH_ready (rs := [14]) (by kernel_rfl) (by simp) ?_
        refine AllReadyH.cons (o := ⟨none, .store 25 (.tmp 14) (.tmp 11), _, _, _, _⟩) rfl (fun K hK => ?_) AllReadyH.nil
        have hcell := rf_log HAT.out HR19.out
        have hfz := HR19.out.free 35
        go_simp
        clear hcell hfz
        have hrow := HR19.out.set 35 (.slice a8 S.nl c8)
        rw [rfL_log ({ S with ab := a2, cb := c2, ag := a5, cg := c5 }) r.head r.at_ HAT.out] at hrow
        have HR20 : Hid (RowAt (w19.setCell ⟨w.heap.size, 35, none⟩ (.slice a8 S.nl c8)) w.heap.size REf (rfL { S with ab := a2, cb := c2, ag := a5, cg := c5, al := a8, cl := c8 } r.head r.at_)) := Lib.hid hrow
        have HO20 := Lib.hid (holds_setBox HO19.out HR19.out NEr3 35 (.slice a8 S.nl c8))
        have HZ20 := Lib.hid (HZ19.out.other (a := ⟨w.heap.size, 35, none⟩) (Nat.succ_ne_self _) (.slice a8 S.nl c8))
        have HB20 := Lib.hid (HB19.out.setCell (p := ⟨w.heap.size, 35, none⟩) (Nat.le_refl _) (.slice a8 S.nl c8))
        generalize w19.setCell ⟨w.heap.size, 35, none⟩ (.slice a8 S.nl c8) = w20 at HR20 HO20 HZ20 HB20 ⊢
        refine hK.out _ _ trivial (fun hHeld => ?_)
        clear hK K
        refine wpAnyH_done (by kernel_rfl) ?_ _
        go_wp2_with (first
          | ((with_reducible show wpList _ _ _ (⟨some 15, _, _, _, _, _⟩ :: _) _ _); go_must (refine wl_ex rfl (exec_loadRf _ rfl _ { S with ab := a2, cb := c2, ag := a5, cg := c5, al := a8, cl := c8 } r.head r.at_ HAT.out rfl HR20.out) ?_))
          | ((with_reducible show wpList _ _ _ (⟨_, Op.store _ (.tmp 2) _, _, _, _, _⟩ :: _) _ _); go_must (refine wl_store_rf (S := { S with ab := a2, cb := c2, ag := a5, cg := c5, al := a8, cl := c8 }) (h := r.head) (a := r.at_) HAT.out HZ20.out (len36 rfl) rfl _ _ rfl rfl rfl ?_); intro w21 hr21 hg21; have HR21 := Lib.hid hr21; have HG21 := Lib.hid hg21; clear hr21 hg21))
        refine bodyPost_ret (results_row rfl _ _ (w.heap.size + 1) REf (rfL { S with ab := a2, cb := c2, ag := a5, cg := c5, al := a8, cl := c8 } r.head r.at_) _ rfl HR21.out Tryd.underlying34 rfl (size36 HAT.out)) rfl ?_
        refine ⟨{ S with ab := a2, cb := c2, ag := a5, cg := c5, al := a8, cl := c8 }, rfl, ⟨HO20.out.grownOut HG21.out NEr3 HZ20.out, HK2.out, HK5.out, HK8.out, HAT.out⟩, HB20.out.grown HG21.out HB20.out.size (fun k hk => by cases hk; omega)⟩
    · have hcell := rf_tg HR0.out
      go_simp
      clear hcell
      refine hK.out _ _ trivial (fun hHeld => ?_)
      clear hK K
      refine wpAnyH_ready (rs := [1]) (by kernel_rfl) (by simp) ?_
      refine AllReadyH.cons (o := ⟨some 4, .load 32 (.tmp 3), _, _, _, _⟩) rfl (fun K hK => ?_) AllReadyH.nil
      have hcell := rf_br HR0.out
      go_simp
      clear hcell
      refine hK.out _ _ trivial (fun hHeld => ?_)
      clear hK K
      refine wpAnyH_ready (rs := [2]) (by kernel_rfl) (by simp) ?_
      refine AllReadyH.cons (o := ⟨some 5, .call { callee := .value (.func 51), args := #[(.tmp 4)], argTypes := #[32] }, _, _, _, _⟩) rfl (fun K hK => ?_) AllReadyH.nil
      go_simp
      refine (HCB.out _ HB0.out).mono ?_
      rintro e w2 ⟨a2, c2, rfl, ho2, hb2⟩
      have HH2 := Lib.hid (Holds.add (base := w.heap.size) (h := hG rnK NEf (.slice a2 S.nb c2) r.br) Holds.nil ho2.1 hb2 HB0.out.size)
      have HK2 := Lib.hid ho2.2
      have HR2 := Lib.hid (HR0.out.below hb2)
      have HZ2 := Lib.hid (HZ0.out.below hb2)
      have HB2 := Lib.hid (HB0.out.trans (hb2.mono HB0.out.size))
      clear ho2 hb2
      refine hK.out _ _ trivial (fun hHeld => ?_)
      clear hK K
      refine wpAnyH_take (i := 9) (oi := ⟨some 12, .fieldAddr 34 (.tmp 1) 0, _, _, _, _⟩) (v := (.pointer (some ⟨w.heap.size, 0, none⟩))) rfl (by kernel_rfl) (by kernel_rfl) (by kernel_rfl) (fun _ _ _ h => h) (Or.inl ⟨by rfl, fun W hW => by go_simp⟩) (by assumption) ?_
      simp only [Act.put, List.setIfInBounds_toArray, List.set_cons_zero, List.set_cons_succ]
      refine wpAnyH_ready (rs := [5]) (by kernel_rfl) (by simp) ?_
      refine AllReadyH.cons (o := ⟨some 8, .call { callee := .value (.func 51), args := #[(.tmp 7)], argTypes := #[32] }, _, _, _, _⟩) rfl (fun K hK => ?_) AllReadyH.nil
      go_simp
      refine (HCG.out _ HB2.out).mono ?_
      rintro e w5 ⟨a5, c5, rfl, ho5, hb5⟩
      have HH5 := Lib.hid (Holds.add (base := w.heap.size) (h := hG rnK NEf (.slice a5 S.ng c5) r.tg) HH2.out ho5.1 hb5 HB2.out.size)
      have HK5 := Lib.hid ho5.2
      have HR5 := Lib.hid (HR2.out.below hb5)
      have HZ5 := Lib.hid (HZ2.out.below hb5)
      have HB5 := Lib.hid (HB2.out.trans (hb5.mono HB2.out.size))
      clear ho5 hb5
      refine hK.out _ _ trivial (fun hHeld => ?_)
      clear hK K
      refine wpAnyH_ready (rs := [8]) (by kernel_rfl) (by simp) ?_
      refine AllReadyH.cons (o := ⟨some 11, .call { callee := .value (.func 52), args := #[(.tmp 10)], argTypes := #[25] }, _, _, _, _⟩) rfl (fun K hK => ?_) AllReadyH.nil
      go_simp
      refine (HCL.out _ HB5.out).mono ?_
      rintro e w8 ⟨a8, c8, rfl, ho8, hb8⟩
      have HH8 := Lib.hid (Holds.add (base := w.heap.size) (h := hG enK EEf (.slice a8 S.nl c8) r.log) HH5.out ho8.1 hb8 HB5.out.size)
      have HK8 := Lib.hid ho8.2
      have HR8 := Lib.hid (HR5.out.below hb8)
      have HZ8 := Lib.hid (HZ5.out.below hb8)
      have HB8 := Lib.hid (HB5.out.trans (hb8.mono HB5.out.size))
      clear ho8 hb8
      refine hK.out _ _ trivial (fun hHeld => ?_)
      clear hK K
      have HO8 := Lib.hid (Holds.perm HH8.out (List.reverse_perm _).symm)
      have NEr3 : ∀ x ∈ [hG rnK NEf (.slice a2 S.nb c2) r.br, hG rnK NEf (.slice a5 S.ng c5) r.tg, hG enK EEf (.slice a8 S.nl c8) r.log], x.E ≠ REf := fun x hx => by simp only [List.mem_cons, List.not_mem_nil, or_false] at hx; rcases hx with rfl | rfl | rfl <;> first | exact NErf | exact EErf
      refine wpAnyH_ready (rs := [10]) (by kernel_rfl) (by simp) ?_
      refine AllReadyH.cons (o := ⟨none, .store 32 (.tmp 12) (.tmp 5), _, _, _, _⟩) rfl (fun K hK => ?_) AllReadyH.nil
      have hcell := rf_br HR8.out
      have hfz := HR8.out.free 0
      go_simp
      clear hcell hfz
      have HR18 : Hid (RowAt (w8.setCell ⟨w.heap.size, 0, none⟩ (.slice a2 S.nb c2)) w.heap.size REf (rfL { S with ab := a2, cb := c2 } r.head r.at_)) := Lib.hid (HR8.out.set 0 (.slice a2 S.nb c2))
      have HO18 := Lib.hid (holds_setBox HO8.out HR8.out NEr3 0 (.slice a2 S.nb c2))
      have HZ18 := Lib.hid (HZ8.out.other (a := ⟨w.heap.size, 0, none⟩) (Nat.succ_ne_self _) (.slice a2 S.nb c2))
      have HB18 := Lib.hid (HB8.out.setCell (p := ⟨w.heap.size, 0, none⟩) (Nat.le_refl _) (.slice a2 S.nb c2))
      generalize w8.setCell ⟨w.heap.size, 0, none⟩ (.slice a2 S.nb c2) = w18 at HR18 HO18 HZ18 HB18 ⊢
      refine hK.out _ _ trivial (fun hHeld => ?_)
      clear hK K
      refine wpAnyH_take (i := 11) (oi := ⟨some 13, .fieldAddr 34 (.tmp 1) 1, _, _, _, _⟩) (v := (.pointer (some ⟨w.heap.size, 1, none⟩))) rfl (by kernel_rfl) (by kernel_rfl) (by kernel_rfl) (fun _ _ _ h => h) (Or.inl ⟨by rfl, fun W hW => by go_simp⟩) (by assumption) ?_
      simp only [Act.put, List.setIfInBounds_toArray, List.set_cons_zero, List.set_cons_succ]
      refine wpAnyH_ready (rs := [12]) (by kernel_rfl) (by simp) ?_
      refine AllReadyH.cons (o := ⟨none, .store 32 (.tmp 13) (.tmp 8), _, _, _, _⟩) rfl (fun K hK => ?_) AllReadyH.nil
      have hcell := rf_tg HR18.out
      have hfz := HR18.out.free 1
      go_simp
      clear hcell hfz
      have HR19 : Hid (RowAt (w18.setCell ⟨w.heap.size, 1, none⟩ (.slice a5 S.ng c5)) w.heap.size REf (rfL { S with ab := a2, cb := c2, ag := a5, cg := c5 } r.head r.at_)) := Lib.hid (HR18.out.set 1 (.slice a5 S.ng c5))
      have HO19 := Lib.hid (holds_setBox HO18.out HR18.out NEr3 1 (.slice a5 S.ng c5))
      have HZ19 := Lib.hid (HZ18.out.other (a := ⟨w.heap.size, 1, none⟩) (Nat.succ_ne_self _) (.slice a5 S.ng c5))
      have HB19 := Lib.hid (HB18.out.setCell (p := ⟨w.heap.size, 1, none⟩) (Nat.le_refl _) (.slice a5 S.ng c5))
      generalize w18.setCell ⟨w.heap.size, 1, none⟩ (.slice a5 S.ng c5) = w19 at HR19 HO19 HZ19 HB19 ⊢
      refine hK.out _ _ trivial (fun hHeld => ?_)
      clear hK K
      refine wpAnyH_take (i := 13) (oi := ⟨some 14, .fieldAddr 34 (.tmp 1) 4, _, _, _, _⟩) (v := (.pointer (some ⟨w.heap.size, 35, none⟩))) rfl (by kernel_rfl) (by kernel_rfl) (by kernel_rfl) (fun _ _ _ h => h) (Or.inl ⟨by rfl, fun W hW => by go_simp⟩) (by assumption) ?_
      simp only [Act.put, List.setIfInBounds_toArray, List.set_cons_zero, List.set_cons_succ]
      refine wpAnyH_ready (rs := [14]) (by kernel_rfl) (by simp) ?_
      refine AllReadyH.cons (o := ⟨none, .store 25 (.tmp 14) (.tmp 11), _, _, _, _⟩) rfl (fun K hK => ?_) AllReadyH.nil
      have hcell := rf_log HAT.out HR19.out
      have hfz := HR19.out.free 35
      go_simp
      clear hcell hfz
      have hrow := HR19.out.set 35 (.slice a8 S.nl c8)
      rw [rfL_log ({ S with ab := a2, cb := c2, ag := a5, cg := c5 }) r.head r.at_ HAT.out] at hrow
      have HR20 : Hid (RowAt (w19.setCell ⟨w.heap.size, 35, none⟩ (.slice a8 S.nl c8)) w.heap.size REf (rfL { S with ab := a2, cb := c2, ag := a5, cg := c5, al := a8, cl := c8 } r.head r.at_)) := Lib.hid hrow
      have HO20 := Lib.hid (holds_setBox HO19.out HR19.out NEr3 35 (.slice a8 S.nl c8))
      have HZ20 := Lib.hid (HZ19.out.other (a := ⟨w.heap.size, 35, none⟩) (Nat.succ_ne_self _) (.slice a8 S.nl c8))
      have HB20 := Lib.hid (HB19.out.setCell (p := ⟨w.heap.size, 35, none⟩) (Nat.le_refl _) (.slice a8 S.nl c8))
      generalize w19.setCell ⟨w.heap.size, 35, none⟩ (.slice a8 S.nl c8) = w20 at HR20 HO20 HZ20 HB20 ⊢
      refine hK.out _ _ trivial (fun hHeld => ?_)
      clear hK K
      refine wpAnyH_done (by kernel_rfl) ?_ _
      go_wp2_with (first
        | ((with_reducible show wpList _ _ _ (⟨some 15, _, _, _, _, _⟩ :: _) _ _); go_must (refine wl_ex rfl (exec_loadRf _ rfl _ { S with ab := a2, cb := c2, ag := a5, cg := c5, al := a8, cl := c8 } r.head r.at_ HAT.out rfl HR20.out) ?_))
        | ((with_reducible show wpList _ _ _ (⟨_, Op.store _ (.tmp 2) _, _, _, _, _⟩ :: _) _ _); go_must (refine wl_store_rf (S := { S with ab := a2, cb := c2, ag := a5, cg := c5, al := a8, cl := c8 }) (h := r.head) (a := r.at_) HAT.out HZ20.out (len36 rfl) rfl _ _ rfl rfl rfl ?_); intro w21 hr21 hg21; have HR21 := Lib.hid hr21; have HG21 := Lib.hid hg21; clear hr21 hg21))
      refine bodyPost_ret (results_row rfl _ _ (w.heap.size + 1) REf (rfL { S with ab := a2, cb := c2, ag := a5, cg := c5, al := a8, cl := c8 } r.head r.at_) _ rfl HR21.out Tryd.underlying34 rfl (size36 HAT.out)) rfl ?_
      refine ⟨{ S with ab := a2, cb := c2, ag := a5, cg := c5, al := a8, cl := c8 }, rfl, ⟨HO20.out.grownOut HG21.out NEr3 HZ20.out, HK2.out, HK5.out, HK8.out, HAT.out⟩, HB20.out.grown HG21.out HB20.out.size (fun k hk => by cases hk; omega)⟩
#print axioms clone_any
end Go.Proofs.YtejooogfnnidcaaDoor

namespace Go.Proofs.YtejooogfnnidcaaDoor
open Go.RowKit
open Go.Maps (Keyed)

abbrev K8 : TypeId := 5
abbrev ActM : TypeId := 70
abbrev ActT : TypeId := 73
theorem lawU8 : Keyed Tryd.prog K8 := Maps.int_keyed Tryd.underlying5
def actR : Value → Option (DataW Unit × List MemPlace)
  | .func (.func f) a b => if a.size = 0 ∧ b.size = 0 then some (.lit (.int .i64 f), []) else some (.nil, [])
  | _ => some (.nil, [])
theorem actR_inv {v : Value} {n : Int} {ps : List MemPlace} (h : actR v = some (.lit (.int .i64 n), ps)) : ∃ f : Nat, (f : Int) = n ∧ v = .func (.func f) #[] #[] := by
  unfold actR at h
  split at h
  · split at h
    · rename_i f a b hc
      obtain ⟨ha, hb⟩ := hc
      simp only [Option.some.injEq, Prod.mk.injEq, DataW.lit.injEq, Lit.int.injEq, true_and] at h
      exact ⟨f, h.1, by rw [Array.eq_empty_of_size_eq_zero ha, Array.eq_empty_of_size_eq_zero hb]⟩
    · simp at h
  · simp at h
noncomputable def actD0 : DataW Unit := .map []
noncomputable def actD1 : DataW Unit := actD0.put (.int .u8 1) (.lit (.int .i64 53))
noncomputable def actD2 : DataW Unit := actD1.put (.int .u8 2) (.lit (.int .i64 54))
noncomputable def actD3 : DataW Unit := actD2.put (.int .u8 3) (.lit (.int .i64 55))
theorem actD3_is : actD3 = .map [(.int .u8 1, .lit (.int .i64 53)), (.int .u8 2, .lit (.int .i64 54)), (.int .u8 3, .lit (.int .i64 55))] := by kernel_rfl
def ActsAt (w : World) (b : Nat) : Prop := w.ownsMap Tryd.prog K8 actR b 3 actD3
theorem ActsAt.below {w w' : World} {b : Nat} (h : ActsAt w b) (hb : Below w.heap.size w w') : ActsAt w' b := by
  obtain ⟨es, clock, he, F⟩ := h
  refine ⟨es, clock, ?_, F⟩
  rw [hb.block b ((Array.getElem?_eq_some_iff.1 he).1)]; exact he
theorem zeroAct (w : World) : (zeroValue ActT).run Tryd.prog w = .ok .nilFunc w := by kernel_rfl
theorem u8wf {k : Nat} (hk : k < 256) : (Lit.int .u8 (k : Int)).wf = true := by
  have h1 : IntKind.u8.min = 0 := rfl
  have h2 : IntKind.u8.max = 255 := rfl
  simp only [Lit.wf, Bool.and_eq_true, decide_eq_true_eq]
  omega
/-- The act of a kind. -/
theorem look_act {w : World} {b : Nat} (h : ActsAt w b) (k : Nat) (hk : k < 256) : ∃ v, (Instr.lookup ActM (.map (some b)) (.int .u8 (k : Int)) true).run Tryd.prog w = .ok (.tuple #[v, .bool (decide (k = 1 ∨ k = 2 ∨ k = 3))]) w ∧
    (k = 1 → v = .func (.func 53) #[] #[]) ∧ (k = 2 → v = .func (.func 54) #[] #[]) ∧ (k = 3 → v = .func (.func 55) #[] #[]) := by
  have hw : (Lit.int .u8 (k : Int)).wf = true := u8wf hk
  obtain ⟨v, ps, hrun, hv⟩ := World.ownsMap.look_ok (t := ActM) (e := ActT) h lawU8 Tryd.underlying70 (zeroAct w) (zd := .nil) (zp := []) rfl (Maps.keyOf_int_mk Tryd.underlying5 hw)
  have hhas : Maps.has actD3 (.int .u8 (k : Int)) = decide (k = 1 ∨ k = 2 ∨ k = 3) := by
    rw [actD3_is]
    simp only [Maps.has, List.any_cons, List.any_nil, Lit.sameKey, true_and, Bool.or_false]
    rw [Bool.eq_iff_iff]
    simp only [Bool.or_eq_true, decide_eq_true_eq]
    omega
  rw [hhas] at hrun
  refine ⟨v, hrun, ?_, ?_, ?_⟩
  all_goals
    rintro rfl
    rw [actD3_is] at hv
    have hv2 : actR v = some (.lit (.int .i64 _), ps) := hv
    obtain ⟨f, hf, rfl⟩ := actR_inv hv2
    obtain rfl := Int.ofNat.inj hf
    rfl
theorem wl_insert {w : World} {ops : Array Oper} {rest : List Oper} {o : Oper} {a : Act} {Q : Exit → Act → World → Prop} (hg : o.guard = none) (m x v : Operand) (hop : o.op = Op.insert ActM m x v) (b n : Nat) (D : DataW Unit)
    (hm : a.eval m = .map (some b)) (hown : w.ownsMap Tryd.prog K8 actR b n D) (hn : n < 10) (k : Nat) (hk : k < 256) (hx : a.eval x = .int .u8 (k : Int)) (f : Nat) (hv : a.eval v = .func (.func f) #[] #[])
    (hK : ∀ w', w'.ownsMap Tryd.prog K8 actR b (n + 1) (D.put (.int .u8 (k : Int)) (.lit (.int .i64 f))) → w.grownBy w' (some b) → wpList Tryd.prog ops Q rest (a.put o.dst undef) w') : wpList Tryd.prog ops Q (o :: rest) a w := by
  refine wpList_plain hg fun K' hK' => ?_
  obtain ⟨w', hrun, r1, r2⟩ := World.ownsMap.store (t := ActM) (e := ActT) hown lawU8 Tryd.underlying70 (by unfold maxLen; omega) (Maps.keyOf_int_mk Tryd.underlying5 (a := (k : Int)) (u8wf hk)) (val := .func (.func f) #[] #[]) (d := .lit (.int .i64 f)) (ps := []) (by simp [actR])
  unfold Oper.wp
  simp [execOp, hop, hm, hx, hv, hrun, Result.andThen]
  exact hK' _ _ (hK w' r1 r2.grown)

set_option maxRecDepth 100000 in
set_option maxHeartbeats 1000000 in
theorem acts_any (w : World) : Calls Tryd.prog 31 #[] w fun e w' => e = .returned (.map (some w.heap.size)) ∧ ActsAt w' w.heap.size ∧ Below w.heap.size w w' := by
  have HK0 := Lib.hid (World.ownsMap_made w Tryd.prog K8 actR)
  have HB0 := Lib.hid ((Below.refl w.heap.size w).alloc (Nat.le_refl _) (.map #[] 0))
  have hmm := @run_makeMap Tryd.prog
  go_enter Tryd.func31, Tryd.ntmps31
  go_wp2_with (first
    | ((with_reducible show wpList _ _ _ (⟨_, Op.insert _ _ (.const (.int _ 1)) _, _, _, _, _⟩ :: _) _ _); go_must (refine wl_insert rfl _ _ _ rfl w.heap.size 0 _ rfl HK0.out (by decide) 1 (by decide) rfl 53 rfl ?_); intro w1 hk1 hg1; have HK1 := Lib.hid hk1; have HB1 := Lib.hid (HB0.out.grown hg1 HB0.out.size (fun q hq => by cases hq; exact Nat.le_refl _)); clear hk1 hg1)
    | ((with_reducible show wpList _ _ _ (⟨_, Op.insert _ _ (.const (.int _ 2)) _, _, _, _, _⟩ :: _) _ _); go_must (refine wl_insert rfl _ _ _ rfl w.heap.size 1 _ rfl HK1.out (by decide) 2 (by decide) rfl 54 rfl ?_); intro w2 hk2 hg2; have HK2 := Lib.hid hk2; have HB2 := Lib.hid (HB1.out.grown hg2 HB1.out.size (fun q hq => by cases hq; exact Nat.le_refl _)); clear hk2 hg2)
    | ((with_reducible show wpList _ _ _ (⟨_, Op.insert _ _ (.const (.int _ 3)) _, _, _, _, _⟩ :: _) _ _); go_must (refine wl_insert rfl _ _ _ rfl w.heap.size 2 _ rfl HK2.out (by decide) 3 (by decide) rfl 55 rfl ?_); intro w3 hk3 hg3; have HK3 := Lib.hid hk3; have HB3 := Lib.hid (HB2.out.grown hg3 HB2.out.size (fun q hq => by cases hq; exact Nat.le_refl _)); clear hk3 hg3))
  go_ret
  exact ⟨rfl, HK3.out, HB3.out⟩
#print axioms acts_any
end Go.Proofs.YtejooogfnnidcaaDoor

namespace Go.Proofs.YtejooogfnnidcaaDoor
open Go.RowKit

/-- Names in order, by pairs. -/
abbrev Sorted (L : List RName) : Prop := L.Pairwise fun a b => a.1 < b.1
theorem gd_get {L : List RName} {i : Nat} (h : i < L.length) : gd L i = L[i] := by unfold gd; simp [h]
theorem asc_sorted {L : List RName} : Asc L ↔ Sorted L := by
  rw [Sorted, List.pairwise_iff_getElem]
  constructor
  · intro h i j hi hj hij
    have := h i j hij hj
    rwa [gd_get hi, gd_get hj] at this
  · intro h i j hij hj
    have := h i j (by omega) hj hij
    rwa [gd_get (by omega), gd_get hj]
theorem rightN_iff {L : List RName} : RightN L ↔ L.length ≤ 64 ∧ (∀ x ∈ L, nameF x.1 = true ∧ x.2 ≠ idZero) ∧ Sorted L := by
  unfold RightN
  constructor
  · rintro ⟨h1, h2, h3⟩; exact ⟨h1, h2, asc_sorted.1 (asc_of h3)⟩
  · rintro ⟨h1, h2, h3⟩; exact ⟨h1, h2, fun j hj => asc_sorted.2 h3 j (j + 1) (by omega) hj⟩
theorem RightN.asc {L : List RName} (h : RightN L) : Asc L := asc_of h.2.2
theorem set_sorted {L : List RName} {k : Nat} {i : List UInt8} (hk : k < L.length) (h : Sorted L) : Sorted (L.set k ((gd L k).1, i)) := by
  have e : (L.set k ((gd L k).1, i)).map (·.1) = L.map (·.1) := by
    rw [List.map_set, gd_get hk]
    apply List.ext_getElem?
    intro j
    by_cases hj : k = j
    · subst hj; simp [hk]
    · simp [hj]
  have h2 : (L.map (·.1)).Pairwise (· < ·) := List.pairwise_map.2 h
  rw [← e] at h2
  exact List.pairwise_map.1 h2
theorem lt_ne_lt {a b : List UInt8} (h1 : ¬ a < b) (h2 : a ≠ b) : b < a := by
  exact Classical.byContradiction fun h => h2 (List.le_antisymm (List.not_lt.1 h) (List.not_lt.1 h1))
theorem ins_sorted {L : List RName} {s : List UInt8} {i : List UInt8} (h : Sorted L) (ht : thereF L s = false) : Sorted (L.take (findF L s) ++ (s, i) :: L.drop (findF L s)) := by
  have hA := asc_sorted.2 h
  have h0 : Sorted (L.take (findF L s) ++ L.drop (findF L s)) := by rw [List.take_append_drop]; exact h
  have h1 := List.pairwise_append.1 h0
  refine List.pairwise_append.2 ⟨h1.1, List.pairwise_cons.2 ⟨fun x hx => ?_, h1.2.1⟩, fun x hx y hy => ?_⟩
  · obtain ⟨j, hj, rfl⟩ := List.mem_iff_getElem.1 hx
    rw [List.length_drop] at hj
    rw [List.getElem_drop]
    have hl : findF L s + j < L.length := by omega
    have hn : ¬ (gd L (findF L s + j)).1 < s := fun h => by have := (findF_iff hA s hl).1 h; omega
    rw [gd_get hl] at hn
    refine lt_ne_lt hn (fun e => ?_)
    rcases Nat.eq_zero_or_pos j with rfl | hj0
    · unfold thereF at ht
      rw [decide_eq_true (by omega : findF L s < L.length), Bool.true_and, decide_eq_false_iff_not, gd_get (by omega)] at ht
      exact ht e
    · have h2 := hA (findF L s) (findF L s + j) (by omega) hl
      rw [gd_get hl, e] at h2
      have := (findF_iff hA s (j := findF L s) (by omega)).1 h2
      omega
  · have hx2 : x.1 < s := by
      obtain ⟨j, hj, rfl⟩ := List.mem_iff_getElem.1 hx
      rw [List.length_take] at hj
      have := (findF_iff hA s (j := j) (by omega)).2 (by omega)
      rw [gd_get (by omega)] at this
      rwa [List.getElem_take]
    rcases List.mem_cons.1 hy with rfl | hy
    · exact hx2
    · exact h1.2.2 x hx y hy
theorem moveF_right {L : List RName} {u : UpdV} (h : RightN L) (h0 : (moveF L u).2 = 0) : RightN (moveF L u).1 := by
  obtain ⟨h1, h2, h3⟩ := rightN_iff.1 h
  refine rightN_iff.2 ?_
  unfold moveF at h0 ⊢
  by_cases hn : nameF u.name = false
  · rw [if_pos hn] at h0; cases h0
  rw [if_neg hn] at h0 ⊢
  have hn : nameF u.name = true := by simpa using hn
  by_cases ho : (if thereF L u.name then (gd L (findF L u.name)).2 else idZero) ≠ u.old
  · rw [if_pos ho] at h0; cases h0
  rw [if_neg ho] at h0 ⊢
  by_cases ht : thereF L u.name = true
  · rw [if_pos ht] at h0 ⊢
    have hk : findF L u.name < L.length := by
      unfold thereF at ht
      rw [Bool.and_eq_true, decide_eq_true_eq] at ht
      exact ht.1
    by_cases hz : u.new = idZero
    · rw [if_pos hz]
      exact ⟨Nat.le_trans (List.length_eraseIdx_le ..) h1, fun x hx => h2 x (List.mem_of_mem_eraseIdx hx), List.Pairwise.sublist (List.eraseIdx_sublist ..) h3⟩
    · rw [if_neg hz]
      refine ⟨by simpa using h1, fun x hx => ?_, set_sorted hk h3⟩
      rcases List.mem_or_eq_of_mem_set hx with hx | rfl
      · exact h2 x hx
      · exact ⟨by have := (h2 _ (List.getElem_mem hk)).1; rwa [gd_get hk], hz⟩
  · rw [if_neg ht] at h0 ⊢
    by_cases hz : u.new = idZero
    · rw [if_pos hz]; exact ⟨h1, h2, h3⟩
    · rw [if_neg hz] at h0 ⊢
      by_cases h64 : L.length = 64
      · rw [if_pos h64] at h0; cases h0
      · rw [if_neg h64]
        refine ⟨?_, fun x hx => ?_, ins_sorted h3 (by simpa using ht)⟩
        · simp only [List.length_append, List.length_take, List.length_cons, List.length_drop]
          have := findF_le L u.name
          omega
        · rcases List.mem_append.1 hx with hx | hx
          · exact h2 x (List.mem_of_mem_take hx)
          · rcases List.mem_cons.1 hx with rfl | hx
            · exact ⟨hn, hz⟩
            · exact h2 x (List.mem_of_mem_drop hx)
theorem moveF_name {L : List RName} {u : UpdV} (h0 : (moveF L u).2 = 0) : nameF u.name = true := by
  revert h0
  unfold moveF
  split
  · intro h0; cases h0
  · rename_i hn
    intro _
    simpa using hn
theorem name_len {s : List UInt8} (h : nameF s = true) : s.length ≤ 32 := by
  unfold nameF at h
  simp only [Bool.and_eq_true, decide_eq_true_eq] at h
  omega
/-- An update. -/
def oneR (r : RefsV) (u : UpdV) : RefsV × Nat := if u.kind = 1 then branchF r u else if u.kind = 2 then tagF r u else if u.kind = 3 then headUF r u else (r, 1)
def applyF (n : List UInt8) : RefsV → List UpdV → RefsV × Nat
  | r, [] => (r, 0)
  | r, u :: us => if (oneR r u).2 = 0 then applyF n (logF (oneR r u).1 ⟨u, n⟩) us else (noRefs, (oneR r u).2)
theorem oneR_right {r : RefsV} {u : UpdV} (h : RightV r) (h0 : (oneR r u).2 = 0) : RightV (oneR r u).1 ∧ (oneR r u).1.log = r.log ∧ 1 ≤ u.kind ∧ u.kind ≤ 3 ∧ u.name.length ≤ 32 := by
  obtain ⟨h1, h2, h3, h4⟩ := h
  revert h0
  unfold oneR
  split
  · rename_i hk
    unfold branchF
    split
    · intro h0; cases h0
    · intro h0
      exact ⟨⟨moveF_right h1 h0, h2, h3, h4⟩, rfl, by omega, by omega, name_len (moveF_name h0)⟩
  split
  · rename_i hk
    unfold tagF
    split
    · intro h0; cases h0
    · intro h0
      exact ⟨⟨h1, moveF_right h2 h0, h3, h4⟩, rfl, by omega, by omega, name_len (moveF_name h0)⟩
  split
  · rename_i hk
    unfold headUF
    split
    · intro h0; cases h0
    rename_i ha
    split
    · intro h0; cases h0
    rename_i hb
    intro _
    have hx : ¬ (u.new = idZero ↔ u.name = []) := fun h => ha (.inr h)
    have hf : headF u.name u.new = true := by
      unfold headF
      by_cases hn : u.name = []
      · rw [if_pos hn]
        have : ¬ u.new = idZero := fun h => hx ⟨fun _ => hn, fun _ => h⟩
        rw [decide_eq_false this]; rfl
      · rw [if_neg hn]
        have h1 : nameF u.name = true := by
          by_cases h : nameF u.name = false
          · exact absurd ⟨hn, h⟩ hb
          · simpa using h
        have h2 : u.new = idZero := by
          by_cases h : u.new = idZero
          · exact h
          · exact absurd ⟨fun h' => absurd h' h, fun h' => absurd h' hn⟩ hx
        rw [h1, decide_eq_true h2]; rfl
    refine ⟨⟨h1, h2, hf, h4⟩, rfl, by omega, by omega, ?_⟩
    by_cases hn : u.name = []
    · rw [hn]; decide
    · by_cases h : nameF u.name = false
      · exact absurd ⟨hn, h⟩ hb
      · exact name_len (by simpa using h)
  · intro h0; cases h0
theorem logF_right {r : RefsV} {x : EntV} (h : RightV r) (hx : entF x = true) : RightV (logF r x) := by
  obtain ⟨h1, h2, h3, h4, h5⟩ := h
  refine ⟨h1, h2, h3, ?_, fun e he => ?_⟩
  · show ((if r.log.length = 64 then r.log.eraseIdx 0 else r.log) ++ [x]).length ≤ 64
    split
    · rename_i hl; rw [List.length_append, erase_len hl]; exact Nat.le_refl 64
    · rw [List.length_append, List.length_singleton]; omega
  · rcases List.mem_append.1 he with he | he
    · split at he
      · exact h5 e (List.mem_of_mem_eraseIdx he)
      · exact h5 e he
    · rw [List.mem_singleton.1 he]; exact hx
theorem step_right {r : RefsV} {u : UpdV} {n : List UInt8} (h : RightV r) (hn : noteF n = true) (h0 : (oneR r u).2 = 0) : RightV (logF (oneR r u).1 ⟨u, n⟩) := by
  obtain ⟨h1, _, h3, h4, h5⟩ := oneR_right h h0
  refine logF_right h1 ?_
  unfold entF
  rw [decide_eq_true h3, decide_eq_true h4, decide_eq_true h5, hn]; rfl
theorem applyF_right {n : List UInt8} (hn : noteF n = true) : ∀ (L : List UpdV) {r : RefsV}, RightV r → (applyF n r L).2 = 0 → RightV (applyF n r L).1
  | [], r, h, _ => h
  | u :: us, r, h, h0 => by
    unfold applyF at h0 ⊢
    split at h0
    · rename_i h1
      rw [if_pos h1]
      exact applyF_right hn us (step_right h hn h1) h0
    · rename_i h1
      exact absurd h0 h1
open Classical in
noncomputable def applyAll (r : RefsV) (L : List UpdV) (n : List UInt8) : RefsV × Nat := if RightV r ∧ noteF n = true then applyF n r L else (noRefs, 1)
#print axioms applyF_right
end Go.Proofs.YtejooogfnnidcaaDoor
