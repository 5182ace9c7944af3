/-
  The law of a claim with a key behind all others, walked.
-/
import Derived.Test.YtkahldoognofeaaDoorRegLast
namespace Go.Proofs.YtkahldoognofeaaDoor
open Go.RowKit Go.Maps

abbrev E14 : TypeId := 43
theorem info14 : (Tryd.prog.info? E14).map (fun i => (i.zero, i.size, i.bytes)) = some (some (.agg (claimC default)), 70, 120) := by kernel_rfl
/-- A slice literal of none, of the reference's claims. -/
theorem wp_none14 {o : Oper} {a : Act} {w : World} {K : Act → World → Prop} {Q : Exit → Act → World → Prop} (ho : o.op = .buildSlice 22 0 #[])
    (h : K (a.put o.dst (.slice (some ⟨w.heap.size, 0, none⟩) 0 0)) (w.alloc (.cells #[] E14))) : o.wp Tryd.prog a w K Q := by
  obtain ⟨d, op, t, p, af, g⟩ := o
  simp only at ho
  subst ho
  go_simp
  exact h
/-- .. of one. -/
theorem wp_sl_claim14 {o : Oper} {a : Act} {w : World} {K : Act → World → Prop} {Q : Exit → Act → World → Prop} (x : Operand) (ho : o.op = .buildSlice 22 1 #[(0, x)]) (X : ClaimV) (hX : X.key.c.length = 32 ∧ X.doc.c.length = 32) (hx : a.eval x = .agg (claimC X))
    (h : K (a.put o.dst (.slice (some ⟨w.heap.size, 0, none⟩) 1 1)) (w.alloc (.cells (claimC X) E14))) : o.wp Tryd.prog a w K Q := by
  obtain ⟨i0, hi, hz0, hz1, hz2⟩ := info_parts info14
  refine wp_buildSlice 22 E14 1 #[(0, x)] ho (claimC X) i0 _ Tryd.underlying22 hi hz0 (by rw [hz1]; decide) (by rw [hz1]; decide) ?_ h
  rw [hz1]
  have e : (#[(0, x)].map fun (p : Nat × Operand) => (p.1, a.eval p.2)).toList = [(0, .agg (claimC X))] := by simp [hx]
  exact (congrArg (Instr.fill (fun i => some (i * 70, 70)) _) e).trans (fill_claim X hX _ rfl)
theorem exec_loadClaim14 {w : World} {o : Oper} {a : Act} (x : Operand) (ho : o.op = .load E14 x) (b off : Nat) (X : ClaimV) (hX : X.key.c.length = 32 ∧ X.doc.c.length = 32) (hx : a.eval x = .pointer (some ⟨b, off, none⟩)) (hc : w.rangeAt b off (claimL X)) :
    (execOp a.eval o).run Tryd.prog w = .ok (.value (.agg (claimC X))) w := by
  have hr := run_loadVar_mid (P := Tryd.prog) w b off E14 (claimL X) _ hc Tryd.underlying43 rfl (by rw [claimL_len hX.1 hX.2]; kernel_rfl)
  unfold execOp
  simp only [ho, hx, Instr.loadAt, Instr.sureAddr, Sem.run_bind, Sem.run_pure, Result.andThen_ok, hr]
  rfl
/-- A block of one claim, read as a slice. -/
theorem blk_atG {E : TypeId} {W : World} {g : Nat} {X : ClaimV} (hX : ClOk X) (h : BlkAt E W g (claimC X).toList) : AtG clK W (some ⟨g, 0, none⟩) 1 1 [X] := by
  refine ⟨rfl, Nat.le_refl _, by omega, fun y hy => by simp at hy; rw [hy]; exact hX, .inr ⟨_, _, rfl, fun j hj i v hv => ?_⟩⟩
  obtain rfl : j = 0 := by omega
  rw [Nat.zero_mul, Nat.zero_add]
  exact h.cell i v (by have h2 : (claimL X)[i]? = some v := hv; simpa [claimC] using h2)
theorem ne_push (w : World) (o : Obj) : some (w.alloc o).heap.size ≠ (Value.slice (some ⟨w.heap.size, 0, none⟩) 0 0).ownBlock := by
  intro e
  have : (w.alloc o).heap.size = w.heap.size := Option.some.inj e
  simp at this
theorem ne_push' (w : World) (o : Obj) : some w.heap.size ≠ (Value.slice (some ⟨(w.alloc o).heap.size, 0, none⟩) 0 0).ownBlock := by
  intro e
  have : w.heap.size = (w.alloc o).heap.size := Option.some.inj e
  simp at this
section
variable {E : TypeId} {W : World} {g : Nat} {X : ClaimV}
theorem blk_key (hX : ClOk X) (h : BlkAt E W g (claimC X).toList) : W.rangeAt g 0 (keyL X.key) := by simpa [show gd [X] 0 = X from rfl] using cl_key (blk_atG hX h) (j := 0) (by omega)
theorem blk_doc (hX : ClOk X) (h : BlkAt E W g (claimC X).toList) : W.rangeAt g 34 (keyL X.doc) := by simpa [show gd [X] 0 = X from rfl] using cl_doc (blk_atG hX h) (j := 0) (by omega)
theorem blk_kind (hX : ClOk X) (h : BlkAt E W g (claimC X).toList) : W.cell? ⟨g, 68, none⟩ = some (.int .u8 (X.kind : Int)) := by simpa [show gd [X] 0 = X from rfl] using cl_kind (blk_atG hX h) (j := 0) (by omega)
theorem blk_path (hX : ClOk X) (h : BlkAt E W g (claimC X).toList) : W.cell? ⟨g, 69, none⟩ = some (.string (strB X.path)) := by simpa [show gd [X] 0 = X from rfl] using cl_path (blk_atG hX h) (j := 0) (by omega)
end

set_option maxRecDepth 100000 in
set_option maxHeartbeats 4000000 in
theorem registerNewest_any (a : Option Addr) (n c : Nat) (L : List ClaimV) (X : ClaimV) (w : World) (h : AtG clK w a n c L) (hX : ClOk X) (hT : PTabs w) :
    Calls Tryd.prog 5 #[.slice a n c, .agg (claimC X)] w fun e w' => e = .returned (.bool true) ∧ Below w.heap.size w w' := by
  obtain ⟨q, hq⟩ := light_cases n L
  have HB0 : Hid (Below w.heap.size w (w.alloc (.cells (claimC X) 43))) := Lib.hid ((Below.refl w.heap.size w).alloc (Nat.le_refl _) _)
  have HBX : Hid (BlkAt E14 (w.alloc (.cells (claimC X) 43)) w.heap.size (claimC X).toList) := Lib.hid (BlkAt.new w E14 (claimC X))
  have HLI := Lib.hid (light_any a n c L _ (h.below HB0.out) q hq)
  cases q
  · clear h hT hq hX
    go_enter Tryd.func5, Tryd.ntmps5
    go_wp2_with (go_at_call 6; go_must (refine HLI.out.mono ?_); rintro e w1 ⟨rfl, rfl⟩)
    go_ret
    exact ⟨rfl, HB0.out⟩
  obtain ⟨hn40, hl⟩ := hq.1 rfl
  obtain ⟨p, hp⟩ : ∃ p, strB X.path = p := ⟨_, rfl⟩
  have hpl : p.size = X.path.length := by
    have := congrArg List.length (strB_list X.path)
    rw [← hp]
    show (strB X.path).data.size = _
    rw [← Array.length_toList]
    exact this
  have hcp : (w.alloc (.cells (claimC X) 43)).cell? ⟨w.heap.size, 69, none⟩ = some (.string p) := by rw [← hp]; exact blk_path hX HBX.out
  by_cases hlen : 100 < (p.size : Int)
  · clear h hT hq hX
    go_enter Tryd.func5, Tryd.ntmps5
    go_wp2_with (go_at_call 6; go_must (refine HLI.out.mono ?_); rintro e w1 ⟨rfl, rfl⟩)
    go_ret
    exact ⟨rfl, HB0.out⟩
  have hlen1 : (p.size : Int) ≤ 100 := by omega
  have HM := Lib.hid hn40
  have HN1 : Hid (n + 1 ≤ 1000) := Lib.hid (by omega)
  have HN60 : Hid (n + 1 ≤ 60) := Lib.hid (by omega)
  have HL := Lib.hid h.1
  have HX := Lib.hid hX
  have HXC : Hid (X.key.c.length = 32 ∧ X.doc.c.length = 32) := Lib.hid ⟨hX.1, hX.2.1⟩
  have HLL : Hid (∀ c ∈ L ++ [X], c.path.length ≤ 100000) := Lib.hid (fun c hc => by
    rcases List.mem_append.1 hc with hc | hc
    · exact Nat.le_trans (hl c hc) (by decide)
    · simp only [List.mem_singleton] at hc
      subst hc; omega)
  have HPE := Lib.hid hp
  have HT := Lib.hid hT
  have H481 : Hid ((([] : List ClaimV).length + n) * (120 + 1) ≤ 140737488355328) := Lib.hid (by simp; omega)
  have H482 : Hid ((L.length + 1) * (120 + 1) ≤ 140737488355328) := Lib.hid (by rw [h.1]; omega)
  have HN := Lib.hid h
  have AW := Lib.hid (fun W (hW : Below w.heap.size w W) => regAwake_any W (hT.below hW))
  have hnI : (n : Int) ≤ 40 := by omega
  clear h hT hq hX hpl hp hn40 hl
  go_enter Tryd.func5, Tryd.ntmps5
  go_wp2_with (go_at_call 6; go_must (refine HLI.out.mono ?_); rintro e w1 ⟨rfl, rfl⟩)
  clear hcp
  generalize hw1 : w.alloc (.cells (claimC X) 43) = w1 at HB0 HBX ⊢
  generalize hg3 : w.heap.size = g3 at HBX ⊢
  clear hw1
  go_loopg [5] n (fun g v5 W => ∃ i : Nat, v5 = .int .i64 i ∧ g + i = n ∧ Hid (Below w1.heap.size w1 W) ∧ Hid (∀ j, j < i → keyF (gd L j).key X.key < 0))
  case atStart => exact ⟨0, rfl, rfl, Lib.hid (Below.refl _ _), Lib.hid (fun j hj => by omega)⟩
  case round =>
    obtain ⟨i, rfl, hg, HB, HLT⟩ := hrel
    have HG := Lib.hid hg
    have hi0 : (0 : Int) ≤ (i : Int) := by omega
    have hiI : (i : Int) ≤ (n : Int) := by omega
    by_cases hi : (i : Int) < (n : Int)
    · have hin : i < n := by omega
      have HI := Lib.hid hin
      obtain ⟨b, o, rfl⟩ := HN.out.some_ (by omega)
      have HBW : Hid (Below w.heap.size w wr.drew) := Lib.hid (HB0.out.trans (HB.out.mono HB0.out.size)).drew
      have HKY : Hid (wr.drew.rangeAt b (o + i * 70) (keyL (gd L i).key)) := Lib.hid (cl_key (HN.out.below HBW.out) hin)
      have HKX : Hid (wr.drew.rangeAt g3 0 (keyL X.key)) := Lib.hid (blk_key HX.out (HBX.out.below HB.out.drew))
      obtain ⟨Y, hY⟩ : ∃ Y, Y = gd L i := ⟨_, rfl⟩
      rw [← hY] at HKY
      have HYE := Lib.hid hY
      have HYC : Hid (Y.key.c.length = 32) := Lib.hid (hY ▸ (HN.out.ok hin).1)
      obtain ⟨z, hz⟩ : ∃ z, keyF Y.key X.key = z := ⟨_, rfl⟩
      have HZ := Lib.hid hz
      have KA := Lib.hid (fun W => keys_is Y.key X.key z hz W HYC.out HXC.out.1)
      clear hg hY hz hin
      go_wp2
      refine wp_region_still_tail 7 (by kernel_rfl) (by kernel_rfl) ?_
      simp only [List.take_succ_cons, List.take_zero, List.drop_succ_cons, List.drop_zero]
      iterate 4 still_step
      refine still_w (by rfl) (exec_loadKey _ rfl _ _ Y.key HYC.out rfl HKY.out) ?_
      simp only [Act.put, List.setIfInBounds_toArray, List.set_cons_zero, List.set_cons_succ]
      iterate 1 still_step
      refine still_w (by rfl) (exec_loadKey _ rfl _ _ X.key HXC.out.1 rfl HKX.out) ?_
      simp only [Act.put, List.setIfInBounds_toArray, List.set_cons_zero, List.set_cons_succ]
      with_reducible refine wpStill_nil ?_
      change wpList _ _ _ _ _ wr.drew
      have HBV := Lib.hid HB.out.drew
      generalize wr.drew = wd0 at HBV ⊢
      by_cases hz0 : (0 : Int) ≤ z
      · go_wp2_with (go_at_call 10; go_must (refine (KA.out _).mono ?_); rintro e wd ⟨rfl, hbk⟩; have HBZ := Lib.hid (HBV.out.trans (hbk.mono HBV.out.size)); clear hbk)
        go_ret
        exact ⟨rfl, HB0.out.trans (HBZ.out.mono HB0.out.size)⟩
      · have dz : decide (0 ≤ z) = false := decide_eq_false hz0
        have HZ0 := Lib.hid hz0
        clear hz0
        go_wp2_with (go_at_call 10; go_must (refine (KA.out _).mono ?_); rintro e wd ⟨rfl, hbk⟩; have HBZ := Lib.hid (HBV.out.trans (hbk.mono HBV.out.size)); clear hbk)
        go_roundg (n - (i + 1))
        case measure => have := HG.out; have := HI.out; omega
        case rel => exact ⟨i + 1, by go_num, by have := HI.out; omega, HBZ, Lib.hid (fun j hj => by
          rcases Nat.lt_or_ge j i with h1 | h1
          · exact HLT.out j h1
          · obtain rfl : j = i := by omega
            have := HZ.out
            have := HZ0.out
            rw [← HYE.out]; omega)⟩
    · have hin : n = i := by omega
      subst hin
      have HLAST : Hid (∀ c ∈ L, keyF c.key X.key < 0) := Lib.hid (fun c hc => by
        obtain ⟨j, hj, rfl⟩ := List.mem_iff_getElem.1 hc
        have := HLT.out j (by rw [← HL.out]; exact hj)
        unfold gd at this
        rwa [List.getD_eq_getElem?_getD, List.getElem?_eq_getElem hj] at this)
      clear hg HLT
      generalize wr = w8 at HB ⊢
      have HBW : Hid (Below w.heap.size w w8) := Lib.hid (HB0.out.trans (HB.out.mono HB0.out.size))
      have HBX8 : Hid (BlkAt E14 w8 g3 (claimL X)) := Lib.hid (by have := HBX.out.below HB.out; simpa [claimC] using this)
      have HN8 := Lib.hid (HN.out.below HBW.out)
      go_wp2
      have HBd : Hid (Below w8.heap.size w8 w8.drew) := Lib.hid (Below.refl _ _).drew
      refine wp_region_held_drew (S := fun W => Below w8.heap.size w8 W) (by kernel_rfl) HBd.out (fun hHeld => ?_)
      refine wpAnyH_take (i := 1) (oi := ⟨some 37, .move (.tmp 0), _, _, _, _⟩) (v := (.slice a n c)) rfl (by kernel_rfl) (by kernel_rfl) (by kernel_rfl) (fun _ _ _ h => h) (Or.inl ⟨by rfl, fun W hW => by go_simp⟩) (by assumption) ?_
      simp only [Act.put, List.setIfInBounds_toArray, List.set_cons_zero, List.set_cons_succ]
      refine wpAnyH_take (i := 3) (oi := ⟨some 39, .load E14 (.tmp 3), _, _, _, _⟩) (v := (.agg (claimC X))) rfl (by kernel_rfl) (by kernel_rfl) (by kernel_rfl) (fun _ _ _ h => h) (Or.inl ⟨by rfl, fun W hW => exec_loadClaim14 _ rfl _ _ X HXC.out rfl (HBX8.out.below hW).range⟩) (by assumption) ?_
      simp only [Act.put, List.setIfInBounds_toArray, List.set_cons_zero, List.set_cons_succ]
      refine wpAnyH_ready (rs := [0, 4]) (by kernel_rfl) (by simp) ?_
      refine AllReadyH.cons (o := ⟨some 36, .buildSlice 22 0 #[], _, _, _, _⟩) rfl (fun K hK => ?_) (AllReadyH.cons (o := ⟨some 40, .buildSlice 22 1 #[(0, .tmp 39)], _, _, _, _⟩) rfl (fun K hK => ?_) AllReadyH.nil)
      · refine ready_step (wp_none14 rfl ?_)
        simp only [Act.put, List.setIfInBounds_toArray, List.set_cons_zero, List.set_cons_succ]
        have HO0 := Lib.hid (OwnG.lit (K := clK) (E := E14) (w := w8.drew) (L := []) rfl #[] rfl)
        have HX1 := Lib.hid (HBd.out.alloc HBd.out.size (.cells #[] E14))
        have HG0 := Lib.hid (HBd.out.size)
        have HS0 := Lib.hid (size_alloc_le w8.drew (.cells #[] E14))
        refine hK.out _ _ HX1.out (fun hHeld => ?_)
        clear hK K
        refine wpAnyH_ready (rs := [2, 4]) (by kernel_rfl) (by simp) ?_
        refine AllReadyH.cons (o := ⟨some 38, .call { callee := .builtin .append, args := #[.tmp 36, .tmp 37], argTypes := #[22, 22] }, _, _, _, _⟩) rfl (fun K hK => ?_) (AllReadyH.cons (o := ⟨some 40, .buildSlice 22 1 #[(0, .tmp 39)], _, _, _, _⟩) rfl (fun K hK => ?_) AllReadyH.nil)
        · refine ready_step (wp_appG clK Tryd.underlying22 info14 sizeZ _ _ rfl w8.drew.heap.size _ [] rfl HO0.out a n c L rfl (HN8.out.below HX1.out) H481.out HS0.out n (by simp) ?_)
          intro a2 c2 W2 ho2 hg2
          rw [List.nil_append] at ho2
          have HO2 := Lib.hid ho2
          have HGR2 := Lib.hid hg2
          have HX2 := Lib.hid (HX1.out.grown hg2 HX1.out.size (fun q hq => by cases hq; exact HG0.out))
          clear ho2 hg2
          simp only [Act.put, List.setIfInBounds_toArray, List.set_cons_zero, List.set_cons_succ]
          refine hK.out _ _ HX2.out (fun hHeld => ?_)
          clear hK K
          refine wpAnyH_ready (rs := [4]) (by kernel_rfl) (by simp) ?_
          refine AllReadyH.cons (o := ⟨some 40, .buildSlice 22 1 #[(0, .tmp 39)], _, _, _, _⟩) rfl (fun K hK => ?_) AllReadyH.nil
          refine ready_step (wp_sl_claim14 _ rfl X HXC.out rfl ?_)
          simp only [Act.put, List.setIfInBounds_toArray, List.set_cons_zero, List.set_cons_succ]
          have HA1 := Lib.hid (BlkAt.new W2 E14 (claimC X))
          have HX3 := Lib.hid (HX2.out.alloc HX2.out.size (.cells (claimC X) E14))
          have HS1 := Lib.hid (size_alloc_le W2 (.cells (claimC X) E14))
          refine hK.out _ _ HX3.out (fun hHeld => ?_)
          clear hK K
          refine wpAnyH_ready (rs := [5]) (by kernel_rfl) (by simp) ?_
          refine AllReadyH.cons (o := ⟨some 41, .call { callee := .builtin .append, args := #[.tmp 38, .tmp 40], argTypes := #[22, 22] }, _, _, _, _⟩) rfl (fun K hK => ?_) AllReadyH.nil
          refine ready_step (wp_appG clK Tryd.underlying22 info14 sizeZ _ _ rfl w8.drew.heap.size _ L rfl (HO2.out.alloc _) _ 1 1 [X] rfl (blk_atG HX.out HA1.out) H482.out HX3.out.size (n + 1) (by rw [HL.out]) ?_)
          intro a5 c5 W5 ho5 hg5
          have HA5 := Lib.hid ho5.atG
          have HX4 := Lib.hid (HX3.out.grown hg5 HX3.out.size (fun q hq => Nat.le_trans HG0.out (HO2.out.lt q hq).1))
          clear ho5 hg5
          simp only [Act.put, List.setIfInBounds_toArray, List.set_cons_zero, List.set_cons_succ]
          refine hK.out _ _ HX4.out (fun hHeld => ?_)
          clear hK K
          refine wpAnyH_ready (rs := [6]) (by kernel_rfl) (by simp) ?_
          refine AllReadyH.cons (o := ⟨some 42, .call { callee := .value (.func 8), args := #[.tmp 41], argTypes := #[22] }, _, _, _, _⟩) rfl (fun K hK => ?_) AllReadyH.nil
          go_simp
          go_wp2_with (go_at_call 8; go_must (refine (told_any _ _ _ (L ++ [X]) _ HA5.out HN1.out).mono ?_); rintro e wt ⟨am, cm, rfl, hom, hbm⟩; rw [List.length_append, HL.out] at hom ⊢; have HAM := Lib.hid hom.atG; have HBM := Lib.hid (HX4.out.trans (hbm.mono HX4.out.size)); clear hom hbm)
          refine hK.out _ _ HBM.out (fun hHeld => ?_)
          clear hK K
          refine wpAnyH_take (i := 7) (oi := ⟨some 6, .assign (.tmp 42), _, _, _, _⟩) (v := (.slice am (n + 1) cm)) rfl (by kernel_rfl) (by kernel_rfl) (by kernel_rfl) (fun _ _ _ h => h) (Or.inl ⟨by rfl, fun W hW => by go_simp⟩) (by assumption) ?_
          simp only [Act.put, List.setIfInBounds_toArray, List.set_cons_zero, List.set_cons_succ]
          refine wpAnyH_done (by kernel_rfl) ?_ _
          have HBT : Hid (Below w.heap.size w wt) := Lib.hid (HBW.out.trans (HBM.out.mono HBW.out.size))
          have HXB : Hid (∀ W, Below wt.heap.size wt W → BlkAt E14 W g3 (claimC X).toList) := Lib.hid (fun W hW => ((HBX.out.below HB.out).below HBM.out).below hW)
          have HBW' : Hid (∀ W, Below wt.heap.size wt W → Below w.heap.size w W) := Lib.hid (fun W hW => HBT.out.trans (hW.mono HBT.out.size))
          obtain ⟨q2, hq2⟩ : ∃ q2 : Bool, q2 = true ↔ RightR (L ++ [X]) := ⟨(by classical exact decide (RightR (L ++ [X]))), by classical exact decide_eq_true_iff⟩
          have HRI := Lib.hid (right_is am (n + 1) cm (L ++ [X]) wt HAM.out HN1.out HLL.out (HT.out.below HBT.out) q2 hq2)
          cases q2
          · clear hq2
            go_wp2_with (first
              | (go_at_call 13; go_must (refine HRI.out.mono ?_); rintro e wr1 ⟨rfl, hbr⟩; have HBR := Lib.hid (HBW'.out _ hbr); clear hbr)
              | (go_at_call 12; go_must (refine (AW.out _ HBR.out).mono ?_); rintro e w9 ⟨rfl, hb9⟩))
            go_ret
            exact ⟨rfl, HBR.out.trans (hb9.mono HBR.out.size)⟩
          · have HRR : Hid (RightR (L ++ [X])) := Lib.hid (hq2.1 rfl)
            clear hq2
            have HLS : Hid (IsLast (L ++ [X]) X) := Lib.hid (last_newest HLAST.out)
            go_wp2_with (first
              | (go_at_call 13; go_must (refine HRI.out.mono ?_); rintro e wr1 ⟨rfl, hbr⟩; have HBR := Lib.hid hbr; clear hbr)
              | ((with_reducible show wpList _ _ _ (⟨some 50, _, _, _, _, _⟩ :: _) _ _); go_must (refine wl_ex rfl (exec_loadKey _ rfl _ _ X.doc HXC.out.2 rfl (blk_doc HX.out (HXB.out _ HBR.out))) ?_))
              | (go_at_call 14; go_must (refine (last_any am (n + 1) cm (L ++ [X]) X X.doc _ (HAM.out.below HBR.out) HN1.out HLL.out (HT.out.below (HBW'.out _ HBR.out)) HRR.out HLS.out rfl).mono ?_); rintro e wl ⟨rfl, hbl⟩; have HBL := Lib.hid (HBR.out.trans (hbl.mono HBR.out.size)); clear hbl)
              | ((with_reducible show wpList _ _ _ (⟨_, Op.store _ (.tmp 7) _, _, _, _, _⟩ :: _) _ _); go_must (refine store_claim rfl rfl _ _ rfl X HXC.out rfl rfl ?_); intro W7 hnd hb7 hs7; have HND := Lib.hid hnd; have HB7 := Lib.hid (HBL.out.trans (hb7.mono HBL.out.size)); clear hnd hb7 hs7)
              | (go_at_call 7; go_must (refine (paths_any am (n + 1) cm (L ++ [X]) _ (HAM.out.below HB7.out) HN60.out HLL.out (HT.out.below (HBW'.out _ HB7.out))).mono ?_); rintro e w3 ⟨S, P, a3, c3, rfl, hsh, hpp, hat, hb3⟩; have HS := Lib.hid hsh; have HP := Lib.hid hpp; have HA3 := Lib.hid hat; have HND3 := Lib.hid (HND.out.below hb3); have HB3 := Lib.hid (HB7.out.trans (hb3.mono HB7.out.size)); clear hsh hpp hat hb3))
            obtain ⟨m, hm⟩ : ∃ m, S.length = m := ⟨_, rfl⟩
            rw [hm] at HA3 ⊢
            have HML := Lib.hid hm
            have hmI : (m : Int) ≤ 60 := by
              have h1 := HS.out.length
              rw [List.length_append, HL.out, hm] at h1
              simp only [List.length_singleton] at h1
              have := HN60.out
              omega
            clear hm HRI
            go_loopg [10, 11] m (fun g v10 v11 W => ∃ (i : Nat) (b : Bool), v11 = .int .i64 i ∧ v10 = .bool b ∧ g + i = m ∧ Hid (Below w3.heap.size w3 W) ∧ Hid (b = true ↔ ∃ k, k < i ∧ (gd (zipN S P) k).1 = X.doc))
            case atStart => exact ⟨0, false, rfl, rfl, rfl, Lib.hid (Below.refl _ _), Lib.hid ⟨(fun h => by cases h), (fun ⟨k, hk, _⟩ => absurd hk (Nat.not_lt_zero _))⟩⟩
            case round =>
              obtain ⟨i, b, rfl, rfl, hg, HBk, HBI⟩ := hrel
              have HG := Lib.hid hg
              have hi0 : (0 : Int) ≤ (i : Int) := by omega
              have hiI : (i : Int) ≤ (m : Int) := by omega
              by_cases hi : (i : Int) < (m : Int)
              · have him : i < m := by omega
                have HI := Lib.hid him
                obtain ⟨b3, o3, rfl⟩ := HA3.out.some_ (by omega)
                have HBd : Hid (Below w3.heap.size w3 wr.drew) := Lib.hid HBk.out.drew
                obtain ⟨N, hN⟩ : ∃ N, N = gd (zipN S P) i := ⟨_, rfl⟩
                have HNE := Lib.hid hN
                have HNC : Hid (N.1.c.length = 32) := Lib.hid (hN ▸ HA3.out.ok him)
                have HNR : Hid (wr.drew.rangeAt b3 (o3 + i * 35) (keyL N.1)) := Lib.hid (hN ▸ nm_doc (HA3.out.below HBd.out) him)
                have HXD : Hid (wr.drew.rangeAt g3 34 (keyL X.doc)) := Lib.hid (blk_doc HX.out (HXB.out _ (HB3.out.trans (HBd.out.mono HB3.out.size))))
                clear hg hN him
                cases b
                · obtain ⟨q3, hq3⟩ : ∃ q3 : Bool, q3 = decide (keyF N.1 X.doc = 0) := ⟨_, rfl⟩
                  have HQ3 := Lib.hid hq3
                  clear hq3
                  go_wp2
                  refine wp_region_still_tail 11 (by kernel_rfl) (by kernel_rfl) ?_
                  simp only [List.take_succ_cons, List.take_zero, List.drop_succ_cons, List.drop_zero]
                  iterate 6 still_step
                  refine still_w (by rfl) (exec_loadKey _ rfl _ _ N.1 HNC.out rfl HNR.out) ?_
                  simp only [Act.put, List.setIfInBounds_toArray, List.set_cons_zero, List.set_cons_succ]
                  iterate 1 still_step
                  refine still_w (by rfl) (exec_loadKey _ rfl _ _ X.doc HXC.out.2 rfl HXD.out) ?_
                  simp only [Act.put, List.setIfInBounds_toArray, List.set_cons_zero, List.set_cons_succ]
                  refine still_w (by rfl) (exec_eqlKey _ _ _ rfl N.1 X.doc HNC.out HXC.out.2 rfl rfl q3 HQ3.out) ?_
                  simp only [Act.put, List.setIfInBounds_toArray, List.set_cons_zero, List.set_cons_succ]
                  iterate 1 still_step
                  with_reducible refine wpStill_nil ?_
                  change wpList _ _ _ _ _ wr.drew
                  generalize wr.drew = wd0 at HBd ⊢
                  go_wp2
                  go_roundg (m - (i + 1))
                  case measure => have := HG.out; have := HI.out; omega
                  case rel => exact ⟨i + 1, q3, by go_num, rfl, by have := HI.out; omega, HBd, Lib.hid (by
                    rw [HQ3.out, decide_eq_true_iff]
                    constructor
                    · intro e
                      exact ⟨i, by omega, by rw [← HNE.out]; exact keyF_eq e⟩
                    · rintro ⟨k, hk, e⟩
                      rcases Nat.lt_or_ge k i with h1 | h1
                      · exact absurd (HBI.out.2 ⟨k, h1, e⟩) (by simp)
                      · obtain rfl : k = i := by omega
                        rw [HNE.out, e]; exact keyF_self _)⟩
                · go_wp2
                  refine wp_region_still_tail 11 (by kernel_rfl) (by kernel_rfl) ?_
                  simp only [List.take_succ_cons, List.take_zero, List.drop_succ_cons, List.drop_zero]
                  iterate 2 still_step
                  with_reducible refine still_skip ?_ ?_
                  · kernel_rfl
                  simp only [Act.put, List.setIfInBounds_toArray, List.set_cons_zero, List.set_cons_succ]
                  with_reducible refine still_skip ?_ ?_
                  · kernel_rfl
                  simp only [Act.put, List.setIfInBounds_toArray, List.set_cons_zero, List.set_cons_succ]
                  with_reducible refine still_skip ?_ ?_
                  · kernel_rfl
                  simp only [Act.put, List.setIfInBounds_toArray, List.set_cons_zero, List.set_cons_succ]
                  with_reducible refine still_skip ?_ ?_
                  · kernel_rfl
                  simp only [Act.put, List.setIfInBounds_toArray, List.set_cons_zero, List.set_cons_succ]
                  with_reducible refine still_skip ?_ ?_
                  · kernel_rfl
                  simp only [Act.put, List.setIfInBounds_toArray, List.set_cons_zero, List.set_cons_succ]
                  with_reducible refine still_skip ?_ ?_
                  · kernel_rfl
                  simp only [Act.put, List.setIfInBounds_toArray, List.set_cons_zero, List.set_cons_succ]
                  with_reducible refine still_skip ?_ ?_
                  · kernel_rfl
                  simp only [Act.put, List.setIfInBounds_toArray, List.set_cons_zero, List.set_cons_succ]
                  with_reducible refine still_skip ?_ ?_
                  · kernel_rfl
                  simp only [Act.put, List.setIfInBounds_toArray, List.set_cons_zero, List.set_cons_succ]
                  iterate 1 still_step
                  with_reducible refine wpStill_nil ?_
                  change wpList _ _ _ _ _ wr.drew
                  generalize wr.drew = wd0 at HBd ⊢
                  go_wp2
                  go_roundg (m - (i + 1))
                  case measure => have := HG.out; have := HI.out; omega
                  case rel => exact ⟨i + 1, true, by go_num, rfl, by have := HI.out; omega, HBd, Lib.hid ⟨fun _ => by
                    obtain ⟨k, hk, e⟩ := HBI.out.1 (by trivial)
                    exact ⟨k, by omega, e⟩, fun _ => rfl⟩⟩
              · have him : m = i := by omega
                subst him
                have HBz : Hid (Below wt.heap.size wt wr) := Lib.hid (HB3.out.trans (HBk.out.mono HB3.out.size))
                have HNz := Lib.hid (HND3.out.below HBk.out)
                have hc7 : wr.cell? ⟨wl.heap.size, 69, none⟩ = some (.string p) := by rw [← HPE.out]; exact HNz.out.path
                have hcx : wr.cell? ⟨g3, 69, none⟩ = some (.string p) := by rw [← HPE.out]; exact blk_path HX.out (HXB.out _ HBz.out)
                have HXK : Hid (wr.rangeAt g3 0 (keyL X.key)) := Lib.hid (blk_key HX.out (HXB.out _ HBz.out))
                obtain ⟨ki, hki⟩ : ∃ ki : Int, (X.kind : Int) = ki := ⟨_, rfl⟩
                have hck : wr.cell? ⟨g3, 68, none⟩ = some (.int .u8 ki) := by rw [← hki]; exact blk_kind HX.out (HXB.out _ HBz.out)
                have hbk : b = true ↔ ki ≠ 5 := by
                  have h1 := zipN_mem HP.out X.doc
                  have h2 := shown_newest HRR.out HS.out HLAST.out
                  have h3 := HBI.out
                  rw [h3]
                  rw [HML.out] at h1
                  constructor
                  · rintro ⟨k, hk, e⟩
                    have := h2.1 (h1.1 ⟨k, hk, e⟩)
                    omega
                  · intro h5
                    obtain ⟨k, hk, e⟩ := h1.2 (h2.2 (by omega))
                    exact ⟨k, hk, e⟩
                have HEQ : Hid (true = decide (keyF X.key X.key = 0)) := Lib.hid (by rw [keyF_self]; rfl)
                clear hg hki
                by_cases h5 : ki = 5
                · subst h5
                  obtain rfl : b = false := by cases b <;> simp_all
                  clear hbk
                  go_wp2_with (first
                    | ((with_reducible show wpList _ _ _ (⟨some 76, _, _, _, _, _⟩ :: _) _ _); go_must (refine wl_ex rfl (exec_loadKey _ rfl _ _ X.key HXC.out.1 rfl HNz.out.key) ?_))
                    | ((with_reducible show wpList _ _ _ (⟨some 78, _, _, _, _, _⟩ :: _) _ _); go_must (refine wl_ex rfl (exec_loadKey _ rfl _ _ X.key HXC.out.1 rfl HXK.out) ?_))
                    | ((with_reducible show wpList _ _ _ (⟨some 79, _, _, _, _, _⟩ :: _) _ _); go_must (refine wl_ex rfl (exec_eqlKey _ _ _ rfl X.key X.key HXC.out.1 HXC.out.1 rfl rfl true HEQ.out) ?_))
                    | (go_at_call 12; go_must (refine (AW.out _ (HBW'.out _ HBz.out)).mono ?_); rintro e w9 ⟨rfl, hb9⟩))
                  go_ret
                  exact ⟨rfl, (HBW'.out _ HBz.out).trans (hb9.mono (HBW'.out _ HBz.out).size)⟩
                · have h5b : (ki == 5) = false := by simpa using h5
                  have h5n : (ki != 5) = true := by simpa using h5
                  obtain rfl : b = true := by cases b <;> simp_all
                  clear hbk
                  go_wp2_with (first
                    | ((with_reducible show wpList _ _ _ (⟨some 76, _, _, _, _, _⟩ :: _) _ _); go_must (refine wl_ex rfl (exec_loadKey _ rfl _ _ X.key HXC.out.1 rfl HNz.out.key) ?_))
                    | ((with_reducible show wpList _ _ _ (⟨some 78, _, _, _, _, _⟩ :: _) _ _); go_must (refine wl_ex rfl (exec_loadKey _ rfl _ _ X.key HXC.out.1 rfl HXK.out) ?_))
                    | ((with_reducible show wpList _ _ _ (⟨some 79, _, _, _, _, _⟩ :: _) _ _); go_must (refine wl_ex rfl (exec_eqlKey _ _ _ rfl X.key X.key HXC.out.1 HXC.out.1 rfl rfl true HEQ.out) ?_))
                    | (go_at_call 12; go_must (refine (AW.out _ (HBW'.out _ HBz.out)).mono ?_); rintro e w9 ⟨rfl, hb9⟩))
                  go_ret
                  exact ⟨rfl, (HBW'.out _ HBz.out).trans (hb9.mono (HBW'.out _ HBz.out).size)⟩
        · refine ready_step (wp_sl_claim14 _ rfl X HXC.out rfl ?_)
          simp only [Act.put, List.setIfInBounds_toArray, List.set_cons_zero, List.set_cons_succ]
          have HA1 := Lib.hid (BlkAt.new (w8.drew.alloc (.cells #[] E14)) E14 (claimC X))
          have HX2 := Lib.hid (HX1.out.alloc HX1.out.size (.cells (claimC X) E14))
          have HS1 := Lib.hid (size_alloc_le (w8.drew.alloc (.cells #[] E14)) (.cells (claimC X) E14))
          refine hK.out _ _ HX2.out (fun hHeld => ?_)
          clear hK K
          refine wpAnyH_ready (rs := [2]) (by kernel_rfl) (by simp) ?_
          refine AllReadyH.cons (o := ⟨some 38, .call { callee := .builtin .append, args := #[.tmp 36, .tmp 37], argTypes := #[22, 22] }, _, _, _, _⟩) rfl (fun K hK => ?_) AllReadyH.nil
          refine ready_step (wp_appG clK Tryd.underlying22 info14 sizeZ _ _ rfl w8.drew.heap.size _ [] rfl (HO0.out.alloc _) a n c L rfl (HN8.out.below HX2.out) H481.out HX2.out.size n (by simp) ?_)
          intro a2 c2 W2 ho2 hg2
          rw [List.nil_append] at ho2
          have HO2 := Lib.hid ho2
          have HGR2 := Lib.hid hg2
          have HX3 := Lib.hid (HX2.out.grown hg2 HX2.out.size (fun q hq => by cases hq; exact HG0.out))
          clear ho2 hg2
          simp only [Act.put, List.setIfInBounds_toArray, List.set_cons_zero, List.set_cons_succ]
          refine hK.out _ _ HX3.out (fun hHeld => ?_)
          clear hK K
          refine wpAnyH_ready (rs := [5]) (by kernel_rfl) (by simp) ?_
          refine AllReadyH.cons (o := ⟨some 41, .call { callee := .builtin .append, args := #[.tmp 38, .tmp 40], argTypes := #[22, 22] }, _, _, _, _⟩) rfl (fun K hK => ?_) AllReadyH.nil
          refine ready_step (wp_appG clK Tryd.underlying22 info14 sizeZ _ _ rfl w8.drew.heap.size _ L rfl HO2.out _ 1 1 [X] rfl (blk_atG HX.out (HA1.out.kept HGR2.out (ne_push _ _))) H482.out HX3.out.size (n + 1) (by rw [HL.out]) ?_)
          intro a5 c5 W5 ho5 hg5
          have HA5 := Lib.hid ho5.atG
          have HX4 := Lib.hid (HX3.out.grown hg5 HX3.out.size (fun q hq => Nat.le_trans HG0.out (HO2.out.lt q hq).1))
          clear ho5 hg5
          simp only [Act.put, List.setIfInBounds_toArray, List.set_cons_zero, List.set_cons_succ]
          refine hK.out _ _ HX4.out (fun hHeld => ?_)
          clear hK K
          refine wpAnyH_ready (rs := [6]) (by kernel_rfl) (by simp) ?_
          refine AllReadyH.cons (o := ⟨some 42, .call { callee := .value (.func 8), args := #[.tmp 41], argTypes := #[22] }, _, _, _, _⟩) rfl (fun K hK => ?_) AllReadyH.nil
          go_simp
          go_wp2_with (go_at_call 8; go_must (refine (told_any _ _ _ (L ++ [X]) _ HA5.out HN1.out).mono ?_); rintro e wt ⟨am, cm, rfl, hom, hbm⟩; rw [List.length_append, HL.out] at hom ⊢; have HAM := Lib.hid hom.atG; have HBM := Lib.hid (HX4.out.trans (hbm.mono HX4.out.size)); clear hom hbm)
          refine hK.out _ _ HBM.out (fun hHeld => ?_)
          clear hK K
          refine wpAnyH_take (i := 7) (oi := ⟨some 6, .assign (.tmp 42), _, _, _, _⟩) (v := (.slice am (n + 1) cm)) rfl (by kernel_rfl) (by kernel_rfl) (by kernel_rfl) (fun _ _ _ h => h) (Or.inl ⟨by rfl, fun W hW => by go_simp⟩) (by assumption) ?_
          simp only [Act.put, List.setIfInBounds_toArray, List.set_cons_zero, List.set_cons_succ]
          refine wpAnyH_done (by kernel_rfl) ?_ _
          have HBT : Hid (Below w.heap.size w wt) := Lib.hid (HBW.out.trans (HBM.out.mono HBW.out.size))
          have HXB : Hid (∀ W, Below wt.heap.size wt W → BlkAt E14 W g3 (claimC X).toList) := Lib.hid (fun W hW => ((HBX.out.below HB.out).below HBM.out).below hW)
          have HBW' : Hid (∀ W, Below wt.heap.size wt W → Below w.heap.size w W) := Lib.hid (fun W hW => HBT.out.trans (hW.mono HBT.out.size))
          obtain ⟨q2, hq2⟩ : ∃ q2 : Bool, q2 = true ↔ RightR (L ++ [X]) := ⟨(by classical exact decide (RightR (L ++ [X]))), by classical exact decide_eq_true_iff⟩
          have HRI := Lib.hid (right_is am (n + 1) cm (L ++ [X]) wt HAM.out HN1.out HLL.out (HT.out.below HBT.out) q2 hq2)
          cases q2
          · clear hq2
            go_wp2_with (first
              | (go_at_call 13; go_must (refine HRI.out.mono ?_); rintro e wr1 ⟨rfl, hbr⟩; have HBR := Lib.hid (HBW'.out _ hbr); clear hbr)
              | (go_at_call 12; go_must (refine (AW.out _ HBR.out).mono ?_); rintro e w9 ⟨rfl, hb9⟩))
            go_ret
            exact ⟨rfl, HBR.out.trans (hb9.mono HBR.out.size)⟩
          · have HRR : Hid (RightR (L ++ [X])) := Lib.hid (hq2.1 rfl)
            clear hq2
            have HLS : Hid (IsLast (L ++ [X]) X) := Lib.hid (last_newest HLAST.out)
            go_wp2_with (first
              | (go_at_call 13; go_must (refine HRI.out.mono ?_); rintro e wr1 ⟨rfl, hbr⟩; have HBR := Lib.hid hbr; clear hbr)
              | ((with_reducible show wpList _ _ _ (⟨some 50, _, _, _, _, _⟩ :: _) _ _); go_must (refine wl_ex rfl (exec_loadKey _ rfl _ _ X.doc HXC.out.2 rfl (blk_doc HX.out (HXB.out _ HBR.out))) ?_))
              | (go_at_call 14; go_must (refine (last_any am (n + 1) cm (L ++ [X]) X X.doc _ (HAM.out.below HBR.out) HN1.out HLL.out (HT.out.below (HBW'.out _ HBR.out)) HRR.out HLS.out rfl).mono ?_); rintro e wl ⟨rfl, hbl⟩; have HBL := Lib.hid (HBR.out.trans (hbl.mono HBR.out.size)); clear hbl)
              | ((with_reducible show wpList _ _ _ (⟨_, Op.store _ (.tmp 7) _, _, _, _, _⟩ :: _) _ _); go_must (refine store_claim rfl rfl _ _ rfl X HXC.out rfl rfl ?_); intro W7 hnd hb7 hs7; have HND := Lib.hid hnd; have HB7 := Lib.hid (HBL.out.trans (hb7.mono HBL.out.size)); clear hnd hb7 hs7)
              | (go_at_call 7; go_must (refine (paths_any am (n + 1) cm (L ++ [X]) _ (HAM.out.below HB7.out) HN60.out HLL.out (HT.out.below (HBW'.out _ HB7.out))).mono ?_); rintro e w3 ⟨S, P, a3, c3, rfl, hsh, hpp, hat, hb3⟩; have HS := Lib.hid hsh; have HP := Lib.hid hpp; have HA3 := Lib.hid hat; have HND3 := Lib.hid (HND.out.below hb3); have HB3 := Lib.hid (HB7.out.trans (hb3.mono HB7.out.size)); clear hsh hpp hat hb3))
            obtain ⟨m, hm⟩ : ∃ m, S.length = m := ⟨_, rfl⟩
            rw [hm] at HA3 ⊢
            have HML := Lib.hid hm
            have hmI : (m : Int) ≤ 60 := by
              have h1 := HS.out.length
              rw [List.length_append, HL.out, hm] at h1
              simp only [List.length_singleton] at h1
              have := HN60.out
              omega
            clear hm HRI
            go_loopg [10, 11] m (fun g v10 v11 W => ∃ (i : Nat) (b : Bool), v11 = .int .i64 i ∧ v10 = .bool b ∧ g + i = m ∧ Hid (Below w3.heap.size w3 W) ∧ Hid (b = true ↔ ∃ k, k < i ∧ (gd (zipN S P) k).1 = X.doc))
            case atStart => exact ⟨0, false, rfl, rfl, rfl, Lib.hid (Below.refl _ _), Lib.hid ⟨(fun h => by cases h), (fun ⟨k, hk, _⟩ => absurd hk (Nat.not_lt_zero _))⟩⟩
            case round =>
              obtain ⟨i, b, rfl, rfl, hg, HBk, HBI⟩ := hrel
              have HG := Lib.hid hg
              have hi0 : (0 : Int) ≤ (i : Int) := by omega
              have hiI : (i : Int) ≤ (m : Int) := by omega
              by_cases hi : (i : Int) < (m : Int)
              · have him : i < m := by omega
                have HI := Lib.hid him
                obtain ⟨b3, o3, rfl⟩ := HA3.out.some_ (by omega)
                have HBd : Hid (Below w3.heap.size w3 wr.drew) := Lib.hid HBk.out.drew
                obtain ⟨N, hN⟩ : ∃ N, N = gd (zipN S P) i := ⟨_, rfl⟩
                have HNE := Lib.hid hN
                have HNC : Hid (N.1.c.length = 32) := Lib.hid (hN ▸ HA3.out.ok him)
                have HNR : Hid (wr.drew.rangeAt b3 (o3 + i * 35) (keyL N.1)) := Lib.hid (hN ▸ nm_doc (HA3.out.below HBd.out) him)
                have HXD : Hid (wr.drew.rangeAt g3 34 (keyL X.doc)) := Lib.hid (blk_doc HX.out (HXB.out _ (HB3.out.trans (HBd.out.mono HB3.out.size))))
                clear hg hN him
                cases b
                · obtain ⟨q3, hq3⟩ : ∃ q3 : Bool, q3 = decide (keyF N.1 X.doc = 0) := ⟨_, rfl⟩
                  have HQ3 := Lib.hid hq3
                  clear hq3
                  go_wp2
                  refine wp_region_still_tail 11 (by kernel_rfl) (by kernel_rfl) ?_
                  simp only [List.take_succ_cons, List.take_zero, List.drop_succ_cons, List.drop_zero]
                  iterate 6 still_step
                  refine still_w (by rfl) (exec_loadKey _ rfl _ _ N.1 HNC.out rfl HNR.out) ?_
                  simp only [Act.put, List.setIfInBounds_toArray, List.set_cons_zero, List.set_cons_succ]
                  iterate 1 still_step
                  refine still_w (by rfl) (exec_loadKey _ rfl _ _ X.doc HXC.out.2 rfl HXD.out) ?_
                  simp only [Act.put, List.setIfInBounds_toArray, List.set_cons_zero, List.set_cons_succ]
                  refine still_w (by rfl) (exec_eqlKey _ _ _ rfl N.1 X.doc HNC.out HXC.out.2 rfl rfl q3 HQ3.out) ?_
                  simp only [Act.put, List.setIfInBounds_toArray, List.set_cons_zero, List.set_cons_succ]
                  iterate 1 still_step
                  with_reducible refine wpStill_nil ?_
                  change wpList _ _ _ _ _ wr.drew
                  generalize wr.drew = wd0 at HBd ⊢
                  go_wp2
                  go_roundg (m - (i + 1))
                  case measure => have := HG.out; have := HI.out; omega
                  case rel => exact ⟨i + 1, q3, by go_num, rfl, by have := HI.out; omega, HBd, Lib.hid (by
                    rw [HQ3.out, decide_eq_true_iff]
                    constructor
                    · intro e
                      exact ⟨i, by omega, by rw [← HNE.out]; exact keyF_eq e⟩
                    · rintro ⟨k, hk, e⟩
                      rcases Nat.lt_or_ge k i with h1 | h1
                      · exact absurd (HBI.out.2 ⟨k, h1, e⟩) (by simp)
                      · obtain rfl : k = i := by omega
                        rw [HNE.out, e]; exact keyF_self _)⟩
                · go_wp2
                  refine wp_region_still_tail 11 (by kernel_rfl) (by kernel_rfl) ?_
                  simp only [List.take_succ_cons, List.take_zero, List.drop_succ_cons, List.drop_zero]
                  iterate 2 still_step
                  with_reducible refine still_skip ?_ ?_
                  · kernel_rfl
                  simp only [Act.put, List.setIfInBounds_toArray, List.set_cons_zero, List.set_cons_succ]
                  with_reducible refine still_skip ?_ ?_
                  · kernel_rfl
                  simp only [Act.put, List.setIfInBounds_toArray, List.set_cons_zero, List.set_cons_succ]
                  with_reducible refine still_skip ?_ ?_
                  · kernel_rfl
                  simp only [Act.put, List.setIfInBounds_toArray, List.set_cons_zero, List.set_cons_succ]
                  with_reducible refine still_skip ?_ ?_
                  · kernel_rfl
                  simp only [Act.put, List.setIfInBounds_toArray, List.set_cons_zero, List.set_cons_succ]
                  with_reducible refine still_skip ?_ ?_
                  · kernel_rfl
                  simp only [Act.put, List.setIfInBounds_toArray, List.set_cons_zero, List.set_cons_succ]
                  with_reducible refine still_skip ?_ ?_
                  · kernel_rfl
                  simp only [Act.put, List.setIfInBounds_toArray, List.set_cons_zero, List.set_cons_succ]
                  with_reducible refine still_skip ?_ ?_
                  · kernel_rfl
                  simp only [Act.put, List.setIfInBounds_toArray, List.set_cons_zero, List.set_cons_succ]
                  with_reducible refine still_skip ?_ ?_
                  · kernel_rfl
                  simp only [Act.put, List.setIfInBounds_toArray, List.set_cons_zero, List.set_cons_succ]
                  iterate 1 still_step
                  with_reducible refine wpStill_nil ?_
                  change wpList _ _ _ _ _ wr.drew
                  generalize wr.drew = wd0 at HBd ⊢
                  go_wp2
                  go_roundg (m - (i + 1))
                  case measure => have := HG.out; have := HI.out; omega
                  case rel => exact ⟨i + 1, true, by go_num, rfl, by have := HI.out; omega, HBd, Lib.hid ⟨fun _ => by
                    obtain ⟨k, hk, e⟩ := HBI.out.1 (by trivial)
                    exact ⟨k, by omega, e⟩, fun _ => rfl⟩⟩
              · have him : m = i := by omega
                subst him
                have HBz : Hid (Below wt.heap.size wt wr) := Lib.hid (HB3.out.trans (HBk.out.mono HB3.out.size))
                have HNz := Lib.hid (HND3.out.below HBk.out)
                have hc7 : wr.cell? ⟨wl.heap.size, 69, none⟩ = some (.string p) := by rw [← HPE.out]; exact HNz.out.path
                have hcx : wr.cell? ⟨g3, 69, none⟩ = some (.string p) := by rw [← HPE.out]; exact blk_path HX.out (HXB.out _ HBz.out)
                have HXK : Hid (wr.rangeAt g3 0 (keyL X.key)) := Lib.hid (blk_key HX.out (HXB.out _ HBz.out))
                obtain ⟨ki, hki⟩ : ∃ ki : Int, (X.kind : Int) = ki := ⟨_, rfl⟩
                have hck : wr.cell? ⟨g3, 68, none⟩ = some (.int .u8 ki) := by rw [← hki]; exact blk_kind HX.out (HXB.out _ HBz.out)
                have hbk : b = true ↔ ki ≠ 5 := by
                  have h1 := zipN_mem HP.out X.doc
                  have h2 := shown_newest HRR.out HS.out HLAST.out
                  have h3 := HBI.out
                  rw [h3]
                  rw [HML.out] at h1
                  constructor
                  · rintro ⟨k, hk, e⟩
                    have := h2.1 (h1.1 ⟨k, hk, e⟩)
                    omega
                  · intro h5
                    obtain ⟨k, hk, e⟩ := h1.2 (h2.2 (by omega))
                    exact ⟨k, hk, e⟩
                have HEQ : Hid (true = decide (keyF X.key X.key = 0)) := Lib.hid (by rw [keyF_self]; rfl)
                clear hg hki
                by_cases h5 : ki = 5
                · subst h5
                  obtain rfl : b = false := by cases b <;> simp_all
                  clear hbk
                  go_wp2_with (first
                    | ((with_reducible show wpList _ _ _ (⟨some 76, _, _, _, _, _⟩ :: _) _ _); go_must (refine wl_ex rfl (exec_loadKey _ rfl _ _ X.key HXC.out.1 rfl HNz.out.key) ?_))
                    | ((with_reducible show wpList _ _ _ (⟨some 78, _, _, _, _, _⟩ :: _) _ _); go_must (refine wl_ex rfl (exec_loadKey _ rfl _ _ X.key HXC.out.1 rfl HXK.out) ?_))
                    | ((with_reducible show wpList _ _ _ (⟨some 79, _, _, _, _, _⟩ :: _) _ _); go_must (refine wl_ex rfl (exec_eqlKey _ _ _ rfl X.key X.key HXC.out.1 HXC.out.1 rfl rfl true HEQ.out) ?_))
                    | (go_at_call 12; go_must (refine (AW.out _ (HBW'.out _ HBz.out)).mono ?_); rintro e w9 ⟨rfl, hb9⟩))
                  go_ret
                  exact ⟨rfl, (HBW'.out _ HBz.out).trans (hb9.mono (HBW'.out _ HBz.out).size)⟩
                · have h5b : (ki == 5) = false := by simpa using h5
                  have h5n : (ki != 5) = true := by simpa using h5
                  obtain rfl : b = true := by cases b <;> simp_all
                  clear hbk
                  go_wp2_with (first
                    | ((with_reducible show wpList _ _ _ (⟨some 76, _, _, _, _, _⟩ :: _) _ _); go_must (refine wl_ex rfl (exec_loadKey _ rfl _ _ X.key HXC.out.1 rfl HNz.out.key) ?_))
                    | ((with_reducible show wpList _ _ _ (⟨some 78, _, _, _, _, _⟩ :: _) _ _); go_must (refine wl_ex rfl (exec_loadKey _ rfl _ _ X.key HXC.out.1 rfl HXK.out) ?_))
                    | ((with_reducible show wpList _ _ _ (⟨some 79, _, _, _, _, _⟩ :: _) _ _); go_must (refine wl_ex rfl (exec_eqlKey _ _ _ rfl X.key X.key HXC.out.1 HXC.out.1 rfl rfl true HEQ.out) ?_))
                    | (go_at_call 12; go_must (refine (AW.out _ (HBW'.out _ HBz.out)).mono ?_); rintro e w9 ⟨rfl, hb9⟩))
                  go_ret
                  exact ⟨rfl, (HBW'.out _ HBz.out).trans (hb9.mono (HBW'.out _ HBz.out).size)⟩
      · refine ready_step (wp_sl_claim14 _ rfl X HXC.out rfl ?_)
        simp only [Act.put, List.setIfInBounds_toArray, List.set_cons_zero, List.set_cons_succ]
        have HA1 := Lib.hid (BlkAt.new w8.drew E14 (claimC X))
        have HX1 := Lib.hid (HBd.out.alloc HBd.out.size (.cells (claimC X) E14))
        have HS1 := Lib.hid (size_alloc_le w8.drew (.cells (claimC X) E14))
        refine hK.out _ _ HX1.out (fun hHeld => ?_)
        clear hK K
        refine wpAnyH_ready (rs := [0]) (by kernel_rfl) (by simp) ?_
        refine AllReadyH.cons (o := ⟨some 36, .buildSlice 22 0 #[], _, _, _, _⟩) rfl (fun K hK => ?_) AllReadyH.nil
        refine ready_step (wp_none14 rfl ?_)
        simp only [Act.put, List.setIfInBounds_toArray, List.set_cons_zero, List.set_cons_succ]
        have HO0 := Lib.hid (OwnG.lit (K := clK) (E := E14) (w := (w8.drew.alloc (.cells (claimC X) E14))) (L := []) rfl #[] rfl)
        have HX2 := Lib.hid (HX1.out.alloc HX1.out.size (.cells #[] E14))
        have HG0 := Lib.hid (HX1.out.size)
        have HS0 := Lib.hid (size_alloc_le (w8.drew.alloc (.cells (claimC X) E14)) (.cells #[] E14))
        refine hK.out _ _ HX2.out (fun hHeld => ?_)
        clear hK K
        refine wpAnyH_ready (rs := [2]) (by kernel_rfl) (by simp) ?_
        refine AllReadyH.cons (o := ⟨some 38, .call { callee := .builtin .append, args := #[.tmp 36, .tmp 37], argTypes := #[22, 22] }, _, _, _, _⟩) rfl (fun K hK => ?_) AllReadyH.nil
        refine ready_step (wp_appG clK Tryd.underlying22 info14 sizeZ _ _ rfl (w8.drew.alloc (.cells (claimC X) E14)).heap.size _ [] rfl HO0.out a n c L rfl (HN8.out.below HX2.out) H481.out HS0.out n (by simp) ?_)
        intro a2 c2 W2 ho2 hg2
        rw [List.nil_append] at ho2
        have HO2 := Lib.hid ho2
        have HGR2 := Lib.hid hg2
        have HX3 := Lib.hid (HX2.out.grown hg2 HX2.out.size (fun q hq => by cases hq; exact HG0.out))
        clear ho2 hg2
        simp only [Act.put, List.setIfInBounds_toArray, List.set_cons_zero, List.set_cons_succ]
        refine hK.out _ _ HX3.out (fun hHeld => ?_)
        clear hK K
        refine wpAnyH_ready (rs := [5]) (by kernel_rfl) (by simp) ?_
        refine AllReadyH.cons (o := ⟨some 41, .call { callee := .builtin .append, args := #[.tmp 38, .tmp 40], argTypes := #[22, 22] }, _, _, _, _⟩) rfl (fun K hK => ?_) AllReadyH.nil
        refine ready_step (wp_appG clK Tryd.underlying22 info14 sizeZ _ _ rfl (w8.drew.alloc (.cells (claimC X) E14)).heap.size _ L rfl HO2.out _ 1 1 [X] rfl (blk_atG HX.out ((HA1.out.below ((Below.refl _ _).alloc (Nat.le_refl _) _)).kept HGR2.out (ne_push' _ _))) H482.out (Nat.le_trans HS0.out (HGR2.out.size)) (n + 1) (by rw [HL.out]) ?_)
        intro a5 c5 W5 ho5 hg5
        have HA5 := Lib.hid ho5.atG
        have HX4 := Lib.hid (HX3.out.grown hg5 HX3.out.size (fun q hq => Nat.le_trans HG0.out (HO2.out.lt q hq).1))
        clear ho5 hg5
        simp only [Act.put, List.setIfInBounds_toArray, List.set_cons_zero, List.set_cons_succ]
        refine hK.out _ _ HX4.out (fun hHeld => ?_)
        clear hK K
        refine wpAnyH_ready (rs := [6]) (by kernel_rfl) (by simp) ?_
        refine AllReadyH.cons (o := ⟨some 42, .call { callee := .value (.func 8), args := #[.tmp 41], argTypes := #[22] }, _, _, _, _⟩) rfl (fun K hK => ?_) AllReadyH.nil
        go_simp
        go_wp2_with (go_at_call 8; go_must (refine (told_any _ _ _ (L ++ [X]) _ HA5.out HN1.out).mono ?_); rintro e wt ⟨am, cm, rfl, hom, hbm⟩; rw [List.length_append, HL.out] at hom ⊢; have HAM := Lib.hid hom.atG; have HBM := Lib.hid (HX4.out.trans (hbm.mono HX4.out.size)); clear hom hbm)
        refine hK.out _ _ HBM.out (fun hHeld => ?_)
        clear hK K
        refine wpAnyH_take (i := 7) (oi := ⟨some 6, .assign (.tmp 42), _, _, _, _⟩) (v := (.slice am (n + 1) cm)) rfl (by kernel_rfl) (by kernel_rfl) (by kernel_rfl) (fun _ _ _ h => h) (Or.inl ⟨by rfl, fun W hW => by go_simp⟩) (by assumption) ?_
        simp only [Act.put, List.setIfInBounds_toArray, List.set_cons_zero, List.set_cons_succ]
        refine wpAnyH_done (by kernel_rfl) ?_ _
        have HBT : Hid (Below w.heap.size w wt) := Lib.hid (HBW.out.trans (HBM.out.mono HBW.out.size))
        have HXB : Hid (∀ W, Below wt.heap.size wt W → BlkAt E14 W g3 (claimC X).toList) := Lib.hid (fun W hW => ((HBX.out.below HB.out).below HBM.out).below hW)
        have HBW' : Hid (∀ W, Below wt.heap.size wt W → Below w.heap.size w W) := Lib.hid (fun W hW => HBT.out.trans (hW.mono HBT.out.size))
        obtain ⟨q2, hq2⟩ : ∃ q2 : Bool, q2 = true ↔ RightR (L ++ [X]) := ⟨(by classical exact decide (RightR (L ++ [X]))), by classical exact decide_eq_true_iff⟩
        have HRI := Lib.hid (right_is am (n + 1) cm (L ++ [X]) wt HAM.out HN1.out HLL.out (HT.out.below HBT.out) q2 hq2)
        cases q2
        · clear hq2
          go_wp2_with (first
            | (go_at_call 13; go_must (refine HRI.out.mono ?_); rintro e wr1 ⟨rfl, hbr⟩; have HBR := Lib.hid (HBW'.out _ hbr); clear hbr)
            | (go_at_call 12; go_must (refine (AW.out _ HBR.out).mono ?_); rintro e w9 ⟨rfl, hb9⟩))
          go_ret
          exact ⟨rfl, HBR.out.trans (hb9.mono HBR.out.size)⟩
        · have HRR : Hid (RightR (L ++ [X])) := Lib.hid (hq2.1 rfl)
          clear hq2
          have HLS : Hid (IsLast (L ++ [X]) X) := Lib.hid (last_newest HLAST.out)
          go_wp2_with (first
            | (go_at_call 13; go_must (refine HRI.out.mono ?_); rintro e wr1 ⟨rfl, hbr⟩; have HBR := Lib.hid hbr; clear hbr)
            | ((with_reducible show wpList _ _ _ (⟨some 50, _, _, _, _, _⟩ :: _) _ _); go_must (refine wl_ex rfl (exec_loadKey _ rfl _ _ X.doc HXC.out.2 rfl (blk_doc HX.out (HXB.out _ HBR.out))) ?_))
            | (go_at_call 14; go_must (refine (last_any am (n + 1) cm (L ++ [X]) X X.doc _ (HAM.out.below HBR.out) HN1.out HLL.out (HT.out.below (HBW'.out _ HBR.out)) HRR.out HLS.out rfl).mono ?_); rintro e wl ⟨rfl, hbl⟩; have HBL := Lib.hid (HBR.out.trans (hbl.mono HBR.out.size)); clear hbl)
            | ((with_reducible show wpList _ _ _ (⟨_, Op.store _ (.tmp 7) _, _, _, _, _⟩ :: _) _ _); go_must (refine store_claim rfl rfl _ _ rfl X HXC.out rfl rfl ?_); intro W7 hnd hb7 hs7; have HND := Lib.hid hnd; have HB7 := Lib.hid (HBL.out.trans (hb7.mono HBL.out.size)); clear hnd hb7 hs7)
            | (go_at_call 7; go_must (refine (paths_any am (n + 1) cm (L ++ [X]) _ (HAM.out.below HB7.out) HN60.out HLL.out (HT.out.below (HBW'.out _ HB7.out))).mono ?_); rintro e w3 ⟨S, P, a3, c3, rfl, hsh, hpp, hat, hb3⟩; have HS := Lib.hid hsh; have HP := Lib.hid hpp; have HA3 := Lib.hid hat; have HND3 := Lib.hid (HND.out.below hb3); have HB3 := Lib.hid (HB7.out.trans (hb3.mono HB7.out.size)); clear hsh hpp hat hb3))
          obtain ⟨m, hm⟩ : ∃ m, S.length = m := ⟨_, rfl⟩
          rw [hm] at HA3 ⊢
          have HML := Lib.hid hm
          have hmI : (m : Int) ≤ 60 := by
            have h1 := HS.out.length
            rw [List.length_append, HL.out, hm] at h1
            simp only [List.length_singleton] at h1
            have := HN60.out
            omega
          clear hm HRI
          go_loopg [10, 11] m (fun g v10 v11 W => ∃ (i : Nat) (b : Bool), v11 = .int .i64 i ∧ v10 = .bool b ∧ g + i = m ∧ Hid (Below w3.heap.size w3 W) ∧ Hid (b = true ↔ ∃ k, k < i ∧ (gd (zipN S P) k).1 = X.doc))
          case atStart => exact ⟨0, false, rfl, rfl, rfl, Lib.hid (Below.refl _ _), Lib.hid ⟨(fun h => by cases h), (fun ⟨k, hk, _⟩ => absurd hk (Nat.not_lt_zero _))⟩⟩
          case round =>
            obtain ⟨i, b, rfl, rfl, hg, HBk, HBI⟩ := hrel
            have HG := Lib.hid hg
            have hi0 : (0 : Int) ≤ (i : Int) := by omega
            have hiI : (i : Int) ≤ (m : Int) := by omega
            by_cases hi : (i : Int) < (m : Int)
            · have him : i < m := by omega
              have HI := Lib.hid him
              obtain ⟨b3, o3, rfl⟩ := HA3.out.some_ (by omega)
              have HBd : Hid (Below w3.heap.size w3 wr.drew) := Lib.hid HBk.out.drew
              obtain ⟨N, hN⟩ : ∃ N, N = gd (zipN S P) i := ⟨_, rfl⟩
              have HNE := Lib.hid hN
              have HNC : Hid (N.1.c.length = 32) := Lib.hid (hN ▸ HA3.out.ok him)
              have HNR : Hid (wr.drew.rangeAt b3 (o3 + i * 35) (keyL N.1)) := Lib.hid (hN ▸ nm_doc (HA3.out.below HBd.out) him)
              have HXD : Hid (wr.drew.rangeAt g3 34 (keyL X.doc)) := Lib.hid (blk_doc HX.out (HXB.out _ (HB3.out.trans (HBd.out.mono HB3.out.size))))
              clear hg hN him
              cases b
              · obtain ⟨q3, hq3⟩ : ∃ q3 : Bool, q3 = decide (keyF N.1 X.doc = 0) := ⟨_, rfl⟩
                have HQ3 := Lib.hid hq3
                clear hq3
                go_wp2
                refine wp_region_still_tail 11 (by kernel_rfl) (by kernel_rfl) ?_
                simp only [List.take_succ_cons, List.take_zero, List.drop_succ_cons, List.drop_zero]
                iterate 6 still_step
                refine still_w (by rfl) (exec_loadKey _ rfl _ _ N.1 HNC.out rfl HNR.out) ?_
                simp only [Act.put, List.setIfInBounds_toArray, List.set_cons_zero, List.set_cons_succ]
                iterate 1 still_step
                refine still_w (by rfl) (exec_loadKey _ rfl _ _ X.doc HXC.out.2 rfl HXD.out) ?_
                simp only [Act.put, List.setIfInBounds_toArray, List.set_cons_zero, List.set_cons_succ]
                refine still_w (by rfl) (exec_eqlKey _ _ _ rfl N.1 X.doc HNC.out HXC.out.2 rfl rfl q3 HQ3.out) ?_
                simp only [Act.put, List.setIfInBounds_toArray, List.set_cons_zero, List.set_cons_succ]
                iterate 1 still_step
                with_reducible refine wpStill_nil ?_
                change wpList _ _ _ _ _ wr.drew
                generalize wr.drew = wd0 at HBd ⊢
                go_wp2
                go_roundg (m - (i + 1))
                case measure => have := HG.out; have := HI.out; omega
                case rel => exact ⟨i + 1, q3, by go_num, rfl, by have := HI.out; omega, HBd, Lib.hid (by
                  rw [HQ3.out, decide_eq_true_iff]
                  constructor
                  · intro e
                    exact ⟨i, by omega, by rw [← HNE.out]; exact keyF_eq e⟩
                  · rintro ⟨k, hk, e⟩
                    rcases Nat.lt_or_ge k i with h1 | h1
                    · exact absurd (HBI.out.2 ⟨k, h1, e⟩) (by simp)
                    · obtain rfl : k = i := by omega
                      rw [HNE.out, e]; exact keyF_self _)⟩
              · go_wp2
                refine wp_region_still_tail 11 (by kernel_rfl) (by kernel_rfl) ?_
                simp only [List.take_succ_cons, List.take_zero, List.drop_succ_cons, List.drop_zero]
                iterate 2 still_step
                with_reducible refine still_skip ?_ ?_
                · kernel_rfl
                simp only [Act.put, List.setIfInBounds_toArray, List.set_cons_zero, List.set_cons_succ]
                with_reducible refine still_skip ?_ ?_
                · kernel_rfl
                simp only [Act.put, List.setIfInBounds_toArray, List.set_cons_zero, List.set_cons_succ]
                with_reducible refine still_skip ?_ ?_
                · kernel_rfl
                simp only [Act.put, List.setIfInBounds_toArray, List.set_cons_zero, List.set_cons_succ]
                with_reducible refine still_skip ?_ ?_
                · kernel_rfl
                simp only [Act.put, List.setIfInBounds_toArray, List.set_cons_zero, List.set_cons_succ]
                with_reducible refine still_skip ?_ ?_
                · kernel_rfl
                simp only [Act.put, List.setIfInBounds_toArray, List.set_cons_zero, List.set_cons_succ]
                with_reducible refine still_skip ?_ ?_
                · kernel_rfl
                simp only [Act.put, List.setIfInBounds_toArray, List.set_cons_zero, List.set_cons_succ]
                with_reducible refine still_skip ?_ ?_
                · kernel_rfl
                simp only [Act.put, List.setIfInBounds_toArray, List.set_cons_zero, List.set_cons_succ]
                with_reducible refine still_skip ?_ ?_
                · kernel_rfl
                simp only [Act.put, List.setIfInBounds_toArray, List.set_cons_zero, List.set_cons_succ]
                iterate 1 still_step
                with_reducible refine wpStill_nil ?_
                change wpList _ _ _ _ _ wr.drew
                generalize wr.drew = wd0 at HBd ⊢
                go_wp2
                go_roundg (m - (i + 1))
                case measure => have := HG.out; have := HI.out; omega
                case rel => exact ⟨i + 1, true, by go_num, rfl, by have := HI.out; omega, HBd, Lib.hid ⟨fun _ => by
                  obtain ⟨k, hk, e⟩ := HBI.out.1 (by trivial)
                  exact ⟨k, by omega, e⟩, fun _ => rfl⟩⟩
            · have him : m = i := by omega
              subst him
              have HBz : Hid (Below wt.heap.size wt wr) := Lib.hid (HB3.out.trans (HBk.out.mono HB3.out.size))
              have HNz := Lib.hid (HND3.out.below HBk.out)
              have hc7 : wr.cell? ⟨wl.heap.size, 69, none⟩ = some (.string p) := by rw [← HPE.out]; exact HNz.out.path
              have hcx : wr.cell? ⟨g3, 69, none⟩ = some (.string p) := by rw [← HPE.out]; exact blk_path HX.out (HXB.out _ HBz.out)
              have HXK : Hid (wr.rangeAt g3 0 (keyL X.key)) := Lib.hid (blk_key HX.out (HXB.out _ HBz.out))
              obtain ⟨ki, hki⟩ : ∃ ki : Int, (X.kind : Int) = ki := ⟨_, rfl⟩
              have hck : wr.cell? ⟨g3, 68, none⟩ = some (.int .u8 ki) := by rw [← hki]; exact blk_kind HX.out (HXB.out _ HBz.out)
              have hbk : b = true ↔ ki ≠ 5 := by
                have h1 := zipN_mem HP.out X.doc
                have h2 := shown_newest HRR.out HS.out HLAST.out
                have h3 := HBI.out
                rw [h3]
                rw [HML.out] at h1
                constructor
                · rintro ⟨k, hk, e⟩
                  have := h2.1 (h1.1 ⟨k, hk, e⟩)
                  omega
                · intro h5
                  obtain ⟨k, hk, e⟩ := h1.2 (h2.2 (by omega))
                  exact ⟨k, hk, e⟩
              have HEQ : Hid (true = decide (keyF X.key X.key = 0)) := Lib.hid (by rw [keyF_self]; rfl)
              clear hg hki
              by_cases h5 : ki = 5
              · subst h5
                obtain rfl : b = false := by cases b <;> simp_all
                clear hbk
                go_wp2_with (first
                  | ((with_reducible show wpList _ _ _ (⟨some 76, _, _, _, _, _⟩ :: _) _ _); go_must (refine wl_ex rfl (exec_loadKey _ rfl _ _ X.key HXC.out.1 rfl HNz.out.key) ?_))
                  | ((with_reducible show wpList _ _ _ (⟨some 78, _, _, _, _, _⟩ :: _) _ _); go_must (refine wl_ex rfl (exec_loadKey _ rfl _ _ X.key HXC.out.1 rfl HXK.out) ?_))
                  | ((with_reducible show wpList _ _ _ (⟨some 79, _, _, _, _, _⟩ :: _) _ _); go_must (refine wl_ex rfl (exec_eqlKey _ _ _ rfl X.key X.key HXC.out.1 HXC.out.1 rfl rfl true HEQ.out) ?_))
                  | (go_at_call 12; go_must (refine (AW.out _ (HBW'.out _ HBz.out)).mono ?_); rintro e w9 ⟨rfl, hb9⟩))
                go_ret
                exact ⟨rfl, (HBW'.out _ HBz.out).trans (hb9.mono (HBW'.out _ HBz.out).size)⟩
              · have h5b : (ki == 5) = false := by simpa using h5
                have h5n : (ki != 5) = true := by simpa using h5
                obtain rfl : b = true := by cases b <;> simp_all
                clear hbk
                go_wp2_with (first
                  | ((with_reducible show wpList _ _ _ (⟨some 76, _, _, _, _, _⟩ :: _) _ _); go_must (refine wl_ex rfl (exec_loadKey _ rfl _ _ X.key HXC.out.1 rfl HNz.out.key) ?_))
                  | ((with_reducible show wpList _ _ _ (⟨some 78, _, _, _, _, _⟩ :: _) _ _); go_must (refine wl_ex rfl (exec_loadKey _ rfl _ _ X.key HXC.out.1 rfl HXK.out) ?_))
                  | ((with_reducible show wpList _ _ _ (⟨some 79, _, _, _, _, _⟩ :: _) _ _); go_must (refine wl_ex rfl (exec_eqlKey _ _ _ rfl X.key X.key HXC.out.1 HXC.out.1 rfl rfl true HEQ.out) ?_))
                  | (go_at_call 12; go_must (refine (AW.out _ (HBW'.out _ HBz.out)).mono ?_); rintro e w9 ⟨rfl, hb9⟩))
                go_ret
                exact ⟨rfl, (HBW'.out _ HBz.out).trans (hb9.mono (HBW'.out _ HBz.out).size)⟩
#print axioms registerNewest_any
end Go.Proofs.YtkahldoognofeaaDoor
