/-
  Merged: Reg14, RefRight, RefLast, RefFind14, RefPathMath, RefKeys14, RefPaths.
-/
import Derived.Test.YtipoielcmaegaaaGreatDoorRgLawAll
import Derived.Test.YtipoielcmaegaaaGreatDoorPath
import Derived.Test.YtipoielcmaegaaaGreatDoorPlAll
import Derived.Test.YtipoielcmaegaaaGreatDoorRefFresh
namespace Go.Proofs.YtipoielcmaegaaaGreatDoor
open Go.RowKit Go.Maps

abbrev E14 : TypeId := 45
theorem info14 : (Tryz.prog.info? E14).map (fun i => (i.zero, i.size, i.bytes)) = some (some (.agg (claimC default)), 70, 120) := by kernel_rfl
theorem size14 (x : ClaimV) (hx : x.key.c.length = 32 ∧ x.doc.c.length = 32) : (Tryz.prog.info? E14).map (·.size) = some (claimL x).length := by rw [claimL_len hx.1 hx.2]; kernel_rfl
theorem exec_loadClaim14 {w : World} {o : Oper} {a : Act} (x : Operand) (ho : o.op = .load E14 x) (b off : Nat) (X : ClaimV) (hX : X.key.c.length = 32 ∧ X.doc.c.length = 32) (hx : a.eval x = .pointer (some ⟨b, off, none⟩)) (hc : w.rangeAt b off (claimL X)) :
    (execOp a.eval o).run Tryz.prog w = .ok (.value (.agg (claimC X))) w := by
  have hr := run_loadVar_mid (P := Tryz.prog) w b off E14 (claimL X) _ hc Tryz.underlying45 rfl (by rw [claimL_len hX.1 hX.2]; kernel_rfl)
  unfold execOp
  simp only [ho, hx, Instr.loadAt, Instr.sureAddr, Sem.run_bind, Sem.run_pure, Result.andThen_ok, hr]
  rfl
/-- A block of one claim, read as a slice. -/
theorem blk_atG {E : TypeId} {W : World} {g : Nat} {X : ClaimV} (hX : ClOk X) (h : BlkAt E W g (claimL X)) : AtG clK W (some ⟨g, 0, none⟩) 1 1 [X] := by
  refine ⟨rfl, Nat.le_refl _, by omega, fun y hy => by simp at hy; rw [hy]; exact hX, .inr ⟨_, _, rfl, fun j hj i v hv => ?_⟩⟩
  obtain rfl : j = 0 := by omega
  rw [Nat.zero_mul, Nat.zero_add]
  exact h.cell i v hv
section
variable {E : TypeId} {W : World} {g : Nat} {X : ClaimV}
theorem blk_key (hX : ClOk X) (h : BlkAt E W g (claimL X)) : W.rangeAt g 0 (keyL X.key) := by simpa [show gd [X] 0 = X from rfl] using cl_key (blk_atG hX h) (j := 0) (by omega)
theorem blk_doc (hX : ClOk X) (h : BlkAt E W g (claimL X)) : W.rangeAt g 34 (keyL X.doc) := by simpa [show gd [X] 0 = X from rfl] using cl_doc (blk_atG hX h) (j := 0) (by omega)
theorem blk_kind (hX : ClOk X) (h : BlkAt E W g (claimL X)) : W.cell? ⟨g, 68, none⟩ = some (.int .u8 (X.kind : Int)) := by simpa [show gd [X] 0 = X from rfl] using cl_kind (blk_atG hX h) (j := 0) (by omega)
theorem blk_path (hX : ClOk X) (h : BlkAt E W g (claimL X)) : W.cell? ⟨g, 69, none⟩ = some (.string (strB X.path)) := by simpa [show gd [X] 0 = X from rfl] using cl_path (blk_atG hX h) (j := 0) (by omega)
end
/-- .. stored into a new block. -/
theorem store_claim14 {w : World} {cs : Array Value} (hcs : cs.size = 70) {ops : Array Oper} {rest : List Oper} {o : Oper} {a : Act} {Q : Exit → Act → World → Prop} (hgd : o.guard = none) (x y : Operand) (ho : o.op = .store E14 x y) (X : ClaimV) (hX : X.key.c.length = 32 ∧ X.doc.c.length = 32)
    (hx : a.eval x = .pointer (some ⟨w.heap.size, 0, none⟩)) (hy : a.eval y = .agg (claimC X))
    (h : ∀ W, BlkAt E14 W w.heap.size (claimL X) → Below w.heap.size w W → W.heap.size = w.heap.size + 1 → wpList Tryz.prog ops Q rest (a.put o.dst undef) W) : wpList Tryz.prog ops Q (o :: rest) a (w.alloc (.cells cs E14)) :=
  store_newV (vs := claimL X) (size14 X hX) (claimL_one X) (by rw [claimL_len hX.1 hX.2, hcs]) hgd x y ho hx hy (fun W h1 h2 h3 => h W h1 h2 h3)
#print axioms store_claim14
end Go.Proofs.YtipoielcmaegaaaGreatDoor

namespace Go.Proofs.YtipoielcmaegaaaGreatDoor
open Go.RowKit Go.Maps

theorem refPathL (s : List UInt8) (q : Bool) (hq : pathF s = q) (w : World) (hs : s.length ≤ 100000) : Calls Tryz.prog 18 #[.string (strB s)] w fun e w' => e = .returned (.bool q) ∧ Below w.heap.size w w' := by
  have h := refPath_any (strB s) w (by rw [strB_size]; omega)
  rw [strB_list, hq] at h
  exact h
theorem right_snoc {L : List ClaimV} {i : Nat} {X : ClaimV} (h : RightR (L.take i)) (hX : claimOk X = true) (hi : i ≤ L.length) (hn : ∀ j, j < i → keyF (gd L j).key X.key ≠ 0) : RightR (L.take i ++ [X]) := by
  refine ⟨fun c hc => ?_, List.pairwise_append.2 ⟨h.2, List.pairwise_singleton _ _, fun a ha b hb => ?_⟩⟩
  · rcases List.mem_append.1 hc with hc | hc
    · exact h.1 c hc
    · simp only [List.mem_singleton] at hc
      subst hc; exact hX
  · simp only [List.mem_singleton] at hb
    subst hb
    obtain ⟨j, hj, rfl⟩ := List.mem_iff_getElem.1 ha
    have hj2 : j < i ∧ j < L.length := by rw [List.length_take] at hj; omega
    have := hn j hj2.1
    have e : gd L j = L[j] := by unfold gd; simp [hj2.2]
    rw [e] at this
    rw [List.getElem_take]
    exact this
theorem same_bad {L : List ClaimV} (h : RightR L) {k i : Nat} (hk : k < i) (hi : i < L.length) (he : keyF (gd L k).key (gd L i).key = 0) : False := by
  have h1 := List.pairwise_iff_getElem.1 h.2 k i (by omega) hi hk
  have e1 : gd L k = L[k] := by unfold gd; simp [show k < L.length by omega]
  have e2 : gd L i = L[i] := by unfold gd; simp [hi]
  rw [e1, e2] at he
  exact h1 he

set_option maxRecDepth 100000 in
set_option maxHeartbeats 2000000 in
theorem refRight_any (a : Option Addr) (n c : Nat) (L : List ClaimV) (w : World) (h : AtG clK w a n c L) (hn : n ≤ 1000) (hl : ∀ c ∈ L, c.path.length ≤ 100000) (q : Bool) (hq : q = true ↔ RightR L) :
    Calls Tryz.prog 8 #[.slice a n c] w fun e w' => e = .returned (.bool q) ∧ Below w.heap.size w w' := by
  have HL := Lib.hid h.1
  have HN := Lib.hid h
  have hnI : (n : Int) ≤ 1000 := by omega
  have HLL := Lib.hid hl
  have HQ := Lib.hid hq
  have HF := Lib.hid (show ¬ RightR L → q = false from fun h => by
    cases q
    · rfl
    · exact absurd (HQ.out.1 rfl) h)
  clear h hn hl hq
  go_enter Tryz.func8, Tryz.ntmps8
  go_wp2
  go_loopg [3] n (fun g v3 W => ∃ i : Nat, v3 = .int .i64 i ∧ g + i = n ∧ Hid (Below w.heap.size w W) ∧ Hid (RightR (L.take i)))
  case atStart => exact ⟨0, rfl, rfl, Lib.hid (Below.refl _ _), Lib.hid (by rw [List.take_zero]; exact ⟨fun c hc => by simp at hc, List.Pairwise.nil⟩)⟩
  case round =>
    obtain ⟨i, rfl, hg, HB, HR⟩ := hrel
    have HG := Lib.hid hg
    have hi0 : (0 : Int) ≤ (i : Int) := by omega
    have hiI : (i : Int) ≤ (n : Int) := by omega
    by_cases hi : (i : Int) < (n : Int)
    · have hin : i < n := by omega
      have HI := Lib.hid hin
      obtain ⟨b, o, rfl⟩ := HN.out.some_ (by omega)
      have HC := Lib.hid ((HN.out.below HB.out).at_ i hin)
      obtain ⟨X, hX⟩ : ∃ X, X = gd L i := ⟨_, rfl⟩
      have HX := Lib.hid (hX ▸ HN.out.ok hin : ClOk X)
      have HXL : Hid (X.path.length ≤ 100000) := Lib.hid (by rw [hX]; exact HLL.out _ (gd_mem (by rw [HL.out]; exact hin)))
      rw [← hX] at HC
      have HXE := Lib.hid hX
      have HXC : Hid (X.key.c.length = 32 ∧ X.doc.c.length = 32) := Lib.hid ⟨HX.out.1, HX.out.2.1⟩
      obtain ⟨ki, hki⟩ : ∃ ki : Int, (X.kind : Int) = ki := ⟨_, rfl⟩
      have HKI := Lib.hid hki
      obtain ⟨s, hs⟩ : ∃ s, strB X.path = s := ⟨_, rfl⟩
      have HSE := Lib.hid hs
      have hs0 : (s.toList == []) = (X.path == []) := by rw [← hs, Lib.toList_data, strB_list]
      obtain ⟨p, hp⟩ : ∃ p, pathF X.path = p := ⟨_, rfl⟩
      have HP := Lib.hid (fun W => hs ▸ refPathL X.path p hp W HXL.out)
      have hok : claimOk X = (((ki == 3 || ki == 4) && p) || (ki == 5 && s.toList == [])) := by
        have e : ∀ m : Nat, ((X.kind : Int) == (m : Int)) = (X.kind == m) := fun m => by
          by_cases h : X.kind = m
          · rw [h]; simp
          · rw [beq_false_of_ne h]; exact beq_false_of_ne (by omega)
        unfold claimOk
        rw [hs0, ← hp, ← hki]
        rw [show ((X.kind : Int) == 3) = (X.kind == 3) from e 3, show ((X.kind : Int) == 4) = (X.kind == 4) from e 4, show ((X.kind : Int) == 5) = (X.kind == 5) from e 5]
      have HBAD : Hid (claimOk X = false → q = false) := Lib.hid (fun hv => HF.out (fun h => by
        have := h.1 X (by rw [HXE.out]; exact gd_mem (by rw [HL.out]; exact HI.out))
        rw [hv] at this; cases this))
      clear hg hX hin hs hs0 hp
      by_cases hk34 : ki = 3 ∨ ki = 4
      · have d1 : decide (ki < 3) = false := decide_eq_false (by omega)
        have d2 : decide (5 < ki) = false := decide_eq_false (by omega)
        have d3 : (ki == 5) = false := beq_false_of_ne (by omega)
        have d4 : (ki != 5) = true := bne_iff_ne.2 (by omega)
        have hok2 : claimOk X = p := by
          rw [hok, d3]
          rcases hk34 with rfl | rfl <;> simp
        clear hok hk34 hki
        cases p
        · have HE := Lib.hid (HBAD.out hok2)
          clear hok2
          go_wp2_with (first
            | ((with_reducible show wpList _ _ _ (⟨some 15, _, _, _, _, _⟩ :: _) _ _); go_must (refine wl_ex rfl (exec_loadClaim14 _ rfl _ _ X HXC.out rfl HC.out) ?_))
            | ((with_reducible show wpList _ _ _ (⟨_, Op.store _ (.tmp 4) _, _, _, _, _⟩ :: _) _ _); go_must (refine store_claim14 rfl rfl _ _ rfl X HXC.out rfl rfl ?_); intro W2 hnd hb2 hs2; have HB2 := Lib.hid (HB.out.trans (hb2.mono HB.out.size)); have HND := Lib.hid hnd; have ck : W2.cell? ⟨wr.heap.size, 68, none⟩ = some (.int .u8 ki) := HKI.out ▸ blk_kind HX.out hnd; have cp : W2.cell? ⟨wr.heap.size, 69, none⟩ = some (.string s) := HSE.out ▸ blk_path HX.out hnd; clear hnd hb2 hs2)
            | (go_at_call 18; go_must (refine (HP.out _).mono ?_); rintro e w5 ⟨rfl, hb5⟩; have HB5 := Lib.hid (HB2.out.trans (hb5.mono HB2.out.size)); have HN5 := Lib.hid (HND.out.below hb5); clear hb5))
          go_ret
          exact ⟨by rw [HE.out]; rfl, HB5.out⟩
        · have HV := Lib.hid hok2
          clear hok2
          go_wp2_with (first
            | ((with_reducible show wpList _ _ _ (⟨some 15, _, _, _, _, _⟩ :: _) _ _); go_must (refine wl_ex rfl (exec_loadClaim14 _ rfl _ _ X HXC.out rfl HC.out) ?_))
            | ((with_reducible show wpList _ _ _ (⟨_, Op.store _ (.tmp 4) _, _, _, _, _⟩ :: _) _ _); go_must (refine store_claim14 rfl rfl _ _ rfl X HXC.out rfl rfl ?_); intro W2 hnd hb2 hs2; have HB2 := Lib.hid (HB.out.trans (hb2.mono HB.out.size)); have HND := Lib.hid hnd; have ck : W2.cell? ⟨wr.heap.size, 68, none⟩ = some (.int .u8 ki) := HKI.out ▸ blk_kind HX.out hnd; have cp : W2.cell? ⟨wr.heap.size, 69, none⟩ = some (.string s) := HSE.out ▸ blk_path HX.out hnd; clear hnd hb2 hs2)
            | (go_at_call 18; go_must (refine (HP.out _).mono ?_); rintro e w5 ⟨rfl, hb5⟩; have HB5 := Lib.hid (HB2.out.trans (hb5.mono HB2.out.size)); have HN5 := Lib.hid (HND.out.below hb5); clear hb5))
          generalize hg4 : wr.heap.size = g4 at HND HN5 ⊢
          clear hg4
          generalize hW5 : w5 = W5 at HB5 HN5 ⊢
          clear hW5
          go_loopg [5] i (fun g v5 W => ∃ k : Nat, v5 = .int .i64 k ∧ g + k = i ∧ Hid (Below W5.heap.size W5 W) ∧ Hid (∀ j, j < k → keyF (gd L j).key X.key ≠ 0))
          case atStart => exact ⟨0, rfl, rfl, Lib.hid (Below.refl _ _), Lib.hid (fun j hj => by omega)⟩
          case round =>
            obtain ⟨k, rfl, hgk, HBk, HNE⟩ := hrel
            have HGk := Lib.hid hgk
            have hk0 : (0 : Int) ≤ (k : Int) := by omega
            have hki : (k : Int) ≤ (i : Int) := by omega
            by_cases hk : (k : Int) < (i : Int)
            · have hkn : k < n := by have := HI.out; omega
              have hknI : (k : Int) < (n : Int) := by omega
              have HKI2 := Lib.hid (show k < i by omega)
              obtain ⟨Y, hY⟩ : ∃ Y, Y = gd L k := ⟨_, rfl⟩
              have HYE := Lib.hid hY
              have HYC : Hid (Y.key.c.length = 32) := Lib.hid (hY ▸ (HN.out.ok hkn).1)
              have HBd : Hid (Below W5.heap.size W5 wr.drew) := Lib.hid HBk.out.drew
              have HYR : Hid (wr.drew.rangeAt b (o + k * 70) (keyL Y.key)) := Lib.hid (hY ▸ cl_key (HN.out.below (HB5.out.trans (HBd.out.mono HB5.out.size))) hkn)
              have HXR : Hid (wr.drew.rangeAt g4 0 (keyL X.key)) := Lib.hid (blk_key HX.out (HN5.out.below HBd.out))
              clear hgk hY hkn
              go_wp2
              refine wp_region_still_tail 7 (by kernel_rfl) (by kernel_rfl) ?_
              simp only [List.take_succ_cons, List.take_zero, List.drop_succ_cons, List.drop_zero]
              iterate 4 still_step
              refine still_w (by rfl) (exec_loadKey _ rfl _ _ Y.key HYC.out rfl HYR.out) ?_
              simp only [Act.put, List.setIfInBounds_toArray, List.set_cons_zero, List.set_cons_succ]
              iterate 1 still_step
              refine still_w (by rfl) (exec_loadKey _ rfl _ _ X.key HXC.out.1 rfl HXR.out) ?_
              simp only [Act.put, List.setIfInBounds_toArray, List.set_cons_zero, List.set_cons_succ]
              with_reducible refine wpStill_nil ?_
              change wpList _ _ _ _ _ wr.drew
              generalize wr.drew = wd0 at HBd ⊢
              by_cases he : keyF Y.key X.key = 0
              · have HEQ : Hid (true = decide (keyF Y.key X.key = 0)) := Lib.hid (decide_eq_true he).symm
                have HE : Hid (q = false) := Lib.hid (HF.out (fun h => same_bad h HKI2.out (by rw [HL.out]; exact HI.out) (by rw [← HYE.out, ← HXE.out]; exact he)))
                clear he
                go_wp2_with ((with_reducible show wpList _ _ _ (⟨some 57, _, _, _, _, _⟩ :: _) _ _); go_must (refine wl_ex rfl (exec_eqlKey _ _ _ rfl Y.key X.key HYC.out HXC.out.1 rfl rfl true HEQ.out) ?_))
                go_ret
                exact ⟨by rw [HE.out]; rfl, HB5.out.trans (HBd.out.mono HB5.out.size)⟩
              · have HEQ : Hid (false = decide (keyF Y.key X.key = 0)) := Lib.hid (decide_eq_false he).symm
                have HE := Lib.hid he
                clear he
                go_wp2_with ((with_reducible show wpList _ _ _ (⟨some 57, _, _, _, _, _⟩ :: _) _ _); go_must (refine wl_ex rfl (exec_eqlKey _ _ _ rfl Y.key X.key HYC.out HXC.out.1 rfl rfl false HEQ.out) ?_))
                go_roundg (i - (k + 1))
                case measure => have := HGk.out; have := HKI2.out; omega
                case rel => exact ⟨k + 1, by go_num, by have := HKI2.out; omega, HBd, Lib.hid (fun j hj => by
                  rcases Nat.lt_or_ge j k with h1 | h1
                  · exact HNE.out j h1
                  · obtain rfl : j = k := by omega
                    rw [← HYE.out]; exact HE.out)⟩
            · have hke : i = k := by omega
              subst hke
              clear hgk
              go_wp2
              go_roundg (n - (i + 1))
              case measure => have := HG.out; have := HI.out; omega
              case rel => exact ⟨i + 1, by go_num, by have := HI.out; omega, Lib.hid (HB5.out.trans (HBk.out.mono HB5.out.size)), Lib.hid (by
                rw [gd_take (by rw [HL.out]; exact HI.out), ← HXE.out]
                exact right_snoc HR.out HV.out (by rw [HL.out]; exact Nat.le_of_lt HI.out) HNE.out)⟩
      · by_cases hk5 : ki = 5
        · subst hk5
          have hok2 : claimOk X = (s.toList == []) := by rw [hok]; simp
          clear hok hk34 hki
          cases hse : (s.toList == [])
          · have HE := Lib.hid (HBAD.out (hok2.trans hse))
            clear hok2
            go_wp2_with (first
              | ((with_reducible show wpList _ _ _ (⟨some 15, _, _, _, _, _⟩ :: _) _ _); go_must (refine wl_ex rfl (exec_loadClaim14 _ rfl _ _ X HXC.out rfl HC.out) ?_))
              | ((with_reducible show wpList _ _ _ (⟨_, Op.store _ (.tmp 4) _, _, _, _, _⟩ :: _) _ _); go_must (refine store_claim14 rfl rfl _ _ rfl X HXC.out rfl rfl ?_); intro W2 hnd hb2 hs2; have HB2 := Lib.hid (HB.out.trans (hb2.mono HB.out.size)); have HND := Lib.hid hnd; have ck : W2.cell? ⟨wr.heap.size, 68, none⟩ = some (.int .u8 5) := HKI.out ▸ blk_kind HX.out hnd; have cp : W2.cell? ⟨wr.heap.size, 69, none⟩ = some (.string s) := HSE.out ▸ blk_path HX.out hnd; clear hnd hb2 hs2))
            go_ret
            exact ⟨by rw [HE.out]; rfl, HB2.out⟩
          · have HV := Lib.hid (hok2.trans hse)
            clear hok2
            go_wp2_with (first
              | ((with_reducible show wpList _ _ _ (⟨some 15, _, _, _, _, _⟩ :: _) _ _); go_must (refine wl_ex rfl (exec_loadClaim14 _ rfl _ _ X HXC.out rfl HC.out) ?_))
              | ((with_reducible show wpList _ _ _ (⟨_, Op.store _ (.tmp 4) _, _, _, _, _⟩ :: _) _ _); go_must (refine store_claim14 rfl rfl _ _ rfl X HXC.out rfl rfl ?_); intro W2 hnd hb2 hs2; have HB2 := Lib.hid (HB.out.trans (hb2.mono HB.out.size)); have HND := Lib.hid hnd; have ck : W2.cell? ⟨wr.heap.size, 68, none⟩ = some (.int .u8 5) := HKI.out ▸ blk_kind HX.out hnd; have cp : W2.cell? ⟨wr.heap.size, 69, none⟩ = some (.string s) := HSE.out ▸ blk_path HX.out hnd; clear hnd hb2 hs2))
            generalize hg4 : wr.heap.size = g4 at HND ⊢
            clear hg4
            generalize hW5 : W2 = W5 at HB2 HND ⊢
            clear hW5
            go_loopg [5] i (fun g v5 W => ∃ k : Nat, v5 = .int .i64 k ∧ g + k = i ∧ Hid (Below W5.heap.size W5 W) ∧ Hid (∀ j, j < k → keyF (gd L j).key X.key ≠ 0))
            case atStart => exact ⟨0, rfl, rfl, Lib.hid (Below.refl _ _), Lib.hid (fun j hj => by omega)⟩
            case round =>
              obtain ⟨k, rfl, hgk, HBk, HNE⟩ := hrel
              have HGk := Lib.hid hgk
              have hk0 : (0 : Int) ≤ (k : Int) := by omega
              have hki : (k : Int) ≤ (i : Int) := by omega
              by_cases hk : (k : Int) < (i : Int)
              · have hkn : k < n := by have := HI.out; omega
                have hknI : (k : Int) < (n : Int) := by omega
                have HKI2 := Lib.hid (show k < i by omega)
                obtain ⟨Y, hY⟩ : ∃ Y, Y = gd L k := ⟨_, rfl⟩
                have HYE := Lib.hid hY
                have HYC : Hid (Y.key.c.length = 32) := Lib.hid (hY ▸ (HN.out.ok hkn).1)
                have HBd : Hid (Below W5.heap.size W5 wr.drew) := Lib.hid HBk.out.drew
                have HYR : Hid (wr.drew.rangeAt b (o + k * 70) (keyL Y.key)) := Lib.hid (hY ▸ cl_key (HN.out.below (HB2.out.trans (HBd.out.mono HB2.out.size))) hkn)
                have HXR : Hid (wr.drew.rangeAt g4 0 (keyL X.key)) := Lib.hid (blk_key HX.out (HND.out.below HBd.out))
                clear hgk hY hkn
                go_wp2
                refine wp_region_still_tail 7 (by kernel_rfl) (by kernel_rfl) ?_
                simp only [List.take_succ_cons, List.take_zero, List.drop_succ_cons, List.drop_zero]
                iterate 4 still_step
                refine still_w (by rfl) (exec_loadKey _ rfl _ _ Y.key HYC.out rfl HYR.out) ?_
                simp only [Act.put, List.setIfInBounds_toArray, List.set_cons_zero, List.set_cons_succ]
                iterate 1 still_step
                refine still_w (by rfl) (exec_loadKey _ rfl _ _ X.key HXC.out.1 rfl HXR.out) ?_
                simp only [Act.put, List.setIfInBounds_toArray, List.set_cons_zero, List.set_cons_succ]
                with_reducible refine wpStill_nil ?_
                change wpList _ _ _ _ _ wr.drew
                generalize wr.drew = wd0 at HBd ⊢
                by_cases he : keyF Y.key X.key = 0
                · have HEQ : Hid (true = decide (keyF Y.key X.key = 0)) := Lib.hid (decide_eq_true he).symm
                  have HE : Hid (q = false) := Lib.hid (HF.out (fun h => same_bad h HKI2.out (by rw [HL.out]; exact HI.out) (by rw [← HYE.out, ← HXE.out]; exact he)))
                  clear he
                  go_wp2_with ((with_reducible show wpList _ _ _ (⟨some 57, _, _, _, _, _⟩ :: _) _ _); go_must (refine wl_ex rfl (exec_eqlKey _ _ _ rfl Y.key X.key HYC.out HXC.out.1 rfl rfl true HEQ.out) ?_))
                  go_ret
                  exact ⟨by rw [HE.out]; rfl, HB2.out.trans (HBd.out.mono HB2.out.size)⟩
                · have HEQ : Hid (false = decide (keyF Y.key X.key = 0)) := Lib.hid (decide_eq_false he).symm
                  have HE := Lib.hid he
                  clear he
                  go_wp2_with ((with_reducible show wpList _ _ _ (⟨some 57, _, _, _, _, _⟩ :: _) _ _); go_must (refine wl_ex rfl (exec_eqlKey _ _ _ rfl Y.key X.key HYC.out HXC.out.1 rfl rfl false HEQ.out) ?_))
                  go_roundg (i - (k + 1))
                  case measure => have := HGk.out; have := HKI2.out; omega
                  case rel => exact ⟨k + 1, by go_num, by have := HKI2.out; omega, HBd, Lib.hid (fun j hj => by
                    rcases Nat.lt_or_ge j k with h1 | h1
                    · exact HNE.out j h1
                    · obtain rfl : j = k := by omega
                      rw [← HYE.out]; exact HE.out)⟩
              · have hke : i = k := by omega
                subst hke
                clear hgk
                go_wp2
                go_roundg (n - (i + 1))
                case measure => have := HG.out; have := HI.out; omega
                case rel => exact ⟨i + 1, by go_num, by have := HI.out; omega, Lib.hid (HB2.out.trans (HBk.out.mono HB2.out.size)), Lib.hid (by
                  rw [gd_take (by rw [HL.out]; exact HI.out), ← HXE.out]
                  exact right_snoc HR.out HV.out (by rw [HL.out]; exact Nat.le_of_lt HI.out) HNE.out)⟩
        · have hok2 : claimOk X = false := by
            have a3 : (ki == 3) = false := beq_false_of_ne (fun h => hk34 (.inl h))
            have a4 : (ki == 4) = false := beq_false_of_ne (fun h => hk34 (.inr h))
            have a5 : (ki == 5) = false := beq_false_of_ne hk5
            rw [hok, a3, a4, a5]; rfl
          have HE := Lib.hid (HBAD.out hok2)
          clear hok hok2
          by_cases hk3 : ki < 3
          · have d1 : decide (ki < 3) = true := decide_eq_true hk3
            clear hk34 hki hk5
            go_wp2_with (first
              | ((with_reducible show wpList _ _ _ (⟨some 15, _, _, _, _, _⟩ :: _) _ _); go_must (refine wl_ex rfl (exec_loadClaim14 _ rfl _ _ X HXC.out rfl HC.out) ?_))
              | ((with_reducible show wpList _ _ _ (⟨_, Op.store _ (.tmp 4) _, _, _, _, _⟩ :: _) _ _); go_must (refine store_claim14 rfl rfl _ _ rfl X HXC.out rfl rfl ?_); intro W2 hnd hb2 hs2; have HB2 := Lib.hid (HB.out.trans (hb2.mono HB.out.size)); have HND := Lib.hid hnd; have ck : W2.cell? ⟨wr.heap.size, 68, none⟩ = some (.int .u8 ki) := HKI.out ▸ blk_kind HX.out hnd; have cp : W2.cell? ⟨wr.heap.size, 69, none⟩ = some (.string s) := HSE.out ▸ blk_path HX.out hnd; clear hnd hb2 hs2))
            go_ret
            exact ⟨by rw [HE.out]; rfl, HB2.out⟩
          · have d1 : decide (ki < 3) = false := decide_eq_false hk3
            have d2 : decide (5 < ki) = true := decide_eq_true (by omega)
            clear hk34 hki hk5 hk3
            go_wp2_with (first
              | ((with_reducible show wpList _ _ _ (⟨some 15, _, _, _, _, _⟩ :: _) _ _); go_must (refine wl_ex rfl (exec_loadClaim14 _ rfl _ _ X HXC.out rfl HC.out) ?_))
              | ((with_reducible show wpList _ _ _ (⟨_, Op.store _ (.tmp 4) _, _, _, _, _⟩ :: _) _ _); go_must (refine store_claim14 rfl rfl _ _ rfl X HXC.out rfl rfl ?_); intro W2 hnd hb2 hs2; have HB2 := Lib.hid (HB.out.trans (hb2.mono HB.out.size)); have HND := Lib.hid hnd; have ck : W2.cell? ⟨wr.heap.size, 68, none⟩ = some (.int .u8 ki) := HKI.out ▸ blk_kind HX.out hnd; have cp : W2.cell? ⟨wr.heap.size, 69, none⟩ = some (.string s) := HSE.out ▸ blk_path HX.out hnd; clear hnd hb2 hs2))
            go_ret
            exact ⟨by rw [HE.out]; rfl, HB2.out⟩
    · have hin : n = i := by omega
      subst hin
      have HE : Hid (q = true) := Lib.hid (HQ.out.2 (by have := HR.out; rwa [List.take_of_length_le (by rw [HL.out]; exact Nat.le_refl _)] at this))
      clear hg
      go_wp2
      go_ret
      exact ⟨by simp [HE.out], HB.out⟩
#print axioms refRight_any
end Go.Proofs.YtipoielcmaegaaaGreatDoor

namespace Go.Proofs.YtipoielcmaegaaaGreatDoor
open Go.RowKit Go.Maps

/-- The place of a document's last claim among the first ones; -1: none. -/
def AtIs (L : List ClaimV) (d : KeyV) (i : Nat) (x : Int) : Prop := (x = -1 ∧ ∀ j, j < i → (gd L j).doc ≠ d) ∨ (∃ j : Nat, x = j ∧ j < i ∧ (gd L j).doc = d ∧ ∀ k, k < i → (gd L k).doc = d → keyF (gd L k).key (gd L j).key ≤ 0)
theorem AtIs.skip {L : List ClaimV} {d : KeyV} {i : Nat} {x : Int} (h : AtIs L d i x) (hn : (gd L i).doc ≠ d) : AtIs L d (i + 1) x := by
  rcases h with ⟨h1, h2⟩ | ⟨j, h1, h2, h3, h4⟩
  · refine .inl ⟨h1, fun j hj => ?_⟩
    rcases Nat.lt_or_ge j i with h | h
    · exact h2 j h
    · obtain rfl : j = i := by omega
      exact hn
  · refine .inr ⟨j, h1, by omega, h3, fun k hk e => ?_⟩
    rcases Nat.lt_or_ge k i with h | h
    · exact h4 k h e
    · obtain rfl : k = i := by omega
      exact absurd e hn
theorem AtIs.first {L : List ClaimV} {d : KeyV} {i : Nat} (h : ∀ j, j < i → (gd L j).doc ≠ d) (hd : (gd L i).doc = d) : AtIs L d (i + 1) (i : Int) := by
  refine .inr ⟨i, rfl, by omega, hd, fun k hk e => ?_⟩
  rcases Nat.lt_or_ge k i with h1 | h1
  · exact absurd e (h k h1)
  · obtain rfl : k = i := by omega
    rw [keyF_self]; omega
theorem AtIs.next {L : List ClaimV} {d : KeyV} {i j : Nat} (hd : (gd L i).doc = d) (h4 : ∀ k, k < i → (gd L k).doc = d → keyF (gd L k).key (gd L j).key ≤ 0) (hz : 0 < keyF (gd L i).key (gd L j).key) : AtIs L d (i + 1) (i : Int) := by
  refine .inr ⟨i, rfl, by omega, hd, fun k hk e => ?_⟩
  rcases Nat.lt_or_ge k i with h1 | h1
  · have h2 := h4 k h1 e
    have h3 : keyF (gd L j).key (gd L i).key < 0 := by have := keyF_anti (gd L i).key (gd L j).key; omega
    exact Int.le_of_lt (keyF_le_lt h2 h3)
  · obtain rfl : k = i := by omega
    rw [keyF_self]; omega
theorem AtIs.stays {L : List ClaimV} {d : KeyV} {i j : Nat} (hj : j < i) (hjd : (gd L j).doc = d) (h4 : ∀ k, k < i → (gd L k).doc = d → keyF (gd L k).key (gd L j).key ≤ 0) (hz : keyF (gd L i).key (gd L j).key ≤ 0) : AtIs L d (i + 1) (j : Int) := by
  refine .inr ⟨j, rfl, by omega, hjd, fun k hk e => ?_⟩
  rcases Nat.lt_or_ge k i with h1 | h1
  · exact h4 k h1 e
  · obtain rfl : k = i := by omega
    exact hz
/-- What Last hands back: a document's last claim, or that there is none. -/
def RefLastIs (L : List ClaimV) (d : KeyV) (w : World) (e : Ending) (w' : World) : Prop := ∃ (X : ClaimV) (b : Bool), e = .returned (.tuple #[.agg (claimC X), .bool b]) ∧ ClOk X ∧ ((b = true ∧ IsLast L X ∧ X.doc = d) ∨ (b = false ∧ X = default ∧ ∀ c ∈ L, c.doc ≠ d)) ∧ Below w.heap.size w w'
theorem refKeyR (a b : KeyV) (z : Int) (hz : keyF a b = z) (w : World) (ha : a.c.length = 32) (hb : b.c.length = 32) : Calls Tryz.prog 23 #[.agg (keyC a), .agg (keyC b)] w fun e w' => e = .returned (.int .i64 z) ∧ Below w.heap.size w w' := by
  subst hz; exact refKeys_any a b w ha hb
theorem kl_zero : ∃ l, KlK zeroK l := Option.isSome_iff_exists.1 (by kernel_rfl)
theorem ok_default : ClOk default := ⟨rfl, rfl, kl_zero, kl_zero, by decide⟩
theorem built_zero14 : Tryz.prog.built E14 [] = some (claimC default) := by kernel_rfl
set_option maxRecDepth 100000 in
theorem exec_zero14 {w : World} {o : Oper} {a : Act} (ho : o.op = .build E14 #[]) : (execOp a.eval o).run Tryz.prog w = .ok (.value (.agg (claimC default))) w := by
  refine exec_build _ _ ho _ ?_
  simpa using built_zero14
theorem run_loadClaim14 {w : World} {b off : Nat} {k : ClaimV} (hl : k.key.c.length = 32 ∧ k.doc.c.length = 32) (hc : w.rangeAt b off (claimL k)) : (loadVar E14 ⟨b, off, none⟩).run Tryz.prog w = .ok (.agg (claimC k)) w :=
  run_loadVar_mid (P := Tryz.prog) w b off E14 (claimL k) _ hc Tryz.underlying45 rfl (by rw [claimL_len hl.1 hl.2]; kernel_rfl)

set_option maxRecDepth 100000 in
set_option maxHeartbeats 2000000 in
theorem refLast_any (a : Option Addr) (n c : Nat) (L : List ClaimV) (d : KeyV) (hd : d.c.length = 32) (w : World) (h : AtG clK w a n c L) (hn : n ≤ 1000) :
    Calls Tryz.prog 14 #[.slice a n c, .agg (keyC d)] w (RefLastIs L d w) := by
  have HL := Lib.hid h.1
  have HN := Lib.hid h
  have HDC := Lib.hid hd
  have hnI : (n : Int) ≤ 1000 := by omega
  clear h hn hd
  go_enter Tryz.func14, Tryz.ntmps14
  go_wp2
  have HK3 : Hid (BlkAt 35 ((w.alloc (.cells (keyC d) 35)).alloc (.cells (claimC default) 45)) w.heap.size (keyL d)) := Lib.hid ((BlkAt.new w 35 (keyC d)).below ((Below.refl _ _).alloc (Nat.le_refl _) _))
  have HZ4 : Hid (∃ us, us.length = 70 ∧ BlkAt E14 ((w.alloc (.cells (keyC d) 35)).alloc (.cells (claimC default) 45)) (w.heap.size + 1) us) := Lib.hid ⟨_, rfl, by have := BlkAt.new (w.alloc (.cells (keyC d) 35)) E14 (claimC default); rwa [show (w.alloc (.cells (keyC d) 35)).heap.size = w.heap.size + 1 from by simp] at this⟩
  have HG4 : Hid (w.heap.size ≤ (w.heap.size + 1)) := Lib.hid (Nat.le_succ _)
  have HBB : Hid (Below w.heap.size w ((w.alloc (.cells (keyC d) 35)).alloc (.cells (claimC default) 45))) := Lib.hid (((Below.refl w.heap.size w).alloc (Nat.le_refl _) _).alloc (size_alloc_le _ _) _)
  rw [show Tryz.zeroCells45 = claimC default from by kernel_rfl]
  generalize hwb : (w.alloc (.cells (keyC d) 35)).alloc (.cells (claimC default) 45) = wb at HK3 HZ4 HBB ⊢
  generalize hg4 : w.heap.size + 1 = g4 at HZ4 HG4 ⊢
  generalize hg3 : w.heap.size = g3 at HK3 ⊢
  clear hwb hg4
  obtain ⟨us, hus, hbk4⟩ := HZ4.out
  have HZ4 := Lib.hid hbk4
  have HZL := Lib.hid hus
  clear hbk4 hus
  go_loopg [6, 7] n (fun g v6 v7 W => ∃ (i : Nat) (x : Int), v7 = .int .i64 i ∧ v6 = .int .i64 x ∧ g + i = n ∧ Hid (Below wb.heap.size wb W) ∧ Hid (AtIs L d i x))
  case atStart => exact ⟨0, -1, rfl, rfl, rfl, Lib.hid (Below.refl _ _), Lib.hid (.inl ⟨rfl, fun j hj => absurd hj (Nat.not_lt_zero _)⟩)⟩
  case round =>
    obtain ⟨i, x, rfl, rfl, hg, HB, HAT⟩ := hrel
    have HG := Lib.hid hg
    have hi0 : (0 : Int) ≤ (i : Int) := by omega
    have hiI : (i : Int) ≤ (n : Int) := by omega
    by_cases hi : (i : Int) < (n : Int)
    · have hin : i < n := by omega
      have HI := Lib.hid hin
      obtain ⟨b, o, rfl⟩ := HN.out.some_ (by omega)
      have HBd : Hid (Below wb.heap.size wb wr.drew) := Lib.hid HB.out.drew
      have HNd := Lib.hid (HN.out.below (HBB.out.trans (HBd.out.mono HBB.out.size)))
      obtain ⟨Y, hY⟩ : ∃ Y, Y = gd L i := ⟨_, rfl⟩
      have HYE := Lib.hid hY
      have HYC : Hid (Y.key.c.length = 32 ∧ Y.doc.c.length = 32) := Lib.hid (hY ▸ ⟨(HN.out.ok hin).1, (HN.out.ok hin).2.1⟩)
      have HYD : Hid (wr.drew.rangeAt b (o + i * 70 + 34) (keyL Y.doc)) := Lib.hid (hY ▸ cl_doc HNd.out hin)
      have HYK : Hid (wr.drew.rangeAt b (o + i * 70) (keyL Y.key)) := Lib.hid (hY ▸ cl_key HNd.out hin)
      have HD3 : Hid (wr.drew.rangeAt g3 0 (keyL d)) := Lib.hid (HK3.out.below HBd.out).range
      clear hg hY
      by_cases hyd : Y.doc = d
      · have HEQ : Hid (true = decide (keyF Y.doc d = 0)) := Lib.hid (decide_eq_true (by rw [hyd]; exact keyF_self _)).symm
        have HYD2 := Lib.hid hyd
        clear hyd
        rcases HAT.out with ⟨rfl, hno⟩ | ⟨j, rfl, hj, hjd, hjm⟩
        · have HNO := Lib.hid hno
          clear hno
          go_wp2
          refine wp_region_still_tail 21 (by kernel_rfl) (by kernel_rfl) ?_
          simp only [List.take_succ_cons, List.take_zero, List.drop_succ_cons, List.drop_zero]
          iterate 4 still_step
          refine still_w (by rfl) (exec_loadKey _ rfl _ _ Y.doc HYC.out.2 rfl HYD.out) ?_
          simp only [Act.put, List.setIfInBounds_toArray, List.set_cons_zero, List.set_cons_succ]
          refine still_w (by rfl) (exec_loadKey _ rfl _ _ d HDC.out rfl HD3.out) ?_
          simp only [Act.put, List.setIfInBounds_toArray, List.set_cons_zero, List.set_cons_succ]
          refine still_w (by rfl) (exec_eqlKey _ _ _ rfl Y.doc d HYC.out.2 HDC.out rfl rfl true HEQ.out) ?_
          simp only [Act.put, List.setIfInBounds_toArray, List.set_cons_zero, List.set_cons_succ]
          iterate 1 still_step
          iterate 3 still_step
          with_reducible refine still_skip ?_ ?_
          · kernel_rfl
          simp only [Act.put, List.setIfInBounds_toArray, List.set_cons_zero, List.set_cons_succ]
          with_reducible refine still_skip ?_ ?_
          · kernel_rfl
          simp only [Act.put, List.setIfInBounds_toArray, List.set_cons_zero, List.set_cons_succ]
          with_reducible refine still_skip ?_ ?_
          · kernel_rfl
          simp only [Act.put, List.setIfInBounds_toArray, List.set_cons_zero, List.set_cons_succ]
          with_reducible refine still_skip ?_ ?_
          · kernel_rfl
          simp only [Act.put, List.setIfInBounds_toArray, List.set_cons_zero, List.set_cons_succ]
          with_reducible refine still_skip ?_ ?_
          · kernel_rfl
          simp only [Act.put, List.setIfInBounds_toArray, List.set_cons_zero, List.set_cons_succ]
          with_reducible refine still_skip ?_ ?_
          · kernel_rfl
          simp only [Act.put, List.setIfInBounds_toArray, List.set_cons_zero, List.set_cons_succ]
          with_reducible refine still_skip ?_ ?_
          · kernel_rfl
          simp only [Act.put, List.setIfInBounds_toArray, List.set_cons_zero, List.set_cons_succ]
          with_reducible refine still_skip ?_ ?_
          · kernel_rfl
          simp only [Act.put, List.setIfInBounds_toArray, List.set_cons_zero, List.set_cons_succ]
          with_reducible refine still_skip ?_ ?_
          · kernel_rfl
          simp only [Act.put, List.setIfInBounds_toArray, List.set_cons_zero, List.set_cons_succ]
          with_reducible refine still_skip ?_ ?_
          · kernel_rfl
          simp only [Act.put, List.setIfInBounds_toArray, List.set_cons_zero, List.set_cons_succ]
          with_reducible refine wpStill_nil ?_
          change wpList _ _ _ _ _ wr.drew
          generalize wr.drew = wd0 at HBd ⊢
          go_wp2
          go_roundg (n - (i + 1))
          case measure => have := HG.out; have := HI.out; omega
          case rel => exact ⟨i + 1, (i : Int), by go_num, rfl, by have := HI.out; omega, HBd, Lib.hid (AtIs.first HNO.out (by rw [← HYE.out]; exact HYD2.out))⟩
        · have hj0 : (0 : Int) ≤ (j : Int) := by omega
          have hjn : (j : Int) < (n : Int) := by omega
          have hjneg : decide ((j : Int) < 0) = false := decide_eq_false (by omega)
          obtain ⟨Z, hZ⟩ : ∃ Z, Z = gd L j := ⟨_, rfl⟩
          have hjN : j < n := by omega
          have HZC : Hid (Z.key.c.length = 32) := Lib.hid (hZ ▸ (HN.out.ok hjN).1)
          have HZK : Hid (wr.drew.rangeAt b (o + j * 70) (keyL Z.key)) := Lib.hid (hZ ▸ cl_key HNd.out hjN)
          obtain ⟨z, hz⟩ : ∃ z, keyF Y.key Z.key = z := ⟨_, rfl⟩
          have HZZ := Lib.hid hz
          have HZE := Lib.hid hZ
          have HJ := Lib.hid hj
          have HJD := Lib.hid hjd
          have HJM := Lib.hid hjm
          have KA := Lib.hid (fun W => refKeyR Y.key Z.key z hz W HYC.out.1 HZC.out)
          clear hZ hz hj hjd hjm hjN
          by_cases hz0 : 0 < z
          · have HZ0 := Lib.hid hz0
            go_wp2
            refine wp_region_still_tail 21 (by kernel_rfl) (by kernel_rfl) ?_
            simp only [List.take_succ_cons, List.take_zero, List.drop_succ_cons, List.drop_zero]
            iterate 4 still_step
            refine still_w (by rfl) (exec_loadKey _ rfl _ _ Y.doc HYC.out.2 rfl HYD.out) ?_
            simp only [Act.put, List.setIfInBounds_toArray, List.set_cons_zero, List.set_cons_succ]
            refine still_w (by rfl) (exec_loadKey _ rfl _ _ d HDC.out rfl HD3.out) ?_
            simp only [Act.put, List.setIfInBounds_toArray, List.set_cons_zero, List.set_cons_succ]
            refine still_w (by rfl) (exec_eqlKey _ _ _ rfl Y.doc d HYC.out.2 HDC.out rfl rfl true HEQ.out) ?_
            simp only [Act.put, List.setIfInBounds_toArray, List.set_cons_zero, List.set_cons_succ]
            iterate 1 still_step
            iterate 7 still_step
            refine still_w (by rfl) (exec_loadKey _ rfl _ _ Y.key HYC.out.1 rfl HYK.out) ?_
            simp only [Act.put, List.setIfInBounds_toArray, List.set_cons_zero, List.set_cons_succ]
            iterate 4 still_step
            refine still_w (by rfl) (exec_loadKey _ rfl _ _ Z.key HZC.out rfl HZK.out) ?_
            simp only [Act.put, List.setIfInBounds_toArray, List.set_cons_zero, List.set_cons_succ]
            with_reducible refine wpStill_nil ?_
            change wpList _ _ _ _ _ wr.drew
            generalize wr.drew = wd0 at HBd ⊢
            go_wp2_with (go_at_call 23; go_must (refine (KA.out _).mono ?_); rintro e wk ⟨rfl, hbk⟩; have HBK := Lib.hid (HBd.out.trans (hbk.mono HBd.out.size)); clear hbk)
            go_roundg (n - (i + 1))
            case measure => have := HG.out; have := HI.out; omega
            case rel => exact ⟨i + 1, (i : Int), by go_num, rfl, by have := HI.out; omega, HBK, Lib.hid (AtIs.next (by rw [← HYE.out]; exact HYD2.out) HJM.out (by rw [← HYE.out, ← HZE.out, HZZ.out]; exact HZ0.out))⟩
          · have dz : decide (0 < z) = false := decide_eq_false hz0
            have HZ0 := Lib.hid hz0
            clear hz0
            go_wp2
            refine wp_region_still_tail 21 (by kernel_rfl) (by kernel_rfl) ?_
            simp only [List.take_succ_cons, List.take_zero, List.drop_succ_cons, List.drop_zero]
            iterate 4 still_step
            refine still_w (by rfl) (exec_loadKey _ rfl _ _ Y.doc HYC.out.2 rfl HYD.out) ?_
            simp only [Act.put, List.setIfInBounds_toArray, List.set_cons_zero, List.set_cons_succ]
            refine still_w (by rfl) (exec_loadKey _ rfl _ _ d HDC.out rfl HD3.out) ?_
            simp only [Act.put, List.setIfInBounds_toArray, List.set_cons_zero, List.set_cons_succ]
            refine still_w (by rfl) (exec_eqlKey _ _ _ rfl Y.doc d HYC.out.2 HDC.out rfl rfl true HEQ.out) ?_
            simp only [Act.put, List.setIfInBounds_toArray, List.set_cons_zero, List.set_cons_succ]
            iterate 1 still_step
            iterate 7 still_step
            refine still_w (by rfl) (exec_loadKey _ rfl _ _ Y.key HYC.out.1 rfl HYK.out) ?_
            simp only [Act.put, List.setIfInBounds_toArray, List.set_cons_zero, List.set_cons_succ]
            iterate 4 still_step
            refine still_w (by rfl) (exec_loadKey _ rfl _ _ Z.key HZC.out rfl HZK.out) ?_
            simp only [Act.put, List.setIfInBounds_toArray, List.set_cons_zero, List.set_cons_succ]
            with_reducible refine wpStill_nil ?_
            change wpList _ _ _ _ _ wr.drew
            generalize wr.drew = wd0 at HBd ⊢
            go_wp2_with (go_at_call 23; go_must (refine (KA.out _).mono ?_); rintro e wk ⟨rfl, hbk⟩; have HBK := Lib.hid (HBd.out.trans (hbk.mono HBd.out.size)); clear hbk)
            go_roundg (n - (i + 1))
            case measure => have := HG.out; have := HI.out; omega
            case rel => exact ⟨i + 1, (j : Int), by go_num, rfl, by have := HI.out; omega, HBK, Lib.hid (AtIs.stays HJ.out HJD.out HJM.out (by rw [← HYE.out, ← HZE.out, HZZ.out]; have := HZ0.out; omega))⟩
      · have HEQ : Hid (false = decide (keyF Y.doc d = 0)) := Lib.hid (decide_eq_false (fun e => hyd (keyF_eq e))).symm
        have HYN := Lib.hid hyd
        clear hyd
        go_wp2
        refine wp_region_still_tail 21 (by kernel_rfl) (by kernel_rfl) ?_
        simp only [List.take_succ_cons, List.take_zero, List.drop_succ_cons, List.drop_zero]
        iterate 4 still_step
        refine still_w (by rfl) (exec_loadKey _ rfl _ _ Y.doc HYC.out.2 rfl HYD.out) ?_
        simp only [Act.put, List.setIfInBounds_toArray, List.set_cons_zero, List.set_cons_succ]
        refine still_w (by rfl) (exec_loadKey _ rfl _ _ d HDC.out rfl HD3.out) ?_
        simp only [Act.put, List.setIfInBounds_toArray, List.set_cons_zero, List.set_cons_succ]
        refine still_w (by rfl) (exec_eqlKey _ _ _ rfl Y.doc d HYC.out.2 HDC.out rfl rfl false HEQ.out) ?_
        simp only [Act.put, List.setIfInBounds_toArray, List.set_cons_zero, List.set_cons_succ]
        iterate 1 still_step
        with_reducible refine still_skip ?_ ?_
        · kernel_rfl
        simp only [Act.put, List.setIfInBounds_toArray, List.set_cons_zero, List.set_cons_succ]
        with_reducible refine still_skip ?_ ?_
        · kernel_rfl
        simp only [Act.put, List.setIfInBounds_toArray, List.set_cons_zero, List.set_cons_succ]
        with_reducible refine still_skip ?_ ?_
        · kernel_rfl
        simp only [Act.put, List.setIfInBounds_toArray, List.set_cons_zero, List.set_cons_succ]
        with_reducible refine still_skip ?_ ?_
        · kernel_rfl
        simp only [Act.put, List.setIfInBounds_toArray, List.set_cons_zero, List.set_cons_succ]
        with_reducible refine still_skip ?_ ?_
        · kernel_rfl
        simp only [Act.put, List.setIfInBounds_toArray, List.set_cons_zero, List.set_cons_succ]
        with_reducible refine still_skip ?_ ?_
        · kernel_rfl
        simp only [Act.put, List.setIfInBounds_toArray, List.set_cons_zero, List.set_cons_succ]
        with_reducible refine still_skip ?_ ?_
        · kernel_rfl
        simp only [Act.put, List.setIfInBounds_toArray, List.set_cons_zero, List.set_cons_succ]
        with_reducible refine still_skip ?_ ?_
        · kernel_rfl
        simp only [Act.put, List.setIfInBounds_toArray, List.set_cons_zero, List.set_cons_succ]
        with_reducible refine still_skip ?_ ?_
        · kernel_rfl
        simp only [Act.put, List.setIfInBounds_toArray, List.set_cons_zero, List.set_cons_succ]
        with_reducible refine still_skip ?_ ?_
        · kernel_rfl
        simp only [Act.put, List.setIfInBounds_toArray, List.set_cons_zero, List.set_cons_succ]
        with_reducible refine still_skip ?_ ?_
        · kernel_rfl
        simp only [Act.put, List.setIfInBounds_toArray, List.set_cons_zero, List.set_cons_succ]
        with_reducible refine still_skip ?_ ?_
        · kernel_rfl
        simp only [Act.put, List.setIfInBounds_toArray, List.set_cons_zero, List.set_cons_succ]
        with_reducible refine still_skip ?_ ?_
        · kernel_rfl
        simp only [Act.put, List.setIfInBounds_toArray, List.set_cons_zero, List.set_cons_succ]
        with_reducible refine wpStill_nil ?_
        change wpList _ _ _ _ _ wr.drew
        generalize wr.drew = wd0 at HBd ⊢
        go_wp2
        go_roundg (n - (i + 1))
        case measure => have := HG.out; have := HI.out; omega
        case rel => exact ⟨i + 1, x, by go_num, rfl, by have := HI.out; omega, HBd, Lib.hid (HAT.out.skip (by rw [← HYE.out]; exact HYN.out))⟩
    · have hin : n = i := by omega
      subst hin
      have HBw : Hid (Below w.heap.size w wr) := Lib.hid (HBB.out.trans (HB.out.mono HBB.out.size))
      rcases HAT.out with ⟨rfl, hno⟩ | ⟨j, rfl, hj, hjd, hjm⟩
      · have HNO := Lib.hid hno
        clear hg hno
        go_wp2_with (first
          | ((with_reducible show wpList _ _ _ (⟨some 42, _, _, _, _, _⟩ :: _) _ _); go_must (refine wl_ex rfl (exec_zero14 rfl) ?_))
          | ((with_reducible show wpList _ _ _ (⟨_, Op.store _ (.tmp 4) _, _, _, _, _⟩ :: _) _ _); go_must (refine store_blk (vs := claimL default) (HZ4.out.below HB.out) (size14 default ⟨rfl, rfl⟩) HZL.out (claimL_one _) rfl _ _ rfl rfl rfl ?_); intro W4 hk4 hg4))
        refine bodyPost_ret (results_blk2 (run_loadClaim14 ⟨rfl, rfl⟩ hk4.range) rfl _ rfl) rfl ?_
        refine ⟨default, false, rfl, ok_default, .inr ⟨rfl, rfl, fun c hc => ?_⟩, ?_⟩
        · obtain ⟨k, hk, rfl⟩ := List.mem_iff_getElem.1 hc
          have := HNO.out k (by rw [← HL.out]; exact hk)
          have e : gd L k = L[k] := by unfold gd; simp [hk]
          rwa [e] at this
        · exact HBw.out.grown hg4 HBw.out.size (fun q hq => by cases hq; exact HG4.out)
      · have hj0 : (0 : Int) ≤ (j : Int) := by omega
        have hjn : (j : Int) < (n : Int) := by omega
        have hjneg : decide ((j : Int) < 0) = false := decide_eq_false (by omega)
        obtain ⟨b, o, rfl⟩ := HN.out.some_ (by omega)
        obtain ⟨Z, hZ⟩ : ∃ Z, Z = gd L j := ⟨_, rfl⟩
        have HZO : Hid (ClOk Z) := Lib.hid (hZ ▸ HN.out.ok hj)
        have HZC : Hid (Z.key.c.length = 32 ∧ Z.doc.c.length = 32) := Lib.hid ⟨HZO.out.1, HZO.out.2.1⟩
        have HZA : Hid (wr.rangeAt b (o + j * 70) (claimL Z)) := Lib.hid (hZ ▸ (HN.out.below HBw.out).at_ j hj)
        have HZE := Lib.hid hZ
        have HJ := Lib.hid hj
        have HJD := Lib.hid hjd
        have HJM := Lib.hid hjm
        clear hg hZ hj hjd hjm
        go_wp2_with (first
          | ((with_reducible show wpList _ _ _ (⟨some 46, _, _, _, _, _⟩ :: _) _ _); go_must (refine wl_ex rfl (exec_loadClaim14 _ rfl _ _ Z HZC.out rfl HZA.out) ?_))
          | ((with_reducible show wpList _ _ _ (⟨_, Op.store _ (.tmp 4) _, _, _, _, _⟩ :: _) _ _); go_must (refine store_blk (vs := claimL Z) (HZ4.out.below HB.out) (size14 Z HZC.out) (by rw [claimL_len HZC.out.1 HZC.out.2]; exact HZL.out) (claimL_one _) rfl _ _ rfl rfl rfl ?_); intro W4 hk4 hg4))
        refine bodyPost_ret (results_blk2 (run_loadClaim14 HZC.out hk4.range) rfl _ rfl) rfl ?_
        refine ⟨Z, true, rfl, HZO.out, .inl ⟨rfl, ⟨by rw [HZE.out]; exact gd_mem (by rw [HL.out]; exact HJ.out), fun y hy e => ?_⟩, by rw [HZE.out]; exact HJD.out⟩, ?_⟩
        · obtain ⟨k, hk, rfl⟩ := List.mem_iff_getElem.1 hy
          have e2 : gd L k = L[k] := by unfold gd; simp [hk]
          rw [HZE.out, HJD.out] at e
          have := HJM.out k (by rw [← HL.out]; exact hk) (by rw [e2]; exact e)
          rw [e2, ← HZE.out] at this
          exact this
        · exact HBw.out.grown hg4 HBw.out.size (fun q hq => by cases hq; exact HG4.out)
#print axioms refLast_any
end Go.Proofs.YtipoielcmaegaaaGreatDoor

namespace Go.Proofs.YtipoielcmaegaaaGreatDoor
open Go.RowKit Go.Maps

set_option maxRecDepth 100000 in
set_option maxHeartbeats 2000000 in
theorem refFind_of (a : Option Addr) (n c : Nat) (L : List ClaimV) (s : ByteArray) (w : World) (hn : n ≤ 60) (hLn : L.length = n)
    (hP : ∀ W, Below w.heap.size w W → Calls Tryz.prog 11 #[.slice a n c] W (PathsIs L W)) :
    Calls Tryz.prog 15 #[.slice a n c, .string s] w (FoundIs L s.data.toList w) := by
  have HPC := Lib.hid hP
  have HM := Lib.hid hn
  have HL := Lib.hid hLn
  clear hn hLn hP
  go_enter Tryz.func15, Tryz.ntmps15
  go_wp2_with (go_at_call 11; go_must (refine (HPC.out _ ((Below.refl w.heap.size w).alloc (Nat.le_refl _) _)).mono ?_); rintro e w1 ⟨S, P, a1, c1, rfl, hsh, hp, hat, hb1⟩; have HS := Lib.hid hsh; have HP := Lib.hid hp; have HA := Lib.hid hat; obtain ⟨us, hul, hbk, hbl⟩ := alloc_split (k := 34) rfl hb1; have HBK := Lib.hid hbk; have HB1 := Lib.hid hbl; have HZL := Lib.hid hul; clear hsh hp hat hb1 hbk hbl hul)
  clear HPC
  obtain ⟨m, hm⟩ : ∃ m, S.length = m := ⟨_, rfl⟩
  rw [hm] at HA ⊢
  have HSL := Lib.hid hm
  have hmI : (m : Int) ≤ 60 := by have := HS.out.length; have := HL.out; have := HM.out; omega
  clear hm
  go_loopg [7] m (fun g v7 W => ∃ (i : Nat), v7 = .int .i64 i ∧ g + i = m ∧ Hid (Below w1.heap.size w1 W) ∧ Hid (∀ j, j < i → P.getD j default ≠ s.data.toList))
  case atStart => exact ⟨0, rfl, rfl, Lib.hid (Below.refl _ _), Lib.hid (fun j h => by omega)⟩
  case round =>
    obtain ⟨i, rfl, hg, HB, HN⟩ := hrel
    have HG := Lib.hid hg
    have hi0 : (0 : Int) ≤ (i : Int) := by omega
    have hiI : (i : Int) ≤ (m : Int) := by omega
    by_cases hi : (i : Int) < (m : Int)
    · have him : i < m := by omega
      have HI := Lib.hid him
      obtain ⟨b, o, rfl⟩ := HA.out.some_ (by omega)
      obtain ⟨X, hX⟩ : ∃ X, X = gd (zipN S P) i := ⟨_, rfl⟩
      have HX : Hid (X.1.c.length = 32) := Lib.hid (hX ▸ HA.out.ok him)
      have hXE : X = ((S.getD i default).doc, P.getD i default) := by rw [hX]; exact zipN_at HP.out (by rw [HSL.out]; exact him)
      have HXE := Lib.hid hXE
      obtain ⟨p, hp⟩ : ∃ p, strB X.2 = p := ⟨_, rfl⟩
      have HXR : Hid (wr.rangeAt b (o + i * 35) (keyL X.1)) := Lib.hid (hX ▸ nm_doc (HA.out.below HB.out) him)
      have hcp : wr.cell? ⟨b, o + i * 35 + 34, none⟩ = some (.string p) := hp ▸ hX ▸ nm_path (HA.out.below HB.out) him
      have hpq : (p.toList == s.toList) = decide (P.getD i default = s.data.toList) := by
        rw [← hp, str_eq, hXE]
      by_cases he : P.getD i default = s.data.toList
      · have d1 : (p.toList == s.toList) = true := by rw [hpq]; exact decide_eq_true he
        have HE := Lib.hid he
        clear hg hX hXE hp hpq he
        go_wp2_with (first
          | ((with_reducible show wpList _ _ _ (⟨some 27, _, _, _, _, _⟩ :: _) _ _); go_must (refine wl_ex rfl (exec_loadKey _ rfl _ _ X.1 HX.out rfl HXR.out) ?_))
          | ((with_reducible show wpList _ _ _ (⟨_, Op.store _ (.tmp 4) _, _, _, _, _⟩ :: _) _ _); go_must (refine store_blk (vs := keyL X.1) (HBK.out.below HB.out) (by rw [keyL_length HX.out]; exact info34) (by rw [keyL_length HX.out]; exact HZL.out) (keyL_one _) rfl _ _ rfl rfl rfl ?_); intro W4 hk4 hg4))
        refine bodyPost_ret (results_blk2 (run_loadKey HX.out hk4.range) rfl _ rfl) rfl ?_
        refine ⟨S, P, X.1, true, rfl, HS.out, HP.out, HX.out, .inl ⟨rfl, i, by rw [HSL.out]; exact HI.out, HE.out, by rw [HXE.out]⟩, ?_⟩
        exact (HB1.out.trans (HB.out.mono HB1.out.size)).grown hg4 (HB1.out.trans (HB.out.mono HB1.out.size)).size (fun q hq => by cases hq; exact Nat.le_refl _)
      · have d1 : (p.toList == s.toList) = false := by rw [hpq]; exact decide_eq_false he
        have HE := Lib.hid he
        clear hg hX hXE hp hpq he
        go_wp2
        go_roundg (m - (i + 1))
        case measure => have := HG.out; have := HI.out; omega
        case rel => exact ⟨i + 1, by go_num, by have := HI.out; omega, HB, Lib.hid (fun j hj => by
          rcases Nat.lt_or_ge j i with h1 | h1
          · exact HN.out j h1
          · obtain rfl : j = i := by omega
            exact HE.out)⟩
    · have him : i = m := by omega
      subst him
      clear hg
      go_wp2_with (first
        | ((with_reducible show wpList _ _ _ (⟨some 28, _, _, _, _, _⟩ :: _) _ _); go_must (refine wl_ex rfl (exec_zeroKey rfl) ?_))
        | ((with_reducible show wpList _ _ _ (⟨_, Op.store _ (.tmp 4) _, _, _, _, _⟩ :: _) _ _); go_must (refine store_blk (vs := keyL zeroK) (HBK.out.below HB.out) (by rw [keyL_length (k := zeroK) rfl]; exact info34) (by rw [keyL_length (k := zeroK) rfl]; exact HZL.out) (keyL_one _) rfl _ _ rfl rfl rfl ?_); intro W4 hk4 hg4))
      refine bodyPost_ret (results_blk2 (run_loadKey (k := zeroK) rfl hk4.range) rfl _ rfl) rfl ?_
      refine ⟨S, P, zeroK, false, rfl, HS.out, HP.out, rfl, .inr ⟨rfl, rfl, by rw [HSL.out]; exact HN.out⟩, ?_⟩
      exact (HB1.out.trans (HB.out.mono HB1.out.size)).grown hg4 (HB1.out.trans (HB.out.mono HB1.out.size)).size (fun q hq => by cases hq; exact Nat.le_refl _)
#print axioms refFind_of
end Go.Proofs.YtipoielcmaegaaaGreatDoor

namespace Go.Proofs.YtipoielcmaegaaaGreatDoor

/-- The document at the i-th of these places. -/
def docAt (L : List ClaimV) (o : List Nat) (i : Nat) : KeyV := (gd L (o.getD i 0)).doc
/-- What is told of the first i places. -/
structure PathSt (L : List ClaimV) (o : List Nat) (i : Nat) (S : List ClaimV) : Prop where
  sorted : S.Pairwise fun a b => keyF a.doc b.doc < 0
  mem : ∀ c, c ∈ S ↔ (IsLast L c ∧ c.kind ≠ 5 ∧ ∃ k, k < i ∧ docAt L o k = c.doc)
section
variable {L S : List ClaimV} {o : List Nat} {i n : Nat} {X : ClaimV}
theorem PathSt.start : PathSt L o 0 [] := ⟨List.Pairwise.nil, fun c => ⟨(fun h => by cases h), (fun ⟨_, _, k, hk, _⟩ => absurd hk (Nat.not_lt_zero _))⟩⟩
theorem PathSt.dup (h : PathSt L o i S) (hi : 0 < i) (e : docAt L o (i - 1) = docAt L o i) : PathSt L o (i + 1) S := by
  refine ⟨h.sorted, fun c => ?_⟩
  rw [h.mem]
  constructor
  · rintro ⟨h1, h2, k, hk, h3⟩; exact ⟨h1, h2, k, by omega, h3⟩
  · rintro ⟨h1, h2, k, hk, h3⟩
    rcases Nat.lt_or_ge k i with h4 | h4
    · exact ⟨h1, h2, k, h4, h3⟩
    · obtain rfl : k = i := by omega
      exact ⟨h1, h2, k - 1, by omega, e.trans h3⟩
theorem PathSt.gone (hR : RightR L) (h : PathSt L o i S) (hX : IsLast L X) (hd : X.doc = docAt L o i) (h5 : X.kind = 5) : PathSt L o (i + 1) S := by
  refine ⟨h.sorted, fun c => ?_⟩
  rw [h.mem]
  constructor
  · rintro ⟨h1, h2, k, hk, h3⟩; exact ⟨h1, h2, k, by omega, h3⟩
  · rintro ⟨h1, h2, k, hk, h3⟩
    rcases Nat.lt_or_ge k i with h4 | h4
    · exact ⟨h1, h2, k, h4, h3⟩
    · obtain rfl : k = i := by omega
      obtain rfl := h1.uniq hR hX (h3.symm.trans hd.symm)
      exact absurd h5 h2
theorem PathSt.add (hR : RightR L) (h : PathSt L o i S) (hX : IsLast L X) (hd : X.doc = docAt L o i) (h5 : X.kind ≠ 5) (hn : ∀ k, k < i → keyF (docAt L o k) (docAt L o i) < 0) : PathSt L o (i + 1) (S ++ [X]) := by
  refine ⟨List.pairwise_append.2 ⟨h.sorted, List.pairwise_singleton _ _, fun a ha b hb => ?_⟩, fun c => ?_⟩
  · simp only [List.mem_singleton] at hb
    subst hb
    obtain ⟨_, _, k, hk, e⟩ := (h.mem a).1 ha
    rw [← e, hd]
    exact hn k hk
  · rw [List.mem_append, List.mem_singleton, h.mem]
    constructor
    · rintro (⟨h1, h2, k, hk, h3⟩ | rfl)
      · exact ⟨h1, h2, k, by omega, h3⟩
      · exact ⟨hX, h5, i, by omega, hd.symm⟩
    · rintro ⟨h1, h2, k, hk, h3⟩
      rcases Nat.lt_or_ge k i with h4 | h4
      · exact .inl ⟨h1, h2, k, h4, h3⟩
      · obtain rfl : k = i := by omega
        exact .inr (h1.uniq hR hX (h3.symm.trans hd.symm))
theorem place_lt (ho : o.Perm (List.range n)) (hi : i < n) : o.getD i 0 < n := by
  have hl : o.length = n := by rw [ho.length_eq, List.length_range]
  have : o.getD i 0 = o[i] := by simp [hl, hi]
  rw [this]
  exact List.mem_range.1 (ho.mem_iff.1 (List.getElem_mem _))
theorem PathSt.shown (hR : RightR L) (h : PathSt L o n S) (ho : o.Perm (List.range n)) (hn : L.length = n) : Shown L S := by
  refine .inl ⟨hR, h.sorted, fun c => ?_⟩
  rw [h.mem]
  constructor
  · rintro ⟨h1, h2, _⟩; exact ⟨h1, h2⟩
  · rintro ⟨h1, h2⟩
    refine ⟨h1, h2, ?_⟩
    obtain ⟨j, hj, rfl⟩ := List.mem_iff_getElem.1 h1.1
    have hm : j ∈ o := ho.mem_iff.2 (List.mem_range.2 (by omega))
    obtain ⟨k, hk, e⟩ := List.mem_iff_getElem.1 hm
    have hl : o.length = n := by rw [ho.length_eq, List.length_range]
    refine ⟨k, by omega, ?_⟩
    unfold docAt
    rw [show o.getD k 0 = j from by simp [hk, e]]
    unfold gd
    simp [hj]
theorem doc_here (ho : o.Perm (List.range n)) (hn : L.length = n) (hi : i < n) : ∃ X, IsLast L X ∧ X.doc = docAt L o i := last_exists (gd_mem (by rw [hn]; exact place_lt ho hi))
theorem doc_le (hu : UpG (plB (L.map (·.doc))) o) (ho : o.Perm (List.range n)) (hn : L.length = n) {k : Nat} (hk : k < i) (hi : i < n) : keyF (docAt L o k) (docAt L o i) ≤ 0 := by
  have hl : o.length = n := by rw [ho.length_eq, List.length_range]
  have h := List.pairwise_iff_getElem.1 hu k i (by omega) (by omega) hk
  have kof : ∀ x, x < n → kOf (L.map (·.doc)) x = (gd L x).doc := fun x hx => by
    unfold kOf gd
    simp [hn, hx]
  have e1 : o.getD k 0 = o[k] := by simp [hl, show k < n by omega]
  have e2 : o.getD i 0 = o[i] := by simp [hl, hi]
  have l1 := place_lt ho (show k < n by omega)
  have l2 := place_lt ho hi
  unfold docAt
  rw [← kof _ l1, ← kof _ l2, e1, e2]
  unfold plB at h
  simp only [Bool.or_eq_true, Bool.and_eq_true, decide_eq_true_eq] at h
  omega
theorem doc_new (hu : UpG (plB (L.map (·.doc))) o) (ho : o.Perm (List.range n)) (hn : L.length = n) (hi : i < n) (h : 0 < i → docAt L o (i - 1) ≠ docAt L o i) : ∀ k, k < i → keyF (docAt L o k) (docAt L o i) < 0 := fun k hk => by
  have h1 := doc_le hu ho hn (show i - 1 < i by omega) hi
  have h2 : keyF (docAt L o (i - 1)) (docAt L o i) < 0 := by
    have : keyF (docAt L o (i - 1)) (docAt L o i) ≠ 0 := fun e => h (by omega) (keyF_eq e)
    omega
  rcases Nat.lt_or_ge k (i - 1) with h3 | h3
  · exact keyF_le_lt (doc_le hu ho hn h3 (by omega)) h2
  · obtain rfl : k = i - 1 := by omega
    exact h2
end
/-- Paths told one behind the other. -/
theorem pathsTo_snoc {S : List ClaimV} {P : List (List UInt8)} {X : ClaimV} {r : List UInt8} (h : PathsTo S P) (hr : FreshR X.path P r) : PathsTo (S ++ [X]) (P ++ [r]) := by
  refine ⟨by simp [h.1], fun i hi => ?_⟩
  rcases Nat.lt_or_ge i S.length with h1 | h1
  · have h2 := h.2 i h1
    have hp : i < P.length := by rw [h.1]; exact h1
    rw [List.getD_eq_getElem?_getD, List.getElem?_append_left h1, ← List.getD_eq_getElem?_getD, List.getD_eq_getElem?_getD (l := P ++ [r]), List.getElem?_append_left hp, ← List.getD_eq_getElem?_getD, List.take_append_of_le_length (by omega)]
    exact h2
  · obtain rfl : i = S.length := by simp at hi; omega
    have hp : P.length = S.length := h.1
    rw [show (S ++ [X]).getD S.length default = X from by simp, show (P ++ [r]).getD S.length default = r from by rw [← hp]; simp, show (P ++ [r]).take S.length = P from by rw [← hp]; simp]
    exact hr
theorem zipN_add {S : List ClaimV} {P : List (List UInt8)} {X : ClaimV} {r : List UInt8} (h : PathsTo S P) : zipN (S ++ [X]) (P ++ [r]) = zipN S P ++ [(X.doc, r)] := by
  unfold zipN
  rw [List.zipWith_append h.1.symm]
  rfl
#print axioms pathsTo_snoc
end Go.Proofs.YtipoielcmaegaaaGreatDoor

namespace Go.Proofs.YtipoielcmaegaaaGreatDoor
open Go.RowKit Go.Maps

/-- Keys, as elements of a slice. -/
def kK : Kind KeyV := ⟨keyL, 34, fun k => k.c.length = 32, by decide, fun x hx => keyL_length hx, fun x _ => keyL_one x⟩
theorem infoK : (Tryz.prog.info? 35).map (fun i => (i.zero, i.size, i.bytes)) = some (some (.agg (keyC zeroK)), 34, 48) := by kernel_rfl
theorem sizeKZ : (Value.agg (keyC zeroK)).cells.size = kK.k := by kernel_rfl
theorem fill_key (x : KeyV) (hx : x.c.length = 32) (z : Value) (hz : z = .agg (keyC zeroK)) : Instr.fill (fun i => some (i * 34, 34)) ((Array.range (1 * 34)).map (z.cells[· % z.cells.size]!)) [(0, .agg (keyC x))] = some (keyC x) := by
  subst hz
  obtain ⟨t, c, i⟩ := x
  obtain ⟨b0, b1, b2, b3, b4, b5, b6, b7, b8, b9, b10, b11, b12, b13, b14, b15, b16, b17, b18, b19, b20, b21, b22, b23, b24, b25, b26, b27, b28, b29, b30, b31, rfl⟩ := list32 hx
  kernel_rfl
/-- A slice literal of one key. -/
theorem sl_key {ops : Array Oper} {rest : List Oper} {o : Oper} {a : Act} {w : World} {Q : Exit → Act → World → Prop} (hg : o.guard = none) (x : Operand) (ho : o.op = .buildSlice 56 1 #[(0, x)]) (X : KeyV) (hX : X.c.length = 32) (hx : a.eval x = .agg (keyC X))
    (h : wpList Tryz.prog ops Q rest (a.put o.dst (.slice (some ⟨w.heap.size, 0, none⟩) 1 1)) (w.alloc (.cells (keyC X) 35))) : wpList Tryz.prog ops Q (o :: rest) a w :=
  wpList_plain hg fun _ hK => by
    obtain ⟨i0, hi, hz0, hz1, hz2⟩ := info_parts infoK
    refine wp_buildSlice 56 35 1 #[(0, x)] ho (keyC X) i0 _ Tryz.underlying56 hi hz0 (by rw [hz1]; decide) (by rw [hz1]; decide) ?_ (hK _ _ h)
    rw [hz1]
    have e : (#[(0, x)].map fun (p : Nat × Operand) => (p.1, a.eval p.2)).toList = [(0, .agg (keyC X))] := by simp [hx]
    exact (congrArg (Instr.fill (fun i => some (i * 34, 34)) _) e).trans (fill_key X hX _ rfl)
theorem one_key (w : World) (x : KeyV) (hx : x.c.length = 32) : AtG kK (w.alloc (.cells (keyC x) 35)) (some ⟨w.heap.size, 0, none⟩) 1 1 [x] := oneG w x hx 35 _ rfl
theorem keysAt_of {w : World} {a : Option Addr} {n c : Nat} {K : List KeyV} (h : AtG kK w a n c K) : KeysAt w a n c K := by
  refine ⟨h.1, h.2.1, h.2.2.1, h.2.2.2.1, ?_⟩
  rcases h.2.2.2.2 with h4 | ⟨b, off, ha, hc⟩
  · exact .inl h4
  · refine .inr ⟨b, off, ha, fun j hj => ?_⟩
    have := hc j hj
    have e : kOf K j = gd K j := by unfold kOf gd; simp [h.1, hj]
    rw [e]
    exact this

#print axioms keysAt_of
end Go.Proofs.YtipoielcmaegaaaGreatDoor

namespace Go.Proofs.YtipoielcmaegaaaGreatDoor
open Go.RowKit Go.Maps

abbrev NE14 : TypeId := 38
theorem infoNm14 : (Tryz.prog.info? NE14).map (fun i => (i.zero, i.size, i.bytes)) = some (some (.agg (nmC default)), 35, 64) := by kernel_rfl
theorem built_named14 (k : KeyV) (hk : k.c.length = 32) (p : List UInt8) : Tryz.prog.built NE14 [(0, .agg (keyC k)), (1, .string (strB p))] = some (nmC (k, p)) := by
  obtain ⟨t, c, i⟩ := k
  obtain ⟨b0, b1, b2, b3, b4, b5, b6, b7, b8, b9, b10, b11, b12, b13, b14, b15, b16, b17, b18, b19, b20, b21, b22, b23, b24, b25, b26, b27, b28, b29, b30, b31, rfl⟩ := list32 hk
  kernel_rfl
theorem exec_named14 {w : World} {o : Oper} {a : Act} (x0 x1 : Operand) (ho : o.op = .build NE14 #[(0, x0), (1, x1)]) (k : KeyV) (hk : k.c.length = 32) (p : List UInt8) (s : ByteArray) (hs : s = strB p)
    (h0 : a.eval x0 = .agg (keyC k)) (h1 : a.eval x1 = .string s) : (execOp a.eval o).run Tryz.prog w = .ok (.value (.agg (nmC (k, p)))) w := by
  subst hs
  refine exec_build _ _ ho _ ?_
  have e : (#[(0, x0), (1, x1)].map fun (q : Nat × Operand) => (q.1, a.eval q.2)).toList = [(0, .agg (keyC k)), (1, .string (strB p))] := by simp [h0, h1]
  exact (congrArg _ e).trans (built_named14 k hk p)
theorem sl_named14 {ops : Array Oper} {rest : List Oper} {o : Oper} {a : Act} {w : World} {Q : Exit → Act → World → Prop} (hg : o.guard = none) (x : Operand) (ho : o.op = .buildSlice 30 1 #[(0, x)]) (X : NamedV) (hX : X.1.c.length = 32) (hx : a.eval x = .agg (nmC X))
    (h : wpList Tryz.prog ops Q rest (a.put o.dst (.slice (some ⟨w.heap.size, 0, none⟩) 1 1)) (w.alloc (.cells (nmC X) NE14))) : wpList Tryz.prog ops Q (o :: rest) a w :=
  wpList_plain hg fun _ hK => by
    obtain ⟨i0, hi, hz0, hz1, hz2⟩ := info_parts infoNm14
    refine wp_buildSlice 30 NE14 1 #[(0, x)] ho (nmC X) i0 _ Tryz.underlying30 hi hz0 (by rw [hz1]; decide) (by rw [hz1]; decide) ?_ (hK _ _ h)
    rw [hz1]
    have e : (#[(0, x)].map fun (p : Nat × Operand) => (p.1, a.eval p.2)).toList = [(0, .agg (nmC X))] := by simp [hx]
    exact (congrArg (Instr.fill (fun i => some (i * 35, 35)) _) e).trans (fill_named X hX _ rfl)
theorem one_named14 (w : World) (x : NamedV) (hx : x.1.c.length = 32) : AtG nmK (w.alloc (.cells (nmC x) NE14)) (some ⟨w.heap.size, 0, none⟩) 1 1 [x] := oneG w x hx NE14 _ rfl
theorem store_key {w : World} {cs : Array Value} (hcs : cs.size = 34) {ops : Array Oper} {rest : List Oper} {o : Oper} {a : Act} {Q : Exit → Act → World → Prop} (hgd : o.guard = none) (x y : Operand) (ho : o.op = .store 35 x y) (X : KeyV) (hX : X.c.length = 32)
    (hx : a.eval x = .pointer (some ⟨w.heap.size, 0, none⟩)) (hy : a.eval y = .agg (keyC X))
    (h : ∀ W, BlkAt 35 W w.heap.size (keyL X) → Below w.heap.size w W → W.heap.size = w.heap.size + 1 → wpList Tryz.prog ops Q rest (a.put o.dst undef) W) : wpList Tryz.prog ops Q (o :: rest) a (w.alloc (.cells cs 35)) :=
  store_newV (vs := keyL X) (by rw [keyL_length hX]; exact info34) (keyL_one X) (by rw [keyL_length hX, hcs]) hgd x y ho hx hy (fun W h1 h2 h3 => h W h1 h2 h3)
theorem gd_doc (L : List ClaimV) {x : Nat} (h : x < L.length) : gd (L.map (·.doc)) x = (gd L x).doc := by unfold gd; simp [h]
theorem docs_len {L : List ClaimV} {n : Nat} (h : L.length = n) : (L.map (·.doc)).length = n := by rw [List.length_map, h]

theorem lit_r (W : World) {r : List UInt8} {q : ByteArray} (hq : strB r = q) : At1 St (W.alloc (.cells #[.string q] 9)) (some ⟨W.heap.size, 0, none⟩) 1 1 [r] := by
  have := lit_one W q 9
  rw [← hq, strB_list] at this
  rw [← hq]; exact this
theorem fresh_of {s r : List UInt8} {P : List (List UInt8)} {p : ByteArray} (hp : strB s = p) (h : FreshR p.data.toList P r) : FreshR s P r := by
  rw [← hp, strB_list] at h; exact h
theorem last_here {L : List ClaimV} {D : KeyV} {X Y : ClaimV} {q : Bool} (hR : RightR L) (hX : IsLast L X) (hD : X.doc = D) (h : (q = true ∧ IsLast L Y ∧ Y.doc = D) ∨ (q = false ∧ Y = default ∧ ∀ c ∈ L, c.doc ≠ D)) : q = true ∧ X = Y := by
  rcases h with ⟨h1, h2, h3⟩ | ⟨_, _, h⟩
  · exact ⟨h1, hX.uniq hR h2 (hD.trans h3.symm)⟩
  · exact absurd hD (h X hX.1)
theorem Shown_path {L S : List ClaimV} {o : List Nat} {i : Nat} (h : PathSt L o i S) {c : ClaimV} (hc : c ∈ S) (hR : RightR L) : c.path.length ≤ 64 := by
  obtain ⟨h1, h3, _⟩ := (h.mem c).1 hc
  have h4 := hR.1 c h1.1
  unfold claimOk at h4
  simp only [Bool.or_eq_true, Bool.and_eq_true, beq_iff_eq] at h4
  rcases h4 with ⟨_, h5⟩ | ⟨h5, _⟩
  · unfold pathF at h5
    simp only [Bool.and_eq_true, decide_eq_true_eq] at h5
    omega
  · exact absurd h5 h3
theorem blk_ne {w : World} {base g : Nat} {vs : List Value} {v : Value} {n : Nat} {xs : List Value} (h : BlkAt 35 w g vs) (h' : w.ownsRow base 9 1 v n xs) : some g ≠ v.ownBlock := by
  obtain ⟨_, h2'⟩ := h'
  intro e
  rcases h2' with ⟨rfl, _⟩ | ⟨g', cap', cur', rfl, _, hg', _⟩
  · simp [Value.ownBlock] at e
  · simp only [Value.ownBlock, Option.some.injEq] at e
    subst e
    unfold BlkAt at h
    rw [h] at hg'
    simp only [Option.some.injEq, Obj.cells.injEq] at hg'
    exact absurd hg'.2.1 (by decide)
set_option maxRecDepth 100000 in
set_option maxHeartbeats 3000000 in
theorem refPaths_any (a : Option Addr) (n c : Nat) (L : List ClaimV) (w : World) (h : AtG clK w a n c L) (hn : n ≤ 60) (hR : RightR L) (hl : ∀ c ∈ L, c.path.length ≤ 100000) :
    Calls Tryz.prog 11 #[.slice a n c] w (PathsIs L w) := by
  have HL := Lib.hid h.1
  have HN := Lib.hid h
  have HM := Lib.hid hn
  have HRR := Lib.hid hR
  have HLL := Lib.hid hl
  have hnI : (n : Int) ≤ 60 := by omega
  have HNE := Lib.hid (show 9 ≠ NE14 by decide)
  have HNE2 := Lib.hid (show NE14 ≠ 9 by decide)
  clear h hn hR hl
  go_enter Tryz.func11, Tryz.ntmps11
  go_wp2
  go_loopg [3, 4] n (fun g v3 v4 W => ∃ (i : Nat) (a3 : Option Addr) (c3 : Nat), v4 = .int .i64 i ∧ g + i = n ∧ v3 = .slice a3 i c3 ∧ Hid (Below w.heap.size w W) ∧ Hid (OwnG kK 35 W w.heap.size (.slice a3 i c3) ((L.take i).map (·.doc))))
  case atStart => exact ⟨0, none, 0, rfl, rfl, rfl, Lib.hid (Below.refl _ _), Lib.hid (by rw [List.take_zero]; exact OwnG.nil)⟩
  case round =>
    obtain ⟨i, a3, c3, rfl, hg, rfl, HB, HO⟩ := hrel
    have HG := Lib.hid hg
    have hi0 : (0 : Int) ≤ (i : Int) := by omega
    have hiI : (i : Int) ≤ (n : Int) := by omega
    by_cases hi : (i : Int) < (n : Int)
    · have hin : i < n := by omega
      have HI := Lib.hid hin
      obtain ⟨b, o, rfl⟩ := HN.out.some_ (by omega)
      obtain ⟨X, hX⟩ : ∃ X, X = gd L i := ⟨_, rfl⟩
      have HXC : Hid (X.doc.c.length = 32) := Lib.hid (hX ▸ (HN.out.ok hin).2.1)
      have HXD : Hid (wr.rangeAt b (o + i * 70 + 34) (keyL X.doc)) := Lib.hid (hX ▸ cl_doc (HN.out.below HB.out) hin)
      have HTK : Hid ((L.take (i + 1)).map (·.doc) = (L.take i).map (·.doc) ++ [X.doc]) := Lib.hid (by rw [gd_take (by rw [HL.out]; exact hin), List.map_append, hX]; rfl)
      have hlen : ((L.take i).map (·.doc)).length = i := by rw [List.length_map, List.length_take, HL.out]; omega
      have HH1 : Hid ((((L.take i).map (·.doc)).length + 1) * (48 + 1) ≤ 140737488355328) := Lib.hid (by rw [hlen]; omega)
      have HR1 : Hid (i + 1 = ((L.take i).map (·.doc)).length + 1) := Lib.hid (by rw [hlen])
      have HB6 := Lib.hid (HB.out.alloc HB.out.size (.cells (keyC X.doc) 35))
      have HO6 := Lib.hid (HO.out.alloc (.cells (keyC X.doc) 35))
      have HA6 := Lib.hid (one_key wr X.doc HXC.out)
      have HS6 := Lib.hid HB6.out.size
      generalize (L.take i).map (·.doc) = D at HTK HH1 HR1 HO6
      clear hg hX hin hlen
      go_wp2_with (first
        | ((with_reducible show wpList _ _ _ (⟨some 24, _, _, _, _, _⟩ :: _) _ _); go_must (refine wl_ex rfl (exec_loadKey _ rfl _ _ X.doc HXC.out rfl HXD.out) ?_))
        | ((with_reducible show wpList _ _ _ (⟨some 25, _, _, _, _, _⟩ :: _) _ _); go_must (refine sl_key rfl _ rfl X.doc HXC.out rfl ?_); simp only [Act.put, List.setIfInBounds_toArray, List.set_cons_zero, List.set_cons_succ])
        | ((with_reducible show wpList _ _ _ (⟨some 26, _, _, _, _, _⟩ :: _) _ _); go_must (refine appG kK Tryz.underlying56 infoK sizeKZ rfl _ _ rfl w.heap.size _ D rfl HO6.out _ 1 1 [X.doc] rfl HA6.out HH1.out HS6.out (i + 1) HR1.out ?_); intro a7 c7 W7 ho7 hg7; have HB7 := Lib.hid (HB6.out.grown hg7 HB6.out.size (fun k hk => (HO6.out.lt k hk).1)); have HO7 := Lib.hid ho7; clear ho7 hg7))
      go_roundg (n - (i + 1))
      case measure => have := HG.out; have := HI.out; omega
      case rel => exact ⟨i + 1, a7, c7, by go_num, by have := HI.out; omega, rfl, HB7, Lib.hid (by rw [HTK.out]; exact HO7.out)⟩
    · have hin : n = i := by omega
      subst hin
      have ho := HO.out
      rw [List.take_of_length_le (by rw [HL.out]; exact Nat.le_refl _)] at ho
      have HD := Lib.hid ho.atG
      have HSK := Lib.hid (Pl.refKeysSort_any a3 n c3 (L.map (·.doc)) wr (keysAt_of HD.out) (by omega))
      clear hg ho HO
      go_wp2_with (go_at_call 20; go_must (refine HSK.out.mono ?_); rintro e w2 ⟨a5, c5, ord, rfl, ho5, hperm, hup, hb5⟩; have HO5 := Lib.hid ho5.at1; have HPM := Lib.hid hperm; have HUP := Lib.hid hup; have HB2 := Lib.hid (HB.out.trans (hb5.mono HB.out.size)); have HD2 := Lib.hid (HD.out.below hb5); clear ho5 hperm hup hb5)
      clear HSK
      have HB0 := Lib.hid (Below.refl w2.heap.size w2)
      go_loopg [6, 7, 8] n (fun g v6 v7 v8 W => ∃ (i m : Nat) (S : List ClaimV) (P : List (List UInt8)) (a6 : Option Addr) (c6 : Nat) (a7 : Option Addr) (c7 : Nat), v8 = .int .i64 i ∧ g + i = n ∧ v6 = .slice a6 m c6 ∧ v7 = .slice a7 m c7 ∧ Hid (S.length = m) ∧ Hid (m ≤ i) ∧ Hid (Below w2.heap.size w2 W) ∧ Hid (PathSt L ord i S) ∧ Hid (PathsTo S P) ∧ Hid (OwnG nmK NE14 W w2.heap.size (.slice a6 m c6) (zipN S P)) ∧ Hid (Own1 St 9 W w2.heap.size (.slice a7 m c7) P))
      case atStart => exact ⟨0, 0, [], [], none, 0, none, 0, rfl, rfl, rfl, rfl, Lib.hid rfl, Lib.hid (Nat.le_refl _), HB0, Lib.hid PathSt.start, Lib.hid pathsTo_nil, Lib.hid OwnG.nil, Lib.hid Own1.nil⟩
      case round =>
        obtain ⟨i, m, S, P, a6, c6, a7, c7, rfl, hg, rfl, rfl, HSm, HMI, HB, HST, HPT, HO, HW⟩ := hrel
        have HG := Lib.hid hg
        have hi0 : (0 : Int) ≤ (i : Int) := by omega
        have hiI : (i : Int) ≤ (n : Int) := by omega
        by_cases hi : (i : Int) < (n : Int)
        · have hin : i < n := by omega
          have HI := Lib.hid hin
          obtain ⟨b3, o3, rfl⟩ := HD2.out.some_ (by omega)
          obtain ⟨b5, o5, rfl⟩ := HO5.out.some_ (by omega)
          obtain ⟨x, hx⟩ : ∃ x, ord.getD i 0 = x := ⟨_, rfl⟩
          have hxn : x < n := by rw [← hx]; exact place_lt HPM.out hin
          have hcx : wr.cell? ⟨b5, o5 + i, none⟩ = some (.int .i64 (x : Int)) := by rw [← hx]; exact (HO5.out.below HB.out).cell i hin
          obtain ⟨D, hD⟩ : ∃ D, D = docAt L ord i := ⟨_, rfl⟩
          have hDx : gd (L.map (·.doc)) x = D := by rw [gd_doc L (by rw [HL.out]; exact hxn), hD, ← hx]; rfl
          have HDC : Hid (D.c.length = 32) := Lib.hid (hDx ▸ HD2.out.ok hxn)
          have HDR : Hid (wr.rangeAt b3 (o3 + x * 34) (keyL D)) := Lib.hid (hDx ▸ (HD2.out.below HB.out).at_ x hxn)
          have HDE := Lib.hid hD
          obtain ⟨X, hXL, hXD⟩ : ∃ X, IsLast L X ∧ X.doc = D := by rw [hD]; exact doc_here HPM.out HL.out hin
          have HXO : Hid (ClOk X) := Lib.hid (HN.out.2.2.2.1 X hXL.1)
          have HXC : Hid (X.key.c.length = 32 ∧ X.doc.c.length = 32) := Lib.hid ⟨HXO.out.1, HXO.out.2.1⟩
          have HXL := Lib.hid hXL
          have HXD := Lib.hid hXD
          obtain ⟨ki, hki⟩ : ∃ ki : Int, (X.kind : Int) = ki := ⟨_, rfl⟩
          have HKI := Lib.hid hki
          obtain ⟨p, hp⟩ : ∃ p, strB X.path = p := ⟨_, rfl⟩
          have HPE := Lib.hid hp
          have HCK := Lib.hid (fun W g (h : BlkAt E14 W g (claimL X)) => (hki ▸ blk_kind HXO.out h : W.cell? ⟨g, 68, none⟩ = some (.int .u8 ki)))
          have HCP := Lib.hid (fun W g (h : BlkAt E14 W g (claimL X)) => (hp ▸ blk_path HXO.out h : W.cell? ⟨g, 69, none⟩ = some (.string p)))
          have hx0 : (0 : Int) ≤ (x : Int) := by omega
          have hxI : (x : Int) < (n : Int) := by omega
          have HLA := Lib.hid (fun W (hW : Below w2.heap.size w2 W) => refLast_any a n c L D HDC.out W (HN.out.below (HB2.out.trans (hW.mono HB2.out.size))) (by have := HM.out; omega))
          clear hg hx hD hDx hxn hin hXL hXD hki hp
          go_wp2_with (first
            | ((with_reducible show wpList _ _ _ (⟨some 41, _, _, _, _, _⟩ :: _) _ _); go_must (refine wl_ex rfl (exec_loadKey _ rfl _ _ D HDC.out rfl HDR.out) ?_))
            | ((with_reducible show wpList _ _ _ (⟨_, Op.store _ (.tmp 9) _, _, _, _, _⟩ :: _) _ _); go_must (refine store_key rfl rfl _ _ rfl D HDC.out rfl rfl ?_); intro W3 hk3 hb3 hs3; have HBc := Lib.hid (HB.out.trans (hb3.mono HB.out.size)); have HKc := Lib.hid hk3; have HOc := Lib.hid (HO.out.below hb3); have HWc := Lib.hid (HW.out.below hb3); generalize wr.heap.size = g9 at hk3 hs3 HKc ⊢; clear hk3 hb3 hs3))
          by_cases hi00 : i = 0
          · subst hi00
            have HNEW : Hid (0 < 0 → docAt L ord (0 - 1) ≠ docAt L ord 0) := Lib.hid (fun h => absurd h (Nat.lt_irrefl _))
            refine wp_region_still_tail 13 (by kernel_rfl) (by kernel_rfl) ?_
            simp only [List.take_succ_cons, List.take_zero, List.drop_succ_cons, List.drop_zero]
            iterate 3 still_step
            with_reducible refine still_skip ?_ ?_
            · kernel_rfl
            simp only [Act.put, List.setIfInBounds_toArray, List.set_cons_zero, List.set_cons_succ]
            with_reducible refine still_skip ?_ ?_
            · kernel_rfl
            simp only [Act.put, List.setIfInBounds_toArray, List.set_cons_zero, List.set_cons_succ]
            with_reducible refine still_skip ?_ ?_
            · kernel_rfl
            simp only [Act.put, List.setIfInBounds_toArray, List.set_cons_zero, List.set_cons_succ]
            with_reducible refine still_skip ?_ ?_
            · kernel_rfl
            simp only [Act.put, List.setIfInBounds_toArray, List.set_cons_zero, List.set_cons_succ]
            with_reducible refine still_skip ?_ ?_
            · kernel_rfl
            simp only [Act.put, List.setIfInBounds_toArray, List.set_cons_zero, List.set_cons_succ]
            with_reducible refine still_skip ?_ ?_
            · kernel_rfl
            simp only [Act.put, List.setIfInBounds_toArray, List.set_cons_zero, List.set_cons_succ]
            with_reducible refine still_skip ?_ ?_
            · kernel_rfl
            simp only [Act.put, List.setIfInBounds_toArray, List.set_cons_zero, List.set_cons_succ]
            with_reducible refine still_skip ?_ ?_
            · kernel_rfl
            simp only [Act.put, List.setIfInBounds_toArray, List.set_cons_zero, List.set_cons_succ]
            with_reducible refine still_skip ?_ ?_
            · kernel_rfl
            simp only [Act.put, List.setIfInBounds_toArray, List.set_cons_zero, List.set_cons_succ]
            with_reducible refine still_skip ?_ ?_
            · kernel_rfl
            simp only [Act.put, List.setIfInBounds_toArray, List.set_cons_zero, List.set_cons_succ]
            with_reducible refine wpStill_nil ?_
            change wpList _ _ _ _ _ W3.drew
            have HBn := Lib.hid HBc.out.drew
            have HKn := Lib.hid (HKc.out.below (Below.refl _ _).drew)
            have HOn := Lib.hid (HOc.out.below (Below.refl _ _).drew)
            have HWn := Lib.hid (HWc.out.below (Below.refl _ _).drew)
            have HKR := Lib.hid HKn.out.range
            generalize W3.drew = wd at HBn HKn HOn HWn HKR ⊢
            by_cases h5 : ki = 5
            · subst h5
              have HK5e := Lib.hid (show X.kind = 5 by have := HKI.out; omega)
              go_wp2_with (first
                | ((with_reducible show wpList _ _ _ (⟨some 58, _, _, _, _, _⟩ :: _) _ _); go_must (refine wl_ex rfl (exec_loadKey _ rfl _ _ D HDC.out rfl HKR.out) ?_))
                | (go_at_call 14; go_must (refine (HLA.out _ HBn.out).mono ?_); rintro e w4 ⟨Y, q, rfl, hok, hlast, hb4⟩; obtain ⟨rfl, rfl⟩ := last_here HRR.out HXL.out HXD.out hlast; have HB4 := Lib.hid (HBn.out.trans (hb4.mono HBn.out.size)); have HK4 := Lib.hid (HKn.out.below hb4); have HO4 := Lib.hid (HOn.out.below hb4); have HW4 := Lib.hid (HWn.out.below hb4); clear hok hlast hb4)
                | ((with_reducible show wpList _ _ _ (⟨_, Op.store _ (.tmp 10) _, _, _, _, _⟩ :: _) _ _); go_must (refine store_claim14 rfl rfl _ _ rfl X HXC.out rfl rfl ?_); intro W5 hbk hb5 hs5; have HB5 := Lib.hid (HB4.out.trans (hb5.mono HB4.out.size)); have HK5 := Lib.hid (HK4.out.below hb5); have HO5 := Lib.hid (HO4.out.below hb5); have HW5 := Lib.hid (HW4.out.below hb5); have hck := HCK.out _ _ hbk; have hcp := HCP.out _ _ hbk; generalize w4.heap.size = gX at hbk hck hcp; clear hbk hb5 hs5))
              go_roundg (n - (0 + 1))
              case measure => have := HG.out; have := HI.out; omega
              case rel => exact ⟨0 + 1, m, S, P, a6, c6, a7, c7, by go_num, by have := HI.out; omega, rfl, rfl, HSm, Lib.hid (Nat.le_succ_of_le HMI.out), HB5, Lib.hid (HST.out.gone HRR.out HXL.out (HXD.out.trans HDE.out) HK5e.out), HPT, HO5, HW5⟩
            · have hk5 : (ki == 5) = false := beq_eq_false_iff_ne.2 h5
              have HK5e := Lib.hid (show X.kind ≠ 5 by have := HKI.out; omega)
              clear h5
              have HXLen : Hid (X.path.length ≤ 100000) := Lib.hid (HLL.out X HXL.out.1)
              have hPS : ∀ j, j < m → (P.getD j default).length ≤ 1000000 := fun j hj => by
                have := HPT.out.short (fun c hc => Shown_path HST.out hc HRR.out) (by rw [HSm.out]; have := HMI.out; have := HI.out; omega) (i := j) (by rw [HSm.out]; exact hj)
                omega
              have HFR := Lib.hid (fun W (hA : At1 St W a7 m c7 P) => refFresh_any p a7 m c7 P W hA (by have := HMI.out; have := HI.out; omega) (by rw [← HPE.out, strB_size]; have := HXLen.out; omega) hPS)
              have hPl : P.length = m := by rw [HPT.out.1, HSm.out]
              have HPL := Lib.hid hPl
              have HZL := Lib.hid (show (zipN S P).length = m by rw [zipN_length HPT.out, HSm.out])
              have hm60 : m + 1 ≤ 60 := by have := HMI.out; have := HI.out; omega
              have HH1 : Hid (((zipN S P).length + 1) * (64 + 1) ≤ 140737488355328) := Lib.hid (by rw [HZL.out]; omega)
              have HR1 : Hid (m + 1 = (zipN S P).length + 1) := Lib.hid (by rw [HZL.out])
              have HH2 : Hid ((P.length + 1) * (16 + 1) ≤ 140737488355328) := Lib.hid (by rw [hPl]; omega)
              have HR2 : Hid (m + 1 = P.length + 1) := Lib.hid (by rw [hPl])
              clear hPS hPl
              go_wp2_with (first
                | ((with_reducible show wpList _ _ _ (⟨some 58, _, _, _, _, _⟩ :: _) _ _); go_must (refine wl_ex rfl (exec_loadKey _ rfl _ _ D HDC.out rfl HKR.out) ?_))
                | (go_at_call 14; go_must (refine (HLA.out _ HBn.out).mono ?_); rintro e w4 ⟨Y, q, rfl, hok, hlast, hb4⟩; obtain ⟨rfl, rfl⟩ := last_here HRR.out HXL.out HXD.out hlast; have HB4 := Lib.hid (HBn.out.trans (hb4.mono HBn.out.size)); have HK4 := Lib.hid (HKn.out.below hb4); have HO4 := Lib.hid (HOn.out.below hb4); have HW4 := Lib.hid (HWn.out.below hb4); clear hok hlast hb4)
                | ((with_reducible show wpList _ _ _ (⟨_, Op.store _ (.tmp 10) _, _, _, _, _⟩ :: _) _ _); go_must (refine store_claim14 rfl rfl _ _ rfl X HXC.out rfl rfl ?_); intro W5 hbk hb5 hs5; have HB5 := Lib.hid (HB4.out.trans (hb5.mono HB4.out.size)); have HK5 := Lib.hid (HK4.out.below hb5); have HO5 := Lib.hid (HO4.out.below hb5); have HW5 := Lib.hid (HW4.out.below hb5); have hck := HCK.out _ _ hbk; have hcp := HCP.out _ _ hbk; generalize w4.heap.size = gX at hbk hck hcp; clear hbk hb5 hs5)
                | (go_at_call 21; go_must (refine (HFR.out _ HW5.out.at1).mono ?_); rintro e w6 ⟨r, rfl, hfr, hb6⟩; have HB6 := Lib.hid (HB5.out.trans (hb6.mono HB5.out.size)); have HK6 := Lib.hid (HK5.out.below hb6); have HO6 := Lib.hid (HO5.out.below hb6); have HW6 := Lib.hid (HW5.out.below hb6); have HF6 := Lib.hid (fresh_of HPE.out hfr); obtain ⟨q, hq⟩ : ∃ q, strB r = q := ⟨_, rfl⟩; rw [hq]; have HQ := Lib.hid hq; have HQ2 := Lib.hid (fun W : World => lit_r W hq); have HS6 := Lib.hid (Nat.le_trans HB6.out.size (size_alloc_le w6 (.cells #[.string q] 9))); have HO7 := Lib.hid (HO6.out.alloc (.cells #[.string q] 9)); have HW7 := Lib.hid (HW6.out.alloc (.cells #[.string q] 9)); have HK7 := Lib.hid (HK6.out.below ((Below.refl w6.heap.size w6).alloc (Nat.le_refl _) (.cells #[.string q] 9))); have HB7 := Lib.hid (HB6.out.alloc HB6.out.size (.cells #[.string q] 9)); clear hfr hb6 hq)
                | ((with_reducible show wpList _ _ _ (⟨some 72, _, _, _, _, _⟩ :: _) _ _); go_must (refine app1 St (fun _ => rfl) Tryz.underlying50 infoSt rfl rfl _ _ rfl w2.heap.size _ P rfl HW7.out _ 1 1 [r] rfl (HQ2.out _) HH2.out HS6.out (m + 1) HR2.out ?_); intro a8 c8 W8 ho8 hg8; have HB8 := Lib.hid (HB7.out.grown hg8 HB7.out.size (fun k hk => (HW7.out.lt k hk).1)); have HO8 := Lib.hid (HO7.out.kept hg8 (own_ne HO7.out.1 HW7.out HNE2.out)); have HK8 := Lib.hid (HK7.out.kept hg8 (blk_ne HK7.out HW7.out)); have HW8 := Lib.hid ho8; have HKR8 := Lib.hid HK8.out.range; clear ho8 hg8)
                | ((with_reducible show wpList _ _ _ (⟨some 74, _, _, _, _, _⟩ :: _) _ _); go_must (refine wl_ex rfl (exec_loadKey _ rfl _ _ D HDC.out rfl HKR8.out) ?_))
                | ((with_reducible show wpList _ _ _ (⟨some 76, _, _, _, _, _⟩ :: _) _ _); go_must (refine wl_ex rfl (exec_named14 _ _ rfl D HDC.out r q HQ.out.symm rfl rfl) ?_))
                | ((with_reducible show wpList _ _ _ (⟨some 77, _, _, _, _, _⟩ :: _) _ _); go_must (refine sl_named14 rfl _ rfl (D, r) HDC.out rfl ?_); have HB9 := Lib.hid (HB8.out.alloc HB8.out.size (.cells (nmC (D, r)) NE14)); have HO9 := Lib.hid (HO8.out.alloc (.cells (nmC (D, r)) NE14)); have HW9 := Lib.hid (HW8.out.alloc (.cells (nmC (D, r)) NE14)); have HA9 := Lib.hid (one_named14 W8 (D, r) HDC.out); have HS9 := Lib.hid HB9.out.size)
                | ((with_reducible show wpList _ _ _ (⟨some 78, _, _, _, _, _⟩ :: _) _ _); go_must (refine appG nmK Tryz.underlying30 infoNm14 sizeNZ rfl _ _ rfl w2.heap.size _ (zipN S P) rfl HO9.out _ 1 1 [(D, r)] rfl HA9.out HH1.out HS9.out (m + 1) HR1.out ?_); intro a10 c10 W10 ho10 hg10; have HB10 := Lib.hid (HB9.out.grown hg10 HB9.out.size (fun k hk => (HO9.out.lt k hk).1)); have HW10 := Lib.hid (HW9.out.kept hg10 (own_ne HW9.out HO9.out.1 HNE.out)); have HO10 := Lib.hid ho10; clear ho10 hg10))
              go_roundg (n - (0 + 1))
              case measure => have := HG.out; have := HI.out; omega
              case rel => exact ⟨0 + 1, m + 1, S ++ [X], P ++ [r], a10, c10, a8, c8, by go_num, by have := HI.out; omega, rfl, rfl, Lib.hid (by simp [HSm.out]), Lib.hid (Nat.succ_le_succ HMI.out), HB10, Lib.hid (HST.out.add HRR.out HXL.out (HXD.out.trans HDE.out) HK5e.out (doc_new HUP.out HPM.out HL.out HI.out HNEW.out)), Lib.hid (pathsTo_snoc HPT.out HF6.out), Lib.hid (by rw [zipN_add HPT.out, HXD.out]; exact HO10.out), HW10⟩
          · obtain ⟨j, rfl⟩ : ∃ j, i = j + 1 := ⟨i - 1, by omega⟩
            have hjn : j < n := by have := HI.out; omega
            have hj0 : (0 : Int) ≤ (j : Int) := by omega
            have hjnI : (j : Int) < (n : Int) := by omega
            have hj1 : (j : Int) + 1 - 1 = (j : Int) := by omega
            have hjp : (0 : Int) < (j : Int) + 1 := by omega
            have hjW : IntKind.i64.wrap (j : Int) = (j : Int) := IntWalk.i64_in _ (by omega)
            obtain ⟨y, hy⟩ : ∃ y, ord.getD j 0 = y := ⟨_, rfl⟩
            have hyn : y < n := by rw [← hy]; exact place_lt HPM.out hjn
            have hcy : W3.drew.cell? ⟨b5, o5 + j, none⟩ = some (.int .i64 (y : Int)) := by rw [← hy]; exact (HO5.out.below HBc.out.drew).cell j hjn
            obtain ⟨Y, hY⟩ : ∃ Y, Y = docAt L ord j := ⟨_, rfl⟩
            have hYy : gd (L.map (·.doc)) y = Y := by rw [gd_doc L (by rw [HL.out]; exact hyn), hY, ← hy]; rfl
            have HYC : Hid (Y.c.length = 32) := Lib.hid (hYy ▸ HD2.out.ok hyn)
            have HYR : Hid (W3.drew.rangeAt b3 (o3 + y * 34) (keyL Y)) := Lib.hid (hYy ▸ (HD2.out.below HBc.out.drew).at_ y hyn)
            have HYE := Lib.hid hY
            have hy0 : (0 : Int) ≤ (y : Int) := by omega
            have hyI : (y : Int) < (n : Int) := by omega
            have HBn := Lib.hid HBc.out.drew
            have HKn := Lib.hid (HKc.out.below (Below.refl _ _).drew)
            have HOn := Lib.hid (HOc.out.below (Below.refl _ _).drew)
            have HWn := Lib.hid (HWc.out.below (Below.refl _ _).drew)
            have HKR := Lib.hid HKn.out.range
            clear hi00 hy hyn hY hYy hjn
            refine wp_region_still_tail 13 (by kernel_rfl) (by kernel_rfl) ?_
            simp only [List.take_succ_cons, List.take_zero, List.drop_succ_cons, List.drop_zero]
            iterate 10 still_step
            refine still_w (by rfl) (exec_loadKey _ rfl _ _ Y HYC.out rfl HYR.out) ?_
            simp only [Act.put, List.setIfInBounds_toArray, List.set_cons_zero, List.set_cons_succ]
            refine still_w (by rfl) (exec_loadKey _ rfl _ _ D HDC.out rfl HKR.out) ?_
            simp only [Act.put, List.setIfInBounds_toArray, List.set_cons_zero, List.set_cons_succ]
            by_cases hyd : Y = D
            · have HEQ : Hid (true = decide (keyF Y D = 0)) := Lib.hid (by rw [hyd]; exact (decide_eq_true (keyF_self _)).symm)
              have HYD := Lib.hid hyd
              clear hyd
              refine still_w (by rfl) (exec_eqlKey _ _ _ rfl Y D HYC.out HDC.out rfl rfl true HEQ.out) ?_
              simp only [Act.put, List.setIfInBounds_toArray, List.set_cons_zero, List.set_cons_succ]
              with_reducible refine wpStill_nil ?_
              change wpList _ _ _ _ _ W3.drew
              generalize W3.drew = wd at HBn HKn HOn HWn HKR hcy HYR ⊢
              go_wp2
              go_roundg (n - (j + 1 + 1))
              case measure => have := HG.out; have := HI.out; omega
              case rel => exact ⟨j + 1 + 1, m, S, P, a6, c6, a7, c7, by go_num, by have := HI.out; omega, rfl, rfl, HSm, Lib.hid (Nat.le_succ_of_le HMI.out), HBn, Lib.hid (HST.out.dup (by omega) (by rw [show j + 1 - 1 = j from rfl, ← HYE.out, ← HDE.out]; exact HYD.out)), HPT, HOn, HWn⟩
            · have HEQ : Hid (false = decide (keyF Y D = 0)) := Lib.hid (decide_eq_false (fun e => hyd (keyF_eq e))).symm
              have HNEW : Hid (0 < j + 1 → docAt L ord (j + 1 - 1) ≠ docAt L ord (j + 1)) := Lib.hid (fun _ => by rw [show j + 1 - 1 = j from rfl, ← HYE.out, ← HDE.out]; exact hyd)
              clear hyd
              refine still_w (by rfl) (exec_eqlKey _ _ _ rfl Y D HYC.out HDC.out rfl rfl false HEQ.out) ?_
              simp only [Act.put, List.setIfInBounds_toArray, List.set_cons_zero, List.set_cons_succ]
              with_reducible refine wpStill_nil ?_
              change wpList _ _ _ _ _ W3.drew
              generalize W3.drew = wd at HBn HKn HOn HWn HKR hcy HYR ⊢
              clear hcy HYR hjW hj1
              by_cases h5 : ki = 5
              · subst h5
                have HK5e := Lib.hid (show X.kind = 5 by have := HKI.out; omega)
                go_wp2_with (first
                  | ((with_reducible show wpList _ _ _ (⟨some 58, _, _, _, _, _⟩ :: _) _ _); go_must (refine wl_ex rfl (exec_loadKey _ rfl _ _ D HDC.out rfl HKR.out) ?_))
                  | (go_at_call 14; go_must (refine (HLA.out _ HBn.out).mono ?_); rintro e w4 ⟨Y, q, rfl, hok, hlast, hb4⟩; obtain ⟨rfl, rfl⟩ := last_here HRR.out HXL.out HXD.out hlast; have HB4 := Lib.hid (HBn.out.trans (hb4.mono HBn.out.size)); have HK4 := Lib.hid (HKn.out.below hb4); have HO4 := Lib.hid (HOn.out.below hb4); have HW4 := Lib.hid (HWn.out.below hb4); clear hok hlast hb4)
                  | ((with_reducible show wpList _ _ _ (⟨_, Op.store _ (.tmp 10) _, _, _, _, _⟩ :: _) _ _); go_must (refine store_claim14 rfl rfl _ _ rfl X HXC.out rfl rfl ?_); intro W5 hbk hb5 hs5; have HB5 := Lib.hid (HB4.out.trans (hb5.mono HB4.out.size)); have HK5 := Lib.hid (HK4.out.below hb5); have HO5 := Lib.hid (HO4.out.below hb5); have HW5 := Lib.hid (HW4.out.below hb5); have hck := HCK.out _ _ hbk; have hcp := HCP.out _ _ hbk; generalize w4.heap.size = gX at hbk hck hcp; clear hbk hb5 hs5))
                go_roundg (n - (j + 1 + 1))
                case measure => have := HG.out; have := HI.out; omega
                case rel => exact ⟨j + 1 + 1, m, S, P, a6, c6, a7, c7, by go_num, by have := HI.out; omega, rfl, rfl, HSm, Lib.hid (Nat.le_succ_of_le HMI.out), HB5, Lib.hid (HST.out.gone HRR.out HXL.out (HXD.out.trans HDE.out) HK5e.out), HPT, HO5, HW5⟩
              · have hk5 : (ki == 5) = false := beq_eq_false_iff_ne.2 h5
                have HK5e := Lib.hid (show X.kind ≠ 5 by have := HKI.out; omega)
                clear h5
                have HXLen : Hid (X.path.length ≤ 100000) := Lib.hid (HLL.out X HXL.out.1)
                have hPS : ∀ j, j < m → (P.getD j default).length ≤ 1000000 := fun j hj => by
                  have := HPT.out.short (fun c hc => Shown_path HST.out hc HRR.out) (by rw [HSm.out]; have := HMI.out; have := HI.out; omega) (i := j) (by rw [HSm.out]; exact hj)
                  omega
                have HFR := Lib.hid (fun W (hA : At1 St W a7 m c7 P) => refFresh_any p a7 m c7 P W hA (by have := HMI.out; have := HI.out; omega) (by rw [← HPE.out, strB_size]; have := HXLen.out; omega) hPS)
                have hPl : P.length = m := by rw [HPT.out.1, HSm.out]
                have HPL := Lib.hid hPl
                have HZL := Lib.hid (show (zipN S P).length = m by rw [zipN_length HPT.out, HSm.out])
                have hm60 : m + 1 ≤ 60 := by have := HMI.out; have := HI.out; omega
                have HH1 : Hid (((zipN S P).length + 1) * (64 + 1) ≤ 140737488355328) := Lib.hid (by rw [HZL.out]; omega)
                have HR1 : Hid (m + 1 = (zipN S P).length + 1) := Lib.hid (by rw [HZL.out])
                have HH2 : Hid ((P.length + 1) * (16 + 1) ≤ 140737488355328) := Lib.hid (by rw [hPl]; omega)
                have HR2 : Hid (m + 1 = P.length + 1) := Lib.hid (by rw [hPl])
                clear hPS hPl
                go_wp2_with (first
                  | ((with_reducible show wpList _ _ _ (⟨some 58, _, _, _, _, _⟩ :: _) _ _); go_must (refine wl_ex rfl (exec_loadKey _ rfl _ _ D HDC.out rfl HKR.out) ?_))
                  | (go_at_call 14; go_must (refine (HLA.out _ HBn.out).mono ?_); rintro e w4 ⟨Y, q, rfl, hok, hlast, hb4⟩; obtain ⟨rfl, rfl⟩ := last_here HRR.out HXL.out HXD.out hlast; have HB4 := Lib.hid (HBn.out.trans (hb4.mono HBn.out.size)); have HK4 := Lib.hid (HKn.out.below hb4); have HO4 := Lib.hid (HOn.out.below hb4); have HW4 := Lib.hid (HWn.out.below hb4); clear hok hlast hb4)
                  | ((with_reducible show wpList _ _ _ (⟨_, Op.store _ (.tmp 10) _, _, _, _, _⟩ :: _) _ _); go_must (refine store_claim14 rfl rfl _ _ rfl X HXC.out rfl rfl ?_); intro W5 hbk hb5 hs5; have HB5 := Lib.hid (HB4.out.trans (hb5.mono HB4.out.size)); have HK5 := Lib.hid (HK4.out.below hb5); have HO5 := Lib.hid (HO4.out.below hb5); have HW5 := Lib.hid (HW4.out.below hb5); have hck := HCK.out _ _ hbk; have hcp := HCP.out _ _ hbk; generalize w4.heap.size = gX at hbk hck hcp; clear hbk hb5 hs5)
                  | (go_at_call 21; go_must (refine (HFR.out _ HW5.out.at1).mono ?_); rintro e w6 ⟨r, rfl, hfr, hb6⟩; have HB6 := Lib.hid (HB5.out.trans (hb6.mono HB5.out.size)); have HK6 := Lib.hid (HK5.out.below hb6); have HO6 := Lib.hid (HO5.out.below hb6); have HW6 := Lib.hid (HW5.out.below hb6); have HF6 := Lib.hid (fresh_of HPE.out hfr); obtain ⟨q, hq⟩ : ∃ q, strB r = q := ⟨_, rfl⟩; rw [hq]; have HQ := Lib.hid hq; have HQ2 := Lib.hid (fun W : World => lit_r W hq); have HS6 := Lib.hid (Nat.le_trans HB6.out.size (size_alloc_le w6 (.cells #[.string q] 9))); have HO7 := Lib.hid (HO6.out.alloc (.cells #[.string q] 9)); have HW7 := Lib.hid (HW6.out.alloc (.cells #[.string q] 9)); have HK7 := Lib.hid (HK6.out.below ((Below.refl w6.heap.size w6).alloc (Nat.le_refl _) (.cells #[.string q] 9))); have HB7 := Lib.hid (HB6.out.alloc HB6.out.size (.cells #[.string q] 9)); clear hfr hb6 hq)
                  | ((with_reducible show wpList _ _ _ (⟨some 72, _, _, _, _, _⟩ :: _) _ _); go_must (refine app1 St (fun _ => rfl) Tryz.underlying50 infoSt rfl rfl _ _ rfl w2.heap.size _ P rfl HW7.out _ 1 1 [r] rfl (HQ2.out _) HH2.out HS6.out (m + 1) HR2.out ?_); intro a8 c8 W8 ho8 hg8; have HB8 := Lib.hid (HB7.out.grown hg8 HB7.out.size (fun k hk => (HW7.out.lt k hk).1)); have HO8 := Lib.hid (HO7.out.kept hg8 (own_ne HO7.out.1 HW7.out HNE2.out)); have HK8 := Lib.hid (HK7.out.kept hg8 (blk_ne HK7.out HW7.out)); have HW8 := Lib.hid ho8; have HKR8 := Lib.hid HK8.out.range; clear ho8 hg8)
                  | ((with_reducible show wpList _ _ _ (⟨some 74, _, _, _, _, _⟩ :: _) _ _); go_must (refine wl_ex rfl (exec_loadKey _ rfl _ _ D HDC.out rfl HKR8.out) ?_))
                  | ((with_reducible show wpList _ _ _ (⟨some 76, _, _, _, _, _⟩ :: _) _ _); go_must (refine wl_ex rfl (exec_named14 _ _ rfl D HDC.out r q HQ.out.symm rfl rfl) ?_))
                  | ((with_reducible show wpList _ _ _ (⟨some 77, _, _, _, _, _⟩ :: _) _ _); go_must (refine sl_named14 rfl _ rfl (D, r) HDC.out rfl ?_); have HB9 := Lib.hid (HB8.out.alloc HB8.out.size (.cells (nmC (D, r)) NE14)); have HO9 := Lib.hid (HO8.out.alloc (.cells (nmC (D, r)) NE14)); have HW9 := Lib.hid (HW8.out.alloc (.cells (nmC (D, r)) NE14)); have HA9 := Lib.hid (one_named14 W8 (D, r) HDC.out); have HS9 := Lib.hid HB9.out.size)
                  | ((with_reducible show wpList _ _ _ (⟨some 78, _, _, _, _, _⟩ :: _) _ _); go_must (refine appG nmK Tryz.underlying30 infoNm14 sizeNZ rfl _ _ rfl w2.heap.size _ (zipN S P) rfl HO9.out _ 1 1 [(D, r)] rfl HA9.out HH1.out HS9.out (m + 1) HR1.out ?_); intro a10 c10 W10 ho10 hg10; have HB10 := Lib.hid (HB9.out.grown hg10 HB9.out.size (fun k hk => (HO9.out.lt k hk).1)); have HW10 := Lib.hid (HW9.out.kept hg10 (own_ne HW9.out HO9.out.1 HNE.out)); have HO10 := Lib.hid ho10; clear ho10 hg10))
                go_roundg (n - (j + 1 + 1))
                case measure => have := HG.out; have := HI.out; omega
                case rel => exact ⟨j + 1 + 1, m + 1, S ++ [X], P ++ [r], a10, c10, a8, c8, by go_num, by have := HI.out; omega, rfl, rfl, Lib.hid (by simp [HSm.out]), Lib.hid (Nat.succ_le_succ HMI.out), HB10, Lib.hid (HST.out.add HRR.out HXL.out (HXD.out.trans HDE.out) HK5e.out (doc_new HUP.out HPM.out HL.out HI.out HNEW.out)), Lib.hid (pathsTo_snoc HPT.out HF6.out), Lib.hid (by rw [zipN_add HPT.out, HXD.out]; exact HO10.out), HW10⟩
        · have hin : i = n := by omega
          subst hin
          have HO2 := Lib.hid HO.out.atG
          clear hg
          go_wp2
          go_ret
          exact ⟨S, P, a6, c6, by rw [HSm.out]; rfl, HST.out.shown HRR.out HPM.out HL.out, HPT.out, by rw [HSm.out]; exact HO2.out, HB2.out.trans (HB.out.mono HB2.out.size)⟩
    #print axioms refPaths_any
    end Go.Proofs.YtipoielcmaegaaaGreatDoor
