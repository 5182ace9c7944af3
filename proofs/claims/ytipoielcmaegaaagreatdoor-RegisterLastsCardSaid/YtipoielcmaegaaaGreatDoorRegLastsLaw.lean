/-
  The law of any document's last claim, and of any path's document: walked.
-/
import Derived.Test.YtipoielcmaegaaaGreatDoorRegLastG
import Derived.Test.YtipoielcmaegaaaGreatDoorRegPathsLaw
import Derived.Test.YtipoielcmaegaaaGreatDoorRf14All
import Derived.Deep.CutRange
namespace Go.Proofs.YtipoielcmaegaaaGreatDoor
open Go.RowKit Go.Maps

theorem claim_fields : (Tryz.prog.fieldsOf CEr).toList.map (fun f => (f.name, f.type, f.offset)) = [("Key", 35, 0), ("Doc", 35, 34), ("Kind", 5, 68), ("Path", 9, 69)] := by kernel_rfl
theorem part_of_cut {cs : Array Value} {k : KeyV} (w : World) (o : Nat) (hc : cs.extract o (o + 34) = keyC k) : (part 35 cs o).run Tryz.prog w = .ok (.agg (keyC k)) w := by
  have hagg : (isAgg 35).run Tryz.prog w = .ok true w := by kernel_rfl
  obtain ⟨i0, hi, hz0, hz1, hz2⟩ := info_parts (show (Tryz.prog.info? 35).map (fun i => (i.zero, i.size, i.bytes)) = some (some (.agg (keyC zeroK)), 34, 48) by kernel_rfl)
  simp [part, hagg, sizeOf, typeInfo, hi, hz1, hc]
theorem part_ckey (w : World) (x : ClaimV) (hx : x.key.c.length = 32 ∧ x.doc.c.length = 32) : (part 35 (claimC x) 0).run Tryz.prog w = .ok (.agg (keyC x.key)) w := by
  have hl := keyL_length hx.1
  have hm := keyL_length hx.2
  refine part_of_cut w 0 ?_
  apply Array.ext_getElem?
  intro j
  rw [Array.getElem?_extract]
  unfold claimC claimL keyC
  by_cases hj : j < 34
  · rw [if_pos (by simp [hl, hm]; omega)]
    rw [Nat.zero_add, List.getElem?_toArray, List.getElem?_toArray, List.getElem?_append_left (by omega)]
  · rw [if_neg (by simp [hl, hm]; omega)]
    rw [List.getElem?_toArray, List.getElem?_eq_none (by omega)]
theorem part_cdoc (w : World) (x : ClaimV) (hx : x.key.c.length = 32 ∧ x.doc.c.length = 32) : (part 35 (claimC x) 34).run Tryz.prog w = .ok (.agg (keyC x.doc)) w := by
  have hl := keyL_length hx.1
  have hm := keyL_length hx.2
  refine part_of_cut w 34 ?_
  apply Array.ext_getElem?
  intro j
  rw [Array.getElem?_extract]
  unfold claimC claimL keyC
  by_cases hj : j < 34
  · rw [if_pos (by simp [hl, hm]; omega)]
    rw [List.getElem?_toArray, List.getElem?_toArray, List.getElem?_append_right (by omega), hl, Nat.add_sub_cancel_left, List.getElem?_append_left (by omega)]
  · rw [if_neg (by simp [hl, hm]; omega)]
    rw [List.getElem?_toArray, List.getElem?_eq_none (by omega)]
theorem part_ckind (w : World) (x : ClaimV) (hx : x.key.c.length = 32 ∧ x.doc.c.length = 32) : (part 5 (claimC x) 68).run Tryz.prog w = .ok (.int .u8 (x.kind : Int)) w := by
  have hagg : (isAgg 5).run Tryz.prog w = .ok false w := by kernel_rfl
  have hl := keyL_length hx.1
  have hm := keyL_length hx.2
  have hget : (claimC x)[68]? = some (.int .u8 (x.kind : Int)) := by
    unfold claimC claimL
    rw [List.getElem?_toArray, List.getElem?_append_right (by omega), hl, List.getElem?_append_right (by omega), hm]; rfl
  simp [part, hagg, hget]
theorem part_cpath (w : World) (x : ClaimV) (hx : x.key.c.length = 32 ∧ x.doc.c.length = 32) : (part 9 (claimC x) 69).run Tryz.prog w = .ok (.string (strB x.path)) w := by
  have hagg : (isAgg 9).run Tryz.prog w = .ok false w := by kernel_rfl
  have hl := keyL_length hx.1
  have hm := keyL_length hx.2
  have hget : (claimC x)[69]? = some (.string (strB x.path)) := by
    unfold claimC claimL
    rw [List.getElem?_toArray, List.getElem?_append_right (by omega), hl, List.getElem?_append_right (by omega), hm]; rfl
  simp [part, hagg, hget]
theorem run_eqClaim (w : World) (x : ClaimV) (hx : x.key.c.length = 32 ∧ x.doc.c.length = 32) : (Op.equalIn 10000 CEr (.agg (claimC x)) (.agg (claimC x))).run Tryz.prog w = .ok true w := by
  have hf := claim_fields
  rw [show (10000 : Nat) = 9999 + 1 from rfl, run_equalIn_struct w 9999 _ _ _ (by kernel_rfl) (by kernel_rfl)]
  generalize (Tryz.prog.fieldsOf CEr).toList = fs at hf
  obtain ⟨f0, f1, f2, f3, rfl⟩ : ∃ f0 f1 f2 f3, fs = [f0, f1, f2, f3] := by
    have hl : fs.length = 4 := by have := congrArg List.length hf; simpa using this
    match fs, hl with
    | [f0, f1, f2, f3], _ => exact ⟨f0, f1, f2, f3, rfl⟩
  simp only [List.map_cons, List.map_nil, List.cons.injEq, Prod.mk.injEq, and_true] at hf
  obtain ⟨⟨n0, t0, o0⟩, ⟨n1, t1, o1⟩, ⟨n2, t2, o2⟩, n3, t3, o3⟩ := hf
  have e0 : (Op.equalIn 9999 35 (.agg (keyC x.key)) (.agg (keyC x.key))).run Tryz.prog w = .ok true w := by
    have := run_eqKeysD 9996 w hx.1 hx.1
    rwa [decide_eq_true (keyF_self x.key)] at this
  have e1 : (Op.equalIn 9999 35 (.agg (keyC x.doc)) (.agg (keyC x.doc))).run Tryz.prog w = .ok true w := by
    have := run_eqKeysD 9996 w hx.2 hx.2
    rwa [decide_eq_true (keyF_self x.doc)] at this
  have e2 : (Op.equalIn 9999 5 (.int .u8 (x.kind : Int)) (.int .u8 (x.kind : Int))).run Tryz.prog w = .ok true w := by
    have := run_equalIn_int (P := Tryz.prog) w 9998 5 .u8 .u8 (x.kind : Int) (x.kind : Int) Tryz.underlying5
    simpa using this
  have e3 : (Op.equalIn 9999 9 (.string (strB x.path)) (.string (strB x.path))).run Tryz.prog w = .ok true w := by
    have := run_equalIn_string (P := Tryz.prog) w 9998 9 (strB x.path) (strB x.path) Tryz.underlying9
    simpa using this
  have d0 : ("Key" : String) ≠ "_" := by decide
  have d1 : ("Doc" : String) ≠ "_" := by decide
  have d2 : ("Kind" : String) ≠ "_" := by decide
  have d3 : ("Path" : String) ≠ "_" := by decide
  unfold Op.eqFields
  rw [n0, t0, o0, if_pos d0, Sem.run_bind, part_ckey w x hx, Result.andThen_ok, Sem.run_bind, part_ckey w x hx, Result.andThen_ok, Sem.run_bind, e0, Result.andThen_ok]
  rw [if_neg (by simp)]
  unfold Op.eqFields
  rw [n1, t1, o1, if_pos d1, Sem.run_bind, part_cdoc w x hx, Result.andThen_ok, Sem.run_bind, part_cdoc w x hx, Result.andThen_ok, Sem.run_bind, e1, Result.andThen_ok]
  rw [if_neg (by simp)]
  unfold Op.eqFields
  rw [n2, t2, o2, if_pos d2, Sem.run_bind, part_ckind w x hx, Result.andThen_ok, Sem.run_bind, part_ckind w x hx, Result.andThen_ok, Sem.run_bind, e2, Result.andThen_ok]
  rw [if_neg (by simp)]
  unfold Op.eqFields
  rw [n3, t3, o3, if_pos d3, Sem.run_bind, part_cpath w x hx, Result.andThen_ok, Sem.run_bind, part_cpath w x hx, Result.andThen_ok, Sem.run_bind, e3, Result.andThen_ok]
  rw [if_neg (by simp)]
  rfl
theorem noGuard_claim : Tryz.prog.eqGuardType Tryz.prog.depth CEr = false := by kernel_rfl
theorem exec_eqlClaim {w : World} {o : Oper} {a : Act} (x y : Operand) (r : TypeId) (ho : o.op = .binOp .eql CEr x y r) (k : ClaimV) (hk : k.key.c.length = 32 ∧ k.doc.c.length = 32) (hx : a.eval x = .agg (claimC k)) (hy : a.eval y = .agg (claimC k)) :
    (execOp a.eval o).run Tryz.prog w = .ok (.value (.bool true)) w := by
  unfold execOp
  simp only [ho, hx, hy, Sem.run_bind, run_eqGuard_agg w _ _ _ _ _ _ noGuard_claim, Result.andThen_ok, run_eql_struct, run_eqClaim w k hk, Sem.run_pure]
theorem built_zeroC : Tryz.prog.built CEr [] = some (claimC default) := by kernel_rfl
theorem exec_zeroC {w : World} {o : Oper} {a : Act} (ho : o.op = .build CEr #[]) : (execOp a.eval o).run Tryz.prog w = .ok (.value (.agg (claimC default))) w := by
  refine exec_build _ _ ho _ ?_
  simpa using built_zeroC
theorem found_uniq {S : List ClaimV} {P : List (List UInt8)} {s : List UInt8} {k k' : KeyV} {q q' : Bool} (hP : PathsTo S P)
    (h : (q = true ∧ ∃ j, j < S.length ∧ P.getD j default = s ∧ k = (S.getD j default).doc) ∨ (q = false ∧ k = zeroK ∧ ∀ j, j < S.length → P.getD j default ≠ s))
    (h' : (q' = true ∧ ∃ j, j < S.length ∧ P.getD j default = s ∧ k' = (S.getD j default).doc) ∨ (q' = false ∧ k' = zeroK ∧ ∀ j, j < S.length → P.getD j default ≠ s)) : q = q' ∧ k = k' := by
  rcases h with ⟨h1, j, hj, h2, h3⟩ | ⟨h1, h2, h3⟩ <;> rcases h' with ⟨k1, i, hi, k2, k3⟩ | ⟨k1, k2, k3⟩
  · have e := hP.inj hj hi (h2.trans k2.symm)
    subst e
    exact ⟨by rw [h1, k1], by rw [h3, k3]⟩
  · exact absurd h2 (k3 j hj)
  · exact absurd k2 (h3 i hi)
  · exact ⟨by rw [h1, k1], by rw [h2, k2]⟩
theorem found_bad {L S : List ClaimV} {P : List (List UInt8)} {s : List UInt8} {k : KeyV} {q : Bool} (hS : Shown L S) (hR : ¬ RightR L)
    (h : (q = true ∧ ∃ j, j < S.length ∧ P.getD j default = s ∧ k = (S.getD j default).doc) ∨ (q = false ∧ k = zeroK ∧ ∀ j, j < S.length → P.getD j default ≠ s)) : q = false ∧ k = zeroK := by
  rw [shown_none hS hR] at h
  rcases h with ⟨_, j, hj, _⟩ | ⟨h1, h2, _⟩
  · cases hj
  · exact ⟨h1, h2⟩
theorem lastP_bad {L : List ClaimV} {d : KeyV} {X : ClaimV} {β : Bool} (h : LastIsP L d X β) (hR : ¬ RightR L) : β = false ∧ X = default := by
  rcases h with ⟨_, h, _⟩ | ⟨h1, h2, _⟩
  · exact absurd h hR
  · exact ⟨h1, h2⟩
theorem lastP_uniq {L : List ClaimV} {d : KeyV} {X Y : ClaimV} {β b : Bool} (hR : RightR L) (h : LastIsP L d X β) (k : (b = true ∧ IsLast L Y ∧ Y.doc = d) ∨ (b = false ∧ Y = default ∧ ∀ c ∈ L, c.doc ≠ d)) : β = b ∧ X = Y := by
  rcases h with ⟨h1, _, h2, h3⟩ | ⟨h1, h2, h3⟩ <;> rcases k with ⟨k1, k2, k3⟩ | ⟨k1, k2, k3⟩
  · exact ⟨by rw [h1, k1], h2.uniq hR k2 (h3.trans k3.symm)⟩
  · exact absurd h3 (k3 X h2.1)
  · exact absurd k3 (h3 hR Y k2.1)
  · exact ⟨by rw [h1, k1], by rw [h2, k2]⟩

set_option maxRecDepth 100000 in
set_option maxHeartbeats 4000000 in
theorem registerLasts_any (a : Option Addr) (n c : Nat) (L : List ClaimV) (d : KeyV) (s : ByteArray) (w : World) (h : AtG clK w a n c L) (hd : d.c.length = 32) (hk : ∃ kl, KlK d kl) (hT : PTabs w) :
    Calls Tryz.prog 4 #[.slice a n c, .agg (keyC d), .string s] w fun e w' => e = .returned (.bool true) ∧ Below w.heap.size w w' := by
  obtain ⟨q, hq⟩ := light_cases n L
  have HB0 : Hid (Below w.heap.size w (w.alloc (.cells (keyC d) 35))) := Lib.hid ((Below.refl w.heap.size w).alloc (Nat.le_refl _) _)
  have HLI := Lib.hid (fun W (hW : Below w.heap.size w W) => light_any a n c L W (h.below hW) q hq)
  cases q
  · clear h hT hq hk
    go_enter Tryz.func4, Tryz.ntmps4
    go_wp2_with (go_at_call 5; go_must (refine (HLI.out _ HB0.out).mono ?_); rintro e w1 ⟨rfl, rfl⟩)
    go_ret
    exact ⟨rfl, HB0.out⟩
  by_cases hs : 200 < s.size
  · have hsI : (200 : Int) < (s.size : Int) := by omega
    clear h hT hq hk
    go_enter Tryz.func4, Tryz.ntmps4
    go_wp2_with (go_at_call 5; go_must (refine (HLI.out _ HB0.out).mono ?_); rintro e w1 ⟨rfl, rfl⟩)
    go_ret
    exact ⟨rfl, HB0.out⟩
  obtain ⟨hn40, hl⟩ := hq.1 rfl
  obtain ⟨q, hqr⟩ := right_cases L
  obtain ⟨kl, hkl⟩ := hk
  obtain ⟨X, β, hP⟩ := lastP_some L d
  have hdS : decide (200 < (s.size : Int)) = false := decide_eq_false (by omega)
  have hdS2 : decide (200 < s.size) = false := decide_eq_false hs
  have HM := Lib.hid hn40
  have HM60 := Lib.hid (Nat.le_trans hn40 (by decide) : n ≤ 60)
  have HMk := Lib.hid (Nat.le_trans hn40 (by decide) : n ≤ 1000)
  have HL := Lib.hid h.1
  have HN := Lib.hid h
  have HDL := Lib.hid hd
  have HPL := Lib.hid hP
  have HXO : Hid (ClOk X) := Lib.hid (hP.ok h.2.2.2.1)
  have HXC : Hid (X.key.c.length = 32 ∧ X.doc.c.length = 32) := Lib.hid ⟨HXO.out.1, HXO.out.2.1⟩
  have HLL := Lib.hid (fun c hc => (Nat.le_trans (hl c hc) (by decide) : c.path.length ≤ 100000))
  have HT := Lib.hid hT
  have HTO := Lib.hid (fun W (hW : Below w.heap.size w W) => told_any a n c L W (h.below hW) (by omega))
  have AW := Lib.hid (fun W (hW : Below w.heap.size w W) => regAwake_any W (hT.below hW))
  have HRR := Lib.hid (fun W (hW : Below w.heap.size w W) => refRight_any a n c L W (h.below hW) (by omega) HLL.out q hqr)
  have HLA := Lib.hid (fun W am cm (hA : AtG clK W am n cm L) (hW : Below w.heap.size w W) => lastG_any am n cm L X β d kl W hA HMk.out HLL.out (hT.below hW) hd hkl hP)
  have HFI := Lib.hid (fun W am cm (hA : AtG clK W am n cm L) (hW : Below w.heap.size w W) => find_any am n cm L s W hA HM60.out HLL.out (hT.below hW))
  have HRL := Lib.hid (fun W (hW : Below w.heap.size w W) => refLast_any a n c L d hd W (h.below hW) (by omega))
  have HRF := Lib.hid (fun W (hW : Below w.heap.size w W) (hR : RightR L) => refFind_of a n c L s W HM60.out HL.out (fun W2 hb => refPaths_any a n c L W2 ((h.below hW).below hb) HM60.out hR HLL.out))
  have HQR := Lib.hid hqr
  have HK4 : Hid (BlkAt 35 (w.alloc (.cells (keyC d) 35)) w.heap.size (keyL d)) := Lib.hid (BlkAt.new w 35 (keyC d))
  have HBB := HB0
  clear h hT hq hn40 hl hqr hd hkl hP hs HB0
  go_enter Tryz.func4, Tryz.ntmps4
  go_wp2_with (go_at_call 5; go_must (refine (HLI.out _ HBB.out).mono ?_); rintro e w1 ⟨rfl, rfl⟩; generalize hwb : w.alloc (.cells (keyC d) 35) = wb at HK4 HBB ⊢; clear hwb)
  generalize w.heap.size = g4 at HK4 ⊢
  go_cut [7, 8] from 23 to 29 (fun v7 v8 W => ∃ g7, v7 = .pointer (some ⟨g7, 0, none⟩) ∧ v8 = .bool β ∧ Hid (BlkAt CEr W g7 (claimL X)) ∧ Hid (Below wb.heap.size wb W))
  case first =>
      have HBd : Hid (Below wb.heap.size wb wb.drew) := Lib.hid (Below.refl _ _).drew
      refine wp_region_held_drew (S := fun W => Below wb.heap.size wb W) (by kernel_rfl) HBd.out (fun hHeld => ?_)
      refine wpAnyH_take (i := 0) (oi := ⟨some 24, .move (.tmp 0), _, _, _, _⟩) (v := (.slice a n c)) rfl (by kernel_rfl) (by kernel_rfl) (by kernel_rfl) (fun _ _ _ h => h) (Or.inl ⟨by rfl, fun W hW => by go_simp⟩) (by assumption) ?_
      simp only [Act.put, List.setIfInBounds_toArray, List.set_cons_zero, List.set_cons_succ]
      refine wpAnyH_take (i := 2) (oi := ⟨some 26, .load 35 (.tmp 4), _, _, _, _⟩) (v := (.agg (keyC d))) rfl (by kernel_rfl) (by kernel_rfl) (by kernel_rfl) (fun _ _ _ h => h) (Or.inl ⟨by rfl, fun W hW => exec_loadKey _ rfl _ _ d HDL.out rfl (HK4.out.below hW).range⟩) (by assumption) ?_
      simp only [Act.put, List.setIfInBounds_toArray, List.set_cons_zero, List.set_cons_succ]
      refine wpAnyH_ready (rs := [1, 7]) (by kernel_rfl) (by simp) ?_
      refine AllReadyH.cons (o := ⟨some 25, .call { callee := .value (.func 7), args := #[.tmp 24], argTypes := #[22] }, _, _, _, _⟩) rfl (fun K hK => ?_) (AllReadyH.cons (o := ⟨some 7, .alloc CEr, _, _, _, _⟩) rfl (fun K hK => ?_) AllReadyH.nil)
      · go_simp
        go_wp2_with (go_at_call 7; go_must (refine (HTO.out _ (HBB.out.trans (HBd.out.mono HBB.out.size))).mono ?_); rintro e wt ⟨a5, c5, rfl, ho5, hb5⟩; rw [HL.out] at ho5 ⊢; have HA5 := Lib.hid ho5.atG; have HX1 := Lib.hid (HBd.out.trans (hb5.mono HBd.out.size)); have HBT := Lib.hid hb5; clear ho5 hb5)
        refine hK.out _ _ HX1.out (fun hHeld => ?_)
        clear hK K
        refine wpAnyH_ready (rs := [3, 7]) (by kernel_rfl) (by simp) ?_
        refine AllReadyH.cons (o := ⟨some 27, .call { callee := .value (.func 12), args := #[.tmp 25, .tmp 26], argTypes := #[26, 35] }, _, _, _, _⟩) rfl (fun K hK => ?_) (AllReadyH.cons (o := ⟨some 7, .alloc CEr, _, _, _, _⟩) rfl (fun K hK => ?_) AllReadyH.nil)
        · go_simp
          go_wp2_with (go_at_call 12; go_must (refine (HLA.out _ _ _ (HA5.out) (HBB.out.trans (HX1.out.mono HBB.out.size))).mono ?_); rintro e wf ⟨rfl, hb6⟩; have HX2 := Lib.hid (HX1.out.trans (hb6.mono HX1.out.size)); have HBF := Lib.hid hb6; clear hb6)
          refine hK.out _ _ HX2.out (fun hHeld => ?_)
          clear hK K
          refine wpAnyH_take (i := 4) (oi := ⟨some 23, .move (.tmp 27), _, _, _, _⟩) (v := (.tuple #[.agg (claimC X), .bool β])) rfl (by kernel_rfl) (by kernel_rfl) (by kernel_rfl) (fun _ _ _ h => h) (Or.inl ⟨by rfl, fun W hW => by go_simp⟩) (by assumption) ?_
          simp only [Act.put, List.setIfInBounds_toArray, List.set_cons_zero, List.set_cons_succ]
          refine wpAnyH_take (i := 5) (oi := ⟨some 28, .extract (.tmp 23) 0, _, _, _, _⟩) (v := (.agg (claimC X))) rfl (by kernel_rfl) (by kernel_rfl) (by kernel_rfl) (fun _ _ _ h => h) (Or.inl ⟨by rfl, fun W hW => by go_simp⟩) (by assumption) ?_
          simp only [Act.put, List.setIfInBounds_toArray, List.set_cons_zero, List.set_cons_succ]
          refine wpAnyH_take (i := 6) (oi := ⟨some 29, .extract (.tmp 23) 1, _, _, _, _⟩) (v := (.bool β)) rfl (by kernel_rfl) (by kernel_rfl) (by kernel_rfl) (fun _ _ _ h => h) (Or.inl ⟨by rfl, fun W hW => by go_simp⟩) (by assumption) ?_
          simp only [Act.put, List.setIfInBounds_toArray, List.set_cons_zero, List.set_cons_succ]
          refine wpAnyH_ready (rs := [7]) (by kernel_rfl) (by simp) ?_
          refine AllReadyH.cons (o := ⟨some 7, .alloc CEr, _, _, _, _⟩) rfl (fun K hK => ?_) AllReadyH.nil
          go_simp
          have HK0 := Lib.hid (BlkAt.new wf CEr (claimC default))
          have HX3 := Lib.hid (HX2.out.alloc HX2.out.size (.cells (claimC default) CEr))
          have HGK := Lib.hid (HX2.out.size)
          have HAB := Lib.hid ((Below.refl wf.heap.size wf).alloc (Nat.le_refl _) (.cells (claimC default) CEr))
          refine hK.out _ _ HX3.out (fun hHeld => ?_)
          clear hK K
          refine wpAnyH_ready (rs := [8]) (by kernel_rfl) (by simp) ?_
          refine AllReadyH.cons (o := ⟨none, .store CEr (.tmp 7) (.tmp 28), _, _, _, _⟩) rfl (fun K hK => ?_) AllReadyH.nil
          refine ready_step (wp_store_blk (vs := claimL X) HK0.out (size70L X HXC.out) (by rw [claimL_len HXC.out.1 HXC.out.2]; rfl) (claimL_one _) _ _ rfl rfl rfl ?_)
          intro Ws hks hgs
          have HBS := Lib.hid (HX3.out.grown hgs HX3.out.size (fun q hq => by cases hq; exact HGK.out))
          have HKS := Lib.hid hks
          clear hks hgs
          refine hK.out _ _ HBS.out (fun hHeld => ?_)
          clear hK K
          refine wpAnyH_take (i := 9) (oi := ⟨some 8, .assign (.tmp 29), _, _, _, _⟩) (v := (.bool β)) rfl (by kernel_rfl) (by kernel_rfl) (by kernel_rfl) (fun _ _ _ h => h) (Or.inl ⟨by rfl, fun W hW => by go_simp⟩) (by assumption) ?_
          simp only [Act.put, List.setIfInBounds_toArray, List.set_cons_zero, List.set_cons_succ]
          refine wpAnyH_done (by kernel_rfl) ?_ _
          go_wp2_with fail
          go_meet
          exact ⟨_, rfl, rfl, HKS, HBS⟩
        · go_simp
          have HK0 := Lib.hid (BlkAt.new wt CEr (claimC default))
          have HX2 := Lib.hid (HX1.out.alloc HX1.out.size (.cells (claimC default) CEr))
          have HGK := Lib.hid (HX1.out.size)
          have HAB := Lib.hid ((Below.refl wt.heap.size wt).alloc (Nat.le_refl _) (.cells (claimC default) CEr))
          refine hK.out _ _ HX2.out (fun hHeld => ?_)
          clear hK K
          refine wpAnyH_ready (rs := [3]) (by kernel_rfl) (by simp) ?_
          refine AllReadyH.cons (o := ⟨some 27, .call { callee := .value (.func 12), args := #[.tmp 25, .tmp 26], argTypes := #[26, 35] }, _, _, _, _⟩) rfl (fun K hK => ?_) AllReadyH.nil
          go_simp
          go_wp2_with (go_at_call 12; go_must (refine (HLA.out _ _ _ (HA5.out.below HAB.out) (HBB.out.trans (HX2.out.mono HBB.out.size))).mono ?_); rintro e wf ⟨rfl, hb6⟩; have HX3 := Lib.hid (HX2.out.trans (hb6.mono HX2.out.size)); have HBF := Lib.hid hb6; clear hb6)
          refine hK.out _ _ HX3.out (fun hHeld => ?_)
          clear hK K
          refine wpAnyH_take (i := 4) (oi := ⟨some 23, .move (.tmp 27), _, _, _, _⟩) (v := (.tuple #[.agg (claimC X), .bool β])) rfl (by kernel_rfl) (by kernel_rfl) (by kernel_rfl) (fun _ _ _ h => h) (Or.inl ⟨by rfl, fun W hW => by go_simp⟩) (by assumption) ?_
          simp only [Act.put, List.setIfInBounds_toArray, List.set_cons_zero, List.set_cons_succ]
          refine wpAnyH_take (i := 5) (oi := ⟨some 28, .extract (.tmp 23) 0, _, _, _, _⟩) (v := (.agg (claimC X))) rfl (by kernel_rfl) (by kernel_rfl) (by kernel_rfl) (fun _ _ _ h => h) (Or.inl ⟨by rfl, fun W hW => by go_simp⟩) (by assumption) ?_
          simp only [Act.put, List.setIfInBounds_toArray, List.set_cons_zero, List.set_cons_succ]
          refine wpAnyH_take (i := 6) (oi := ⟨some 29, .extract (.tmp 23) 1, _, _, _, _⟩) (v := (.bool β)) rfl (by kernel_rfl) (by kernel_rfl) (by kernel_rfl) (fun _ _ _ h => h) (Or.inl ⟨by rfl, fun W hW => by go_simp⟩) (by assumption) ?_
          simp only [Act.put, List.setIfInBounds_toArray, List.set_cons_zero, List.set_cons_succ]
          refine wpAnyH_ready (rs := [8]) (by kernel_rfl) (by simp) ?_
          refine AllReadyH.cons (o := ⟨none, .store CEr (.tmp 7) (.tmp 28), _, _, _, _⟩) rfl (fun K hK => ?_) AllReadyH.nil
          refine ready_step (wp_store_blk (vs := claimL X) (HK0.out.below HBF.out) (size70L X HXC.out) (by rw [claimL_len HXC.out.1 HXC.out.2]; rfl) (claimL_one _) _ _ rfl rfl rfl ?_)
          intro Ws hks hgs
          have HBS := Lib.hid (HX3.out.grown hgs HX3.out.size (fun q hq => by cases hq; exact HGK.out))
          have HKS := Lib.hid hks
          clear hks hgs
          refine hK.out _ _ HBS.out (fun hHeld => ?_)
          clear hK K
          refine wpAnyH_take (i := 9) (oi := ⟨some 8, .assign (.tmp 29), _, _, _, _⟩) (v := (.bool β)) rfl (by kernel_rfl) (by kernel_rfl) (by kernel_rfl) (fun _ _ _ h => h) (Or.inl ⟨by rfl, fun W hW => by go_simp⟩) (by assumption) ?_
          simp only [Act.put, List.setIfInBounds_toArray, List.set_cons_zero, List.set_cons_succ]
          refine wpAnyH_done (by kernel_rfl) ?_ _
          go_wp2_with fail
          go_meet
          exact ⟨_, rfl, rfl, HKS, HBS⟩
      · go_simp
        have HK0 := Lib.hid (BlkAt.new wb.drew CEr (claimC default))
        have HX1 := Lib.hid (HBd.out.alloc HBd.out.size (.cells (claimC default) CEr))
        have HGK := Lib.hid (HBd.out.size)
        have HAB := Lib.hid ((Below.refl wb.drew.heap.size wb.drew).alloc (Nat.le_refl _) (.cells (claimC default) CEr))
        refine hK.out _ _ HX1.out (fun hHeld => ?_)
        clear hK K
        refine wpAnyH_ready (rs := [1]) (by kernel_rfl) (by simp) ?_
        refine AllReadyH.cons (o := ⟨some 25, .call { callee := .value (.func 7), args := #[.tmp 24], argTypes := #[22] }, _, _, _, _⟩) rfl (fun K hK => ?_) AllReadyH.nil
        go_simp
        go_wp2_with (go_at_call 7; go_must (refine (HTO.out _ (HBB.out.trans (HX1.out.mono HBB.out.size))).mono ?_); rintro e wt ⟨a5, c5, rfl, ho5, hb5⟩; rw [HL.out] at ho5 ⊢; have HA5 := Lib.hid ho5.atG; have HX2 := Lib.hid (HX1.out.trans (hb5.mono HX1.out.size)); have HBT := Lib.hid hb5; clear ho5 hb5)
        refine hK.out _ _ HX2.out (fun hHeld => ?_)
        clear hK K
        refine wpAnyH_ready (rs := [3]) (by kernel_rfl) (by simp) ?_
        refine AllReadyH.cons (o := ⟨some 27, .call { callee := .value (.func 12), args := #[.tmp 25, .tmp 26], argTypes := #[26, 35] }, _, _, _, _⟩) rfl (fun K hK => ?_) AllReadyH.nil
        go_simp
        go_wp2_with (go_at_call 12; go_must (refine (HLA.out _ _ _ HA5.out (HBB.out.trans (HX2.out.mono HBB.out.size))).mono ?_); rintro e wf ⟨rfl, hb6⟩; have HX3 := Lib.hid (HX2.out.trans (hb6.mono HX2.out.size)); have HBF := Lib.hid hb6; clear hb6)
        refine hK.out _ _ HX3.out (fun hHeld => ?_)
        clear hK K
        refine wpAnyH_take (i := 4) (oi := ⟨some 23, .move (.tmp 27), _, _, _, _⟩) (v := (.tuple #[.agg (claimC X), .bool β])) rfl (by kernel_rfl) (by kernel_rfl) (by kernel_rfl) (fun _ _ _ h => h) (Or.inl ⟨by rfl, fun W hW => by go_simp⟩) (by assumption) ?_
        simp only [Act.put, List.setIfInBounds_toArray, List.set_cons_zero, List.set_cons_succ]
        refine wpAnyH_take (i := 5) (oi := ⟨some 28, .extract (.tmp 23) 0, _, _, _, _⟩) (v := (.agg (claimC X))) rfl (by kernel_rfl) (by kernel_rfl) (by kernel_rfl) (fun _ _ _ h => h) (Or.inl ⟨by rfl, fun W hW => by go_simp⟩) (by assumption) ?_
        simp only [Act.put, List.setIfInBounds_toArray, List.set_cons_zero, List.set_cons_succ]
        refine wpAnyH_take (i := 6) (oi := ⟨some 29, .extract (.tmp 23) 1, _, _, _, _⟩) (v := (.bool β)) rfl (by kernel_rfl) (by kernel_rfl) (by kernel_rfl) (fun _ _ _ h => h) (Or.inl ⟨by rfl, fun W hW => by go_simp⟩) (by assumption) ?_
        simp only [Act.put, List.setIfInBounds_toArray, List.set_cons_zero, List.set_cons_succ]
        refine wpAnyH_ready (rs := [8]) (by kernel_rfl) (by simp) ?_
        refine AllReadyH.cons (o := ⟨none, .store CEr (.tmp 7) (.tmp 28), _, _, _, _⟩) rfl (fun K hK => ?_) AllReadyH.nil
        refine ready_step (wp_store_blk (vs := claimL X) ((HK0.out.below HBT.out).below HBF.out) (size70L X HXC.out) (by rw [claimL_len HXC.out.1 HXC.out.2]; rfl) (claimL_one _) _ _ rfl rfl rfl ?_)
        intro Ws hks hgs
        have HBS := Lib.hid (HX3.out.grown hgs HX3.out.size (fun q hq => by cases hq; exact HGK.out))
        have HKS := Lib.hid hks
        clear hks hgs
        refine hK.out _ _ HBS.out (fun hHeld => ?_)
        clear hK K
        refine wpAnyH_take (i := 9) (oi := ⟨some 8, .assign (.tmp 29), _, _, _, _⟩) (v := (.bool β)) rfl (by kernel_rfl) (by kernel_rfl) (by kernel_rfl) (fun _ _ _ h => h) (Or.inl ⟨by rfl, fun W hW => by go_simp⟩) (by assumption) ?_
        simp only [Act.put, List.setIfInBounds_toArray, List.set_cons_zero, List.set_cons_succ]
        refine wpAnyH_done (by kernel_rfl) ?_ _
        go_wp2_with fail
        go_meet
        exact ⟨_, rfl, rfl, HKS, HBS⟩
  case rest =>
    obtain ⟨g7, rfl, rfl, HK7, HBC⟩ := hcut
    have HBc := Lib.hid (HBB.out.trans (HBC.out.mono HBB.out.size))
    have HK4c := Lib.hid (HK4.out.below HBC.out)
    clear HK4
    cases q
    · have HNR : Hid (¬ RightR L) := Lib.hid (fun h => by have := HQR.out.2 h; cases this)
      obtain ⟨rfl, rfl⟩ := lastP_bad HPL.out HNR.out
      have HKK : Hid (true = decide (keyF zeroK zeroK = 0)) := Lib.hid (decide_eq_true (keyF_self _)).symm
      go_wp2_with (first
        | (go_at_call 7; (with_reducible refine (HTO.out _ HBc.out).mono ?_); rintro e w6 ⟨a6, c6, rfl, ho6, hb6⟩; rw [HL.out] at ho6 ⊢; have HB6 := Lib.hid (HBc.out.trans (hb6.mono HBc.out.size)); have HA6 := Lib.hid ho6.atG; have HK76 := Lib.hid (HK7.out.below hb6); clear ho6 hb6)
        | (go_at_call 13; go_must (refine (HFI.out _ _ _ HA6.out HB6.out).mono ?_); rintro e w7 ⟨S, P, k, qf, rfl, hsh, hp, hkc, hfd, hb7⟩; obtain ⟨rfl, rfl⟩ := found_bad hsh HNR.out hfd; have HB7 := Lib.hid (HB6.out.trans (hb7.mono HB6.out.size)); have HK77 := Lib.hid (HK76.out.below hb7); clear hsh hp hkc hfd hb7)
        | ((with_reducible show wpList _ _ _ (⟨_, Op.store _ (.tmp 9) _, _, _, _, _⟩ :: _) _ _); go_must (refine store_key rfl rfl _ _ rfl zeroK rfl rfl rfl ?_); intro W8 hk8 hb8 hs8; have HB8 := Lib.hid (HB7.out.trans (hb8.mono HB7.out.size)); have HK78 := Lib.hid (HK77.out.below hb8); have HK9 := Lib.hid hk8; generalize w7.heap.size = g9 at hk8 hs8 HK9 ⊢; clear hk8 hb8 hs8)
        | (go_at_call 8; go_must (refine (HRR.out _ HB8.out).mono ?_); rintro e w9 ⟨rfl, hb9⟩; have HB9 := Lib.hid (HB8.out.trans (hb9.mono HB8.out.size)); have HK79 := Lib.hid (HK78.out.below hb9); have HK99 := Lib.hid (HK9.out.below hb9); clear hb9)
        | ((with_reducible show wpList _ _ _ (⟨some 47, _, _, _, _, _⟩ :: _) _ _); go_must (refine wl_ex rfl (exec_loadClaim _ rfl _ _ default ⟨rfl, rfl⟩ rfl HK79.out.range) ?_))
        | ((with_reducible show wpList _ _ _ (⟨some 48, _, _, _, _, _⟩ :: _) _ _); go_must (refine wl_ex rfl (exec_zeroC rfl) ?_))
        | ((with_reducible show wpList _ _ _ (⟨some 49, _, _, _, _, _⟩ :: _) _ _); go_must (refine wl_ex rfl (exec_eqlClaim _ _ _ rfl default ⟨rfl, rfl⟩ rfl rfl) ?_))
        | ((with_reducible show wpList _ _ _ (⟨some 52, _, _, _, _, _⟩ :: _) _ _); go_must (refine wl_ex rfl (exec_loadKey _ rfl _ _ zeroK rfl rfl HK99.out.range) ?_))
        | ((with_reducible show wpList _ _ _ (⟨some 53, _, _, _, _, _⟩ :: _) _ _); go_must (refine wl_ex rfl (exec_zeroKey rfl) ?_))
        | ((with_reducible show wpList _ _ _ (⟨some 54, _, _, _, _, _⟩ :: _) _ _); go_must (refine wl_ex rfl (exec_eqlKey _ _ _ rfl zeroK zeroK rfl rfl rfl rfl true HKK.out) ?_))
        | (go_at_call 10; go_must (refine (AW.out _ HB9.out).mono ?_); rintro e wz ⟨rfl, hbz⟩))
      go_ret
      exact ⟨rfl, HB9.out.trans (hbz.mono HB9.out.size)⟩
    · have HR1 : Hid (RightR L) := Lib.hid (HQR.out.1 rfl)
      go_wp2_with (first
        | (go_at_call 7; (with_reducible refine (HTO.out _ HBc.out).mono ?_); rintro e w6 ⟨a6, c6, rfl, ho6, hb6⟩; rw [HL.out] at ho6 ⊢; have HB6 := Lib.hid (HBc.out.trans (hb6.mono HBc.out.size)); have HA6 := Lib.hid ho6.atG; have HK76 := Lib.hid (HK7.out.below hb6); have HK46 := Lib.hid (HK4c.out.below hb6); clear ho6 hb6)
        | (go_at_call 13; go_must (refine (HFI.out _ _ _ HA6.out HB6.out).mono ?_); rintro e w7 ⟨S, P, k, qf, rfl, hsh, hp, hkc, hfd, hb7⟩; have HS := Lib.hid hsh; have HP := Lib.hid hp; have HKC := Lib.hid hkc; have HFD := Lib.hid hfd; have HKK : Hid (true = decide (keyF k k = 0)) := Lib.hid (decide_eq_true (keyF_self _)).symm; have HB7 := Lib.hid (HB6.out.trans (hb7.mono HB6.out.size)); have HK77 := Lib.hid (HK76.out.below hb7); have HK47 := Lib.hid (HK46.out.below hb7); clear hsh hp hkc hfd hb7)
        | ((with_reducible show wpList _ _ _ (⟨_, Op.store _ (.tmp 9) _, _, _, _, _⟩ :: _) _ _); go_must (refine store_key rfl rfl _ _ rfl k HKC.out rfl rfl ?_); intro W8 hk8 hb8 hs8; have HB8 := Lib.hid (HB7.out.trans (hb8.mono HB7.out.size)); have HK78 := Lib.hid (HK77.out.below hb8); have HK48 := Lib.hid (HK47.out.below hb8); have HK9 := Lib.hid hk8; generalize w7.heap.size = g9 at hk8 hs8 HK9 ⊢; clear hk8 hb8 hs8)
        | (go_at_call 8; go_must (refine (HRR.out _ HB8.out).mono ?_); rintro e w9 ⟨rfl, hb9⟩; have HB9 := Lib.hid (HB8.out.trans (hb9.mono HB8.out.size)); have HK79 := Lib.hid (HK78.out.below hb9); have HK49 := Lib.hid (HK48.out.below hb9); have HK99 := Lib.hid (HK9.out.below hb9); clear hb9)
        | ((with_reducible show wpList _ _ _ (⟨some 61, _, _, _, _, _⟩ :: _) _ _); go_must (refine wl_ex rfl (exec_loadKey _ rfl _ _ d HDL.out rfl HK49.out.range) ?_))
        | (go_at_call 14; go_must (refine (HRL.out _ HB9.out).mono ?_); rintro e w10 ⟨Y, b, rfl, hok, hlast, hb10⟩; obtain ⟨rfl, rfl⟩ := lastP_uniq HR1.out HPL.out hlast; have HB10 := Lib.hid (HB9.out.trans (hb10.mono HB9.out.size)); have HK7A := Lib.hid (HK79.out.below hb10); have HK9A := Lib.hid (HK99.out.below hb10); clear hok hlast hb10)
        | ((with_reducible show wpList _ _ _ (⟨_, Op.store _ (.tmp 11) _, _, _, _, _⟩ :: _) _ _); go_must (refine store_claim14 rfl rfl _ _ rfl X HXC.out rfl rfl ?_); intro W11 hk11 hb11 hs11; have HB11 := Lib.hid (HB10.out.trans (hb11.mono HB10.out.size)); have HK7B := Lib.hid (HK7A.out.below hb11); have HK9B := Lib.hid (HK9A.out.below hb11); have HK11 := Lib.hid hk11; generalize w10.heap.size = g11 at hk11 hs11 HK11 ⊢; clear hk11 hb11 hs11)
        | (go_at_call 15; go_must (refine (HRF.out _ HB11.out HR1.out).mono ?_); rintro e w12 ⟨S2, P2, k2, q2, rfl, hsh, hp, hkc, hfd, hb12⟩; obtain rfl := Shown.uniq (List.Perm.refl _) HS.out hsh; obtain rfl := HP.out.uniq hp; obtain ⟨rfl, rfl⟩ := found_uniq HP.out HFD.out hfd; have HB12 := Lib.hid (HB11.out.trans (hb12.mono HB11.out.size)); have HK7C := Lib.hid (HK7B.out.below hb12); have HK9C := Lib.hid (HK9B.out.below hb12); have HK11C := Lib.hid (HK11.out.below hb12); clear hsh hp hkc hfd hb12)
        | ((with_reducible show wpList _ _ _ (⟨_, Op.store _ (.tmp 13) _, _, _, _, _⟩ :: _) _ _); go_must (refine store_key rfl rfl _ _ rfl k HKC.out rfl rfl ?_); intro W13 hk13 hb13 hs13; have HB13 := Lib.hid (HB12.out.trans (hb13.mono HB12.out.size)); have HK7D := Lib.hid (HK7C.out.below hb13); have HK9D := Lib.hid (HK9C.out.below hb13); have HK11D := Lib.hid (HK11C.out.below hb13); have HK13 := Lib.hid hk13; have hck := blk_kind HXO.out HK11D.out; have hcp := blk_path HXO.out HK11D.out; generalize w12.heap.size = g13 at hk13 hs13 HK13 ⊢; clear hk13 hb13 hs13)
        | ((with_reducible show wpList _ _ _ (⟨some 80, _, _, _, _, _⟩ :: _) _ _); go_must (refine wl_ex rfl (exec_loadKey _ rfl _ _ k HKC.out rfl HK9D.out.range) ?_))
        | ((with_reducible show wpList _ _ _ (⟨some 81, _, _, _, _, _⟩ :: _) _ _); go_must (refine wl_ex rfl (exec_loadKey _ rfl _ _ k HKC.out rfl HK13.out.range) ?_))
        | ((with_reducible show wpList _ _ _ (⟨some 82, _, _, _, _, _⟩ :: _) _ _); go_must (refine wl_ex rfl (exec_eqlKey _ _ _ rfl k k HKC.out HKC.out rfl rfl true HKK.out) ?_))
        | ((with_reducible show wpList _ _ _ (⟨some 85, _, _, _, _, _⟩ :: _) _ _); go_must (refine wl_ex rfl (exec_loadClaim _ rfl _ _ X HXC.out rfl HK7D.out.range) ?_))
        | ((with_reducible show wpList _ _ _ (⟨some 87, _, _, _, _, _⟩ :: _) _ _); go_must (refine wl_ex rfl (exec_loadKey _ rfl _ _ X.key HXC.out.1 rfl (blk_key HXO.out HK11D.out)) ?_))
        | ((with_reducible show wpList _ _ _ (⟨some 89, _, _, _, _, _⟩ :: _) _ _); go_must (refine wl_ex rfl (exec_loadKey _ rfl _ _ X.doc HXC.out.2 rfl (blk_doc HXO.out HK11D.out)) ?_))
        | ((with_reducible show wpList _ _ _ (⟨some 94, _, _, _, _, _⟩ :: _) _ _); go_must (refine wl_ex rfl (exec_claim _ _ _ _ rfl X HXC.out rfl rfl rfl rfl) ?_))
        | ((with_reducible show wpList _ _ _ (⟨some 95, _, _, _, _, _⟩ :: _) _ _); go_must (refine wl_ex rfl (exec_eqlClaim _ _ _ rfl X HXC.out rfl rfl) ?_))
        | (go_at_call 10; go_must (refine (AW.out _ HB13.out).mono ?_); rintro e wz ⟨rfl, hbz⟩))
      go_ret
      exact ⟨rfl, HB13.out.trans (hbz.mono HB13.out.size)⟩
#print axioms registerLasts_any
end Go.Proofs.YtipoielcmaegaaaGreatDoor
