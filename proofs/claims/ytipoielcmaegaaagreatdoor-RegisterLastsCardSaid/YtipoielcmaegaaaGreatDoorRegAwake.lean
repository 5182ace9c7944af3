/-
  The walk of the chapter's first example.
-/
import Derived.Test.YtipoielcmaegaaaGreatDoorRgFindAll
namespace Go.Proofs.YtipoielcmaegaaaGreatDoor
open Go.RowKit

def ak1 : KeyV := ⟨1, zeroId, 0⟩
def ak2 : KeyV := ⟨2, zeroId, 0⟩
def aw1 : ClaimV := ⟨ak1, ak1, 3, [97]⟩
def aw2 : ClaimV := ⟨ak2, ak2, 3, [97]⟩
def aw3 : ClaimV := ⟨zeroK, zeroK, 3, []⟩
theorem some_of {α : Type} {o : Option α} (h : o.isSome = true) : ∃ l, o = some l := Option.isSome_iff_exists.1 h
theorem kl1 : ∃ l, KlK ak1 l := some_of (by kernel_rfl)
theorem kl2 : ∃ l, KlK ak2 l := some_of (by kernel_rfl)
theorem kl0 : ∃ l, KlK zeroK l := some_of (by kernel_rfl)
theorem ok1 : ClOk aw1 := ⟨rfl, rfl, kl1, kl1, by decide⟩
theorem ok2 : ClOk aw2 := ⟨rfl, rfl, kl2, kl2, by decide⟩
theorem ok3 : ClOk aw3 := ⟨rfl, rfl, kl0, kl0, by decide⟩
theorem right12 : RightR [aw1, aw2] := ⟨fun c hc => by
  simp only [List.mem_cons, List.not_mem_nil, or_false] at hc
  rcases hc with rfl | rfl <;> decide +kernel, by
  refine List.pairwise_cons.2 ⟨fun b hb => ?_, List.pairwise_singleton _ _⟩
  simp only [List.mem_singleton] at hb
  subst hb
  decide +kernel⟩
theorem shown12 : Shown [aw1, aw2] [aw1, aw2] := by
  have hne : ak1 ≠ ak2 := fun e => by
    have := congrArg KeyV.t e
    exact absurd this (by decide)
  refine .inl ⟨right12, ?_, fun c => ?_⟩
  · refine List.pairwise_cons.2 ⟨fun b hb => ?_, List.pairwise_singleton _ _⟩
    simp only [List.mem_singleton] at hb
    subst hb
    decide +kernel
  · constructor
    · intro hc
      have hc2 := hc
      simp only [List.mem_cons, List.not_mem_nil, or_false] at hc2
      refine ⟨⟨hc, fun x hx e => ?_⟩, ?_⟩
      · simp only [List.mem_cons, List.not_mem_nil, or_false] at hx
        rcases hc2 with rfl | rfl <;> rcases hx with rfl | rfl
        · rw [keyF_self]; decide
        · exact absurd e.symm hne
        · exact absurd e hne
        · rw [keyF_self]; decide
      · rcases hc2 with rfl | rfl <;> decide
    · intro h; exact h.1.1
theorem fresh_a1 : FreshR [97] [[97]] [97, 126, 49] := by
  refine .inr ⟨by decide, 1, ⟨by decide, ?_, fun m h1 h2 => by omega⟩, ?_⟩
  · rw [num1 _ (by decide)]; decide
  · rw [num1 _ (by decide)]; decide
theorem paths12 : PathsTo [aw1, aw2] [[97], [97, 126, 49]] := ⟨rfl, fun i hi => by
  have : i = 0 ∨ i = 1 := by simp at hi; omega
  rcases this with rfl | rfl
  · exact .inl ⟨rfl, rfl⟩
  · exact fresh_a1⟩
theorem notRight3 : ¬ RightR [aw3] := fun h => absurd (h.1 aw3 (by simp)) (by decide +kernel)

theorem built_k1 : Tryz.prog.built 35 [(0, .int .i64 1)] = some (keyC ak1) := by kernel_rfl
theorem built_k2 : Tryz.prog.built 35 [(0, .int .i64 2)] = some (keyC ak2) := by kernel_rfl
theorem built_c3 : Tryz.prog.built CEr [(2, .int .u8 3)] = some (claimC aw3) := by kernel_rfl
theorem exec_k1 {w : World} {o : Oper} {a : Act} (ho : o.op = .build 35 #[(0, .const (.int .i64 1))]) : (execOp a.eval o).run Tryz.prog w = .ok (.value (.agg (keyC ak1))) w := by
  refine exec_build _ _ ho _ ?_
  have e : (#[(0, Operand.const (.int .i64 1))].map fun (q : Nat × Operand) => (q.1, a.eval q.2)).toList = [(0, .int .i64 1)] := by simp [Act.eval]
  exact (congrArg _ e).trans built_k1
theorem exec_k2 {w : World} {o : Oper} {a : Act} (ho : o.op = .build 35 #[(0, .const (.int .i64 2))]) : (execOp a.eval o).run Tryz.prog w = .ok (.value (.agg (keyC ak2))) w := by
  refine exec_build _ _ ho _ ?_
  have e : (#[(0, Operand.const (.int .i64 2))].map fun (q : Nat × Operand) => (q.1, a.eval q.2)).toList = [(0, .int .i64 2)] := by simp [Act.eval]
  exact (congrArg _ e).trans built_k2
theorem exec_c3 {w : World} {o : Oper} {a : Act} (ho : o.op = .build CEr #[(2, .const (.int .u8 3))]) : (execOp a.eval o).run Tryz.prog w = .ok (.value (.agg (claimC aw3))) w := by
  refine exec_build _ _ ho _ ?_
  have e : (#[(2, Operand.const (.int .u8 3))].map fun (q : Nat × Operand) => (q.1, a.eval q.2)).toList = [(2, .int .u8 3)] := by simp [Act.eval]
  exact (congrArg _ e).trans built_c3
theorem two_blks (w : World) (E : TypeId) (cs cs' : Array Value) : BlkAt E ((w.alloc (.cells cs E)).alloc (.cells cs' E)) w.heap.size cs.toList ∧ BlkAt E ((w.alloc (.cells cs E)).alloc (.cells cs' E)) (w.heap.size + 1) cs'.toList := by
  refine ⟨(BlkAt.new w E cs).below ((Below.refl _ _).alloc (Nat.le_refl _) _), ?_⟩
  have := BlkAt.new (w.alloc (.cells cs E)) E cs'
  simpa using this
theorem fill12 : ∀ z, z = Value.agg (claimC default) → Instr.fill (fun i => some (i * 70, 70)) ((Array.range (2 * 70)).map (z.cells[· % z.cells.size]!)) [(0, .agg (claimC aw1)), (1, .agg (claimC aw2))] = some (claimL aw1 ++ claimL aw2).toArray := by
  rintro z rfl
  kernel_rfl
/-- A slice literal of the two. -/
theorem sl_two {ops : Array Oper} {rest : List Oper} {o : Oper} {a : Act} {w : World} {Q : Exit → Act → World → Prop} (hg : o.guard = none) (x y : Operand) (ho : o.op = .buildSlice 26 2 #[(0, x), (1, y)]) (hx : a.eval x = .agg (claimC aw1)) (hy : a.eval y = .agg (claimC aw2))
    (h : ∀ W, AtG clK W (some ⟨w.heap.size, 0, none⟩) 2 2 [aw1, aw2] → Below w.heap.size w W → wpList Tryz.prog ops Q rest (a.put o.dst (.slice (some ⟨w.heap.size, 0, none⟩) 2 2)) W) : wpList Tryz.prog ops Q (o :: rest) a w :=
  wpList_plain hg fun _ hK => by
    obtain ⟨i0, hi, hz0, hz1, hz2⟩ := info_parts infoCl
    refine wp_buildSlice 26 CEr 2 #[(0, x), (1, y)] ho (claimL aw1 ++ claimL aw2).toArray i0 _ Tryz.underlying26 hi hz0 (by rw [hz1]; decide) (by rw [hz1]; decide) ?_ (hK _ _ (h _ ?_ ((Below.refl _ _).alloc (Nat.le_refl _) _)))
    · rw [hz1]
      have e : (#[(0, x), (1, y)].map fun (p : Nat × Operand) => (p.1, a.eval p.2)).toList = [(0, .agg (claimC aw1)), (1, .agg (claimC aw2))] := by simp [hx, hy]
      exact (congrArg (Instr.fill (fun i => some (i * 70, 70)) _) e).trans (fill12 _ rfl)
    · have hb := BlkAt.new w CEr (claimL aw1 ++ claimL aw2).toArray
      have l1 : (claimL aw1).length = 70 := rfl
      have l2 : (claimL aw2).length = 70 := rfl
      refine ⟨rfl, Nat.le_refl _, by omega, fun c hc => ?_, .inr ⟨_, _, rfl, fun j hj i v hv => ?_⟩⟩
      · simp only [List.mem_cons, List.not_mem_nil, or_false] at hc
        rcases hc with rfl | rfl
        · exact ok1
        · exact ok2
      · have hk : clK.k = 70 := rfl
        have hj2 : j = 0 ∨ j = 1 := by omega
        rw [hk]
        rcases hj2 with rfl | rfl
        · have hv' : (claimL aw1)[i]? = some v := hv
          refine hb.cell _ v ?_
          show (claimL aw1 ++ claimL aw2)[0 + 0 * 70 + i]? = some v
          rw [show 0 + 0 * 70 + i = i from by omega, List.getElem?_append_left (List.getElem?_eq_some_iff.1 hv').1]
          exact hv'
        · have hv' : (claimL aw2)[i]? = some v := hv
          refine hb.cell _ v ?_
          show (claimL aw1 ++ claimL aw2)[0 + 1 * 70 + i]? = some v
          rw [List.getElem?_append_right (by omega), l1, show 0 + 1 * 70 + i - 70 = i from by omega]
          exact hv'

theorem two_below (w : World) (E : TypeId) (cs cs' : Array Value) : Below w.heap.size w ((w.alloc (.cells cs E)).alloc (.cells cs' E)) := ((Below.refl _ _).alloc (Nat.le_refl _) _).alloc (by simp) _
theorem aw_paths {w : World} {a : Option Addr} {c : Nat} (h : AtG nmK w a [aw1, aw2].length c (zipN [aw1, aw2] [[97], [97, 126, 49]])) : ∃ b o, a = some ⟨b, o, none⟩ ∧ w.cell? ⟨b, o + 34, none⟩ = some (.string (strB [97])) ∧ w.cell? ⟨b, o + 35 + 34, none⟩ = some (.string (strB [97, 126, 49])) := by
  obtain ⟨b, o, rfl⟩ := h.some_ (by decide)
  refine ⟨b, o, rfl, ?_, ?_⟩
  · have := nm_path h (j := 0) (by decide)
    rwa [Nat.zero_mul, Nat.add_zero] at this
  · have := nm_path h (j := 1) (by decide)
    rwa [Nat.one_mul] at this
theorem sl_claim_w {ops : Array Oper} {rest : List Oper} {o : Oper} {a : Act} {w : World} {Q : Exit → Act → World → Prop} (hw : Region.wanted o (yielded ops a.tmps) = true) (x : Operand) (ho : o.op = .buildSlice 26 1 #[(0, x)]) (X : ClaimV) (hX : X.key.c.length = 32 ∧ X.doc.c.length = 32) (hx : a.eval x = .agg (claimC X))
    (h : wpList Tryz.prog ops Q rest (a.put o.dst (.slice (some ⟨w.heap.size, 0, none⟩) 1 1)) (w.alloc (.cells (claimC X) CEr))) : wpList Tryz.prog ops Q (o :: rest) a w := by
  unfold wpList
  rw [if_pos hw]
  exact .inl (wp_sl_claim x ho X hX hx h)
theorem ne_succ (n : Nat) : some (n + 1) ≠ some n := by simp
theorem succ_ne (n : Nat) : some n ≠ some (n + 1) := by simp
theorem own_le (n : Nat) : ∀ k, some n = some k → n ≤ k := fun k h => by cases h; exact Nat.le_refl _
theorem own_le1 (n : Nat) : ∀ k, some (n + 1) = some k → n ≤ k := fun k h => by cases h; omega

set_option maxRecDepth 100000 in
set_option maxHeartbeats 2000000 in
theorem regAwake_any (w : World) (hT : PTabs w) : Calls Tryz.prog 10 #[] w fun e w' => e = .returned (.bool true) ∧ Below w.heap.size w w' := by
  have HT := Lib.hid hT
  clear hT
  have hz1 : ((strB [97]).toList == [97]) = true := by rw [Lib.toList_data, strB_list]; rfl
  have hz2 : ((strB [97, 126, 49]).toList == [97, 126, 49]) = true := by rw [Lib.toList_data, strB_list]; rfl
  have HPA := Lib.hid (fun W a c h hT => paths_any a 2 c [aw1, aw2] W h (by decide) (by decide) hT)
  have HR3 := Lib.hid (fun W a c h hT => right_is a 1 c [aw3] W h (by decide) (by decide) hT false (by simp [notRight3]))
  obtain ⟨s1, hs1⟩ : ∃ s, s = strB [97] := ⟨_, rfl⟩
  obtain ⟨s2, hs2⟩ : ∃ s, s = strB [97, 126, 49] := ⟨_, rfl⟩
  rw [← hs1] at hz1
  rw [← hs2] at hz2
  have HS1 := Lib.hid hs1
  have HS2 := Lib.hid hs2
  clear hs1 hs2
  go_enter Tryz.func10, Tryz.ntmps10
  go_wp2_with (first
    | ((with_reducible show wpList _ _ _ (⟨some 4, _, _, _, _, _⟩ :: _) _ _); go_must (refine wl_ex rfl (exec_k1 rfl) ?_))
    | ((with_reducible show wpList _ _ _ (⟨some 5, _, _, _, _, _⟩ :: _) _ _); go_must (refine wl_ex rfl (exec_k2 rfl) ?_))
    | ((with_reducible show wpList _ _ _ (⟨_, Op.store _ (.tmp 1) _, _, _, _, _⟩ :: _) _ _); go_must (refine store_blk (vs := keyL ak1) (two_blks w 35 (keyC zeroK) (keyC zeroK)).1 info34 rfl (keyL_one _) rfl _ _ rfl rfl rfl ?_); intro W1 hk1 hg1; have HK2 := Lib.hid ((two_blks w 35 (keyC zeroK) (keyC zeroK)).2.kept hg1 (ne_succ _)); have HK1 := Lib.hid hk1; have HB1 := Lib.hid ((two_below w 35 (keyC zeroK) (keyC zeroK)).grown hg1 (two_below w 35 (keyC zeroK) (keyC zeroK)).size (own_le _)); clear hg1 hk1)
    | ((with_reducible show wpList _ _ _ (⟨_, Op.store _ (.tmp 2) _, _, _, _, _⟩ :: _) _ _); go_must (refine store_blk (vs := keyL ak2) HK2.out info34 rfl (keyL_one _) rfl _ _ rfl rfl rfl ?_); intro W2 hk2 hg2; have HKA := Lib.hid (HK1.out.kept hg2 (succ_ne _)); have HKB := Lib.hid hk2; have HB2 := Lib.hid (HB1.out.grown hg2 HB1.out.size (own_le1 _)); clear hg2 hk2)
    | ((with_reducible show wpList _ _ _ (⟨some 6, _, _, _, _, _⟩ :: _) _ _); go_must (refine wl_loadKey rfl _ rfl _ _ ak1 rfl rfl HKA.out.range ?_))
    | ((with_reducible show wpList _ _ _ (⟨some 7, _, _, _, _, _⟩ :: _) _ _); go_must (refine wl_loadKey rfl _ rfl _ _ ak1 rfl rfl HKA.out.range ?_))
    | ((with_reducible show wpList _ _ _ (⟨some 9, _, _, _, _, _⟩ :: _) _ _); go_must (refine wl_loadKey rfl _ rfl _ _ ak2 rfl rfl HKB.out.range ?_))
    | ((with_reducible show wpList _ _ _ (⟨some 10, _, _, _, _, _⟩ :: _) _ _); go_must (refine wl_loadKey rfl _ rfl _ _ ak2 rfl rfl HKB.out.range ?_))
    | ((with_reducible show wpList _ _ _ (⟨some 8, _, _, _, _, _⟩ :: _) _ _); go_must (refine wl_ex rfl (exec_claim _ _ _ _ rfl aw1 ⟨rfl, rfl⟩ rfl rfl rfl rfl) ?_))
    | ((with_reducible show wpList _ _ _ (⟨some 11, _, _, _, _, _⟩ :: _) _ _); go_must (refine wl_ex rfl (exec_claim _ _ _ _ rfl aw2 ⟨rfl, rfl⟩ rfl rfl rfl rfl) ?_))
    | ((with_reducible show wpList _ _ _ (⟨some 12, _, _, _, _, _⟩ :: _) _ _); go_must (refine sl_two rfl _ _ rfl rfl rfl ?_); intro W3 hat hb3; have HA3 := Lib.hid hat; have HB3 := Lib.hid (HB2.out.trans (hb3.mono HB2.out.size)); clear hat hb3)
    | (go_at_call 6; go_must (refine (HPA.out _ _ _ HA3.out (HT.out.below HB3.out)).mono ?_); rintro e w4 ⟨S, P, a4, c4, rfl, hsh, hp, hat, hb4⟩; obtain rfl := hsh.uniq (List.Perm.refl _) shown12; obtain rfl := hp.uniq paths12; have HA4 := Lib.hid hat; have HB4 := Lib.hid (HB3.out.trans (hb4.mono HB3.out.size)); clear hsh hp hat hb4; obtain ⟨b4, o4, rfl, cp0, cp1⟩ := aw_paths HA4.out; rw [← HS1.out] at cp0; rw [← HS2.out] at cp1)
    | ((with_reducible show wpList _ _ _ (⟨some 32, _, _, _, _, _⟩ :: _) _ _); go_must (refine wl_ex rfl (exec_c3 rfl) ?_))
    | ((with_reducible show wpList _ _ _ (⟨some 33, _, _, _, _, _⟩ :: _) _ _); go_must (refine sl_claim_w rfl _ rfl aw3 ⟨rfl, rfl⟩ rfl ?_); have HB5 := Lib.hid (HB4.out.alloc HB4.out.size (.cells (claimC aw3) CEr)); have HA5 := Lib.hid (one_claim w4 aw3 ok3))
    | (go_at_call 9; go_must (refine (HR3.out _ _ _ HA5.out (HT.out.below HB5.out)).mono ?_); rintro e w6 ⟨rfl, hb6⟩; have HB6 := Lib.hid (HB5.out.trans (hb6.mono HB5.out.size)); clear hb6))
  go_ret
  exact ⟨rfl, HB6.out⟩
#print axioms regAwake_any
end Go.Proofs.YtipoielcmaegaaaGreatDoor
