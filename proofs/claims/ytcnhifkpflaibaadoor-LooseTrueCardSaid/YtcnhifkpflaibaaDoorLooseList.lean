/-
  The walks of Has and Drop, of List's closure, of List.
-/
import Derived.Test.YtcnhifkpflaibaaDoorLooseGet
namespace Go.Proofs.YtcnhifkpflaibaaDoor
open Go.RowKit Go.Maps

theorem ready_step {ops : Array Oper} {o : Oper} {a : Act} {w : World} {K : Act → World → Prop} {Q : Exit → Act → World → Prop} (h : o.wp Tryd.prog a w K Q) (hw : Region.wanted o (yielded ops a.tmps) = true := by rfl) : if Region.wanted o (yielded ops a.tmps) = true then o.wp Tryd.prog a w K Q else K (a.put o.dst undef) w := by
  rw [if_pos hw]; exact h
/-- An id is stored, as a step of a region. -/
theorem wp_store_id {w : World} {o : Oper} {a : Act} {K : Act → World → Prop} {Q : Exit → Act → World → Prop} (x y : Operand) (ho : o.op = .store 35 x y)
    (g : Nat) (l m : List UInt8) (hx : a.eval x = .pointer (some ⟨g, 0, none⟩)) (hy : a.eval y = .agg (idCells m)) (hg : IdAt w g l) (hm : m.length = 32)
    (h : ∀ w1, IdAt w1 g m → w.grownBy w1 (some g) → w1.heap.size = w.heap.size → K (a.put o.dst undef) w1) : o.wp Tryd.prog a w K Q := by
  have hs := run_storeVar_row (P := Tryd.prog) w g 35 35 (idCells l) (idCells m) hg.2 (by rw [idCells_size hm]; exact info_id) (by rw [idCells_size hm, idCells_size hg.1])
    (by unfold idCells; exact all_oneCell_toArray (fun v hv => by obtain ⟨x, _, rfl⟩ := List.mem_map.1 hv; rfl))
  have hr : (execOp a.eval o).run Tryd.prog w = .ok .skip (w.setRow g (idCells m)) := by
    unfold execOp
    simp only [ho, hx, hy, Instr.storeAt, Instr.sureAddr, Sem.run_bind, Sem.run_pure, Result.andThen_ok, hs]
  unfold Oper.wp
  rw [hr]
  exact h _ ⟨hm, setRow_heap w g (idCells l) (idCells m) 35 (0, 0) hg.2⟩ ⟨rfl, rfl, rfl, by simp, fun k _ hk => setRow_other w g k _ (fun e => hk (by simp [e]))⟩ (by simp)
theorem IdAt.chg {w w' : World} {g : Nat} {l : List UInt8} {X : Nat → Prop} (h : IdAt w g l) (hc : Chg X w w') (hX : ¬ X g) : IdAt w' g l := ⟨h.1, (hc.block g h.lt hX).trans h.2⟩

section
variable {w W : World} {F : Nat → Prop} {db : Nat} {S : DS}
set_option maxRecDepth 100000 in
set_option maxHeartbeats 1000000 in
theorem has_any (id : List UInt8) (hid : id.length = 32) (R : Run w W F db S) (hT : Tables w) {q : Bool} (hq : decide ((getL sumF S id).2 = 0) = q) :
    Calls Tryd.prog 19 #[Pt db, .agg (idCells id)] W fun e W' => e = .returned (.bool q) ∧ Run w W' F db S ∧ Below W.heap.size W W' := by
  have hb0 : Below W.heap.size W (W.alloc (.cells (idCells id) 35)) := (Below.refl _ _).alloc (Nat.le_refl _) _
  have hi0 := idAt_box W id hid
  obtain ⟨r, hr⟩ : ∃ r, getL sumF S id = r := ⟨_, rfl⟩
  have G := Lib.hid (get_any id hid (R.below hb0) hT hr)
  have HB0 := Lib.hid hb0
  rw [hr] at hq
  obtain ⟨b, z⟩ := r
  have k : ((z : Int) == 0) = q := by rw [← hq]; by_cases h : z = 0 <;> simp [h]
  clear hb0 hid R hT hr hq
  go_enter Tryd.func19, Tryd.ntmps19
  go_wp2_with (first
    | (refine load_id rfl (.tmp 3) rfl _ _ rfl hi0 ?_)
    | (go_at_call 14; (with_reducible refine G.out.mono ?_); rintro e w1 ⟨a1, n1, c1, rfl, hs1, hr1, hb1⟩; have R1 := Lib.hid hr1; have HB1 := Lib.hid hb1; clear hs1 hr1 hb1))
  go_ret
  exact ⟨rfl, R1.out, HB0.out.trans (HB1.out.mono HB0.out.size)⟩

set_option maxRecDepth 100000 in
set_option maxHeartbeats 1000000 in
theorem drop_any (id : List UInt8) (hid : id.length = 32) (R : Run w W F db S) {k : Nat} (hf : Few S k) (hk : k ≤ 1000000) {r : DS × Nat} (hr : dropL S id = r) :
    Calls Tryd.prog 21 #[Pt db, .agg (idCells id)] W (ActEnd w W F db r) := by
  obtain ⟨s, hs⟩ : ∃ s, strB (fileN id) = s := ⟨_, rfl⟩
  have hb0 : Below W.heap.size W (W.alloc (.cells (idCells id) 35)) := (Below.refl _ _).alloc (Nat.le_refl _) _
  have hi0 := idAt_box W id hid
  have FA := Lib.hid (fun W' => file_any id hid W' hs)
  have R0 := Lib.hid (R.below hb0)
  have HB0 := Lib.hid hb0
  have hsl : s.data.toList = fileN id := by rw [← hs, strB_list]
  obtain ⟨t, ht⟩ : ∃ t, turnS S (fileN id) (fileN id) [] = t := ⟨_, rfl⟩
  have RM := Lib.hid (fun W' (R' : Run w W' F db S) => lo_rem R' hf hk s (r := t) (by rw [hsl]; exact ht))
  unfold dropL at hr
  rw [ht] at hr
  obtain ⟨T, z⟩ := t
  simp only at hr
  have HR := Lib.hid hr
  clear hb0 hid R hf hs hsl ht hr
  by_cases h4 : z = 4
  · subst h4
    have HE := Lib.hid (show r = (T, 12) by have := HR.out; rw [if_pos rfl] at this; exact this.symm)
    go_enter Tryd.func21, Tryd.ntmps21
    go_wp2_with (first
      | (refine load_id rfl (.tmp 3) rfl _ _ rfl hi0 ?_)
      | (go_at_call 31; (with_reducible refine (FA.out _).mono ?_); rintro e w1 ⟨rfl, hb1⟩; have HB1 := Lib.hid hb1; have R1 := Lib.hid (R0.out.below hb1); clear hb1)
      | (go_at_call 43; (with_reducible refine (RM.out _ R1.out).mono ?_); rintro e w2 ⟨rfl, F2, hr2, hs2⟩; have R2 := Lib.hid hr2; have HS2 := Lib.hid hs2; clear hr2 hs2))
    go_ret
    rw [HE.out]
    exact ⟨rfl, F2, R2.out, ((Step.of_below HB0.out).trans (Step.of_below HB1.out)).trans HS2.out⟩
  · have HE := Lib.hid (show r = (T, z) by have := HR.out; rw [if_neg h4] at this; exact this.symm)
    have k4 : ((z : Int) == 4) = false := by simp; omega
    go_enter Tryd.func21, Tryd.ntmps21
    go_wp2_with (first
      | (refine load_id rfl (.tmp 3) rfl _ _ rfl hi0 ?_)
      | (go_at_call 31; (with_reducible refine (FA.out _).mono ?_); rintro e w1 ⟨rfl, hb1⟩; have HB1 := Lib.hid hb1; have R1 := Lib.hid (R0.out.below hb1); clear hb1)
      | (go_at_call 43; (with_reducible refine (RM.out _ R1.out).mono ?_); rintro e w2 ⟨rfl, F2, hr2, hs2⟩; have R2 := Lib.hid hr2; have HS2 := Lib.hid hs2; clear hr2 hs2))
    go_ret
    rw [HE.out]
    exact ⟨rfl, F2, R2.out, ((Step.of_below HB0.out).trans (Step.of_below HB1.out)).trans HS2.out⟩

/-- What List's closure tells of a name. -/
def ThereIs (w W : World) (F : Nat → Prop) (db : Nat) (S : DS) (o : Option (List UInt8)) (e : Ending) (W' : World) : Prop :=
  ∃ (id : List UInt8) (q : Bool), e = .returned (.tuple #[.agg (idCells id), .bool q]) ∧ id.length = 32 ∧ o = (if q then some id else none) ∧ Run w W' F db S ∧ Below W.heap.size W W'
set_option maxRecDepth 100000 in
set_option maxHeartbeats 2000000 in
theorem there_any (s : ByteArray) (g : Nat) (hs : s.size ≤ 1000000) (R : Run w W F db S) (hT : Tables w) (hg : W.cell? ⟨g, 0, none⟩ = some (Pt db)) {o : Option (List UInt8)} (ho : thereL sumF S s.data.toList = o) :
    Calls Tryd.prog 38 #[.string s, .pointer (some ⟨g, 0, none⟩)] W (ThereIs w W F db S o) := by
  obtain ⟨m, hm⟩ : ∃ m, decide ([111, 45] <+: s.data.toList) = m := ⟨_, rfl⟩
  have C := Lib.hid (fun W' => cut_any s W' hm)
  have HG := Lib.hid hg
  have RR := Lib.hid R
  have HT := Lib.hid hT
  have HS := Lib.hid hs
  have HO := Lib.hid ho
  have HM := Lib.hid hm
  clear hm hg R hT hs ho
  go_enter Tryd.func38, Tryd.ntmps38
  go_wp2_with (first
    | ((with_reducible show wpList _ _ _ (⟨some 3, _, _, _, _, _⟩ :: _) _ _); refine alloc_id rfl rfl ?_; intro w1 hid1 hb1 hs1; have HI1 := Lib.hid hid1; have HB1 := Lib.hid hb1; have HS1 := Lib.hid hs1; clear hid1 hb1 hs1)
    | (go_at_call 39; (with_reducible refine (C.out _).mono ?_); rintro e w2 ⟨x, rfl, hx, hz, rfl⟩; have HX := Lib.hid hx; have HZ := Lib.hid hz; clear hx hz)
    | (go_at_call 40; (with_reducible refine (unhex_any x w1 (by have := HZ.out; have := HS.out; omega)).mono ?_); rintro e w3 ⟨rfl, hb3⟩; have HB3 := Lib.hid hb3; have HI3 := Lib.hid (HI1.out.below hb3); clear hb3)
    | ((with_reducible show wpList _ _ _ (⟨some 7, _, _, _, _, _⟩ :: _) _ _); refine alloc_id rfl rfl ?_; intro w4 hid4 hb4 hs4; have HI4 := Lib.hid (HI3.out.below hb4); have HJ4 := Lib.hid hid4; have HB4 := Lib.hid hb4; have HS4 := Lib.hid hs4; clear hb4 hs4)
    | (refine store_id rfl (.tmp 7) (.tmp 17) rfl _ _ (unhexV x.data.toList) rfl rfl hid4 (unhexV_length _) ?_; intro W0 hid5 hg5 hs5; have HID7 := Lib.hid hid5; have HID3 := Lib.hid (HI4.out.chg (Chg.refl.grown (X := fun k => k = w3.heap.size) hg5 (fun k hk => by cases hk; exact .inl rfl)) (by have := HS1.out; have := HB3.out.size; omega)); have HBW := Lib.hid (((HB1.out.trans (HB3.out.mono HB1.out.size)).trans (HB4.out.mono (Nat.le_trans HB1.out.size HB3.out.size))).grown hg5 (Nat.le_trans (Nat.le_trans HB1.out.size HB3.out.size) HB4.out.size) (fun k hk => by cases hk; exact Nat.le_trans HB1.out.size HB3.out.size)); clear hid5 hg5 hs5 hid4))
  obtain ⟨g3, hg3⟩ : ∃ g3, g3 = W.heap.size := ⟨_, rfl⟩
  obtain ⟨g7, hg7⟩ : ∃ g7, g7 = w3.heap.size := ⟨_, rfl⟩
  have HG37 := Lib.hid (show ¬ g7 = g3 by have := HS1.out; have := HB3.out.size; omega)
  rw [← hg3] at HID3 ⊢
  rw [← hg7] at HID7 ⊢
  have HG3 := Lib.hid (show W.heap.size ≤ g3 by omega)
  have HXL := Lib.hid (unhexV_length x.data.toList)
  have HBD := Lib.hid ((Below.refl W0.heap.size W0).drew)
  have R0 := Lib.hid (RR.out.below HBW.out)
  have hgl : g < W.heap.size := World.block_lt_of_cell? _ _ HG.out
  have HCG := Lib.hid (fun W' (hW : Chg (fun k => k = g3) W0 W') => (show W'.cell? ⟨g, 0, none⟩ = some (Pt db) from by
    have hb : Below W.heap.size W W' := HBW.out.trans (hW.below (fun k hk => by rw [hk]; exact HG3.out) HBW.out.size)
    exact (hb.cell hgl).trans HG.out))
  clear hg3 hg7 hgl
  cases m with
  | false =>
    have HN := Lib.hid (show o = none by
      rw [← HO.out]
      unfold thereL
      rw [if_neg (fun h => (of_decide_eq_false HM.out) h.1)])
    generalize unhexB x.data.toList = n0 
    refine wp_region_held_drew (S := fun W' => Chg (fun k => k = g3) W0 W') (by kernel_rfl) Chg.refl.drew (fun hHeld => ?_)
    refine wpAnyH_take (i := 0) (oi := ⟨some 19, .load 35 (.tmp 7), _, _, _, _⟩) (v := (.agg (idCells (unhexV x.data.toList)))) rfl (by kernel_rfl) (by kernel_rfl) (by kernel_rfl) (fun _ _ _ h => h) (Or.inl ⟨by rfl, fun W hW => exec_loadId _ rfl _ _ _ HXL.out rfl (HID7.out.chg hW HG37.out).range⟩) (by assumption) ?_
    simp only [Act.put, List.setIfInBounds_toArray, List.set_cons_zero, List.set_cons_succ]
    refine wpAnyH_take (i := 1) (oi := ⟨some 20, .move (.tmp 6), _, _, _, _⟩) (v := (.bool false)) rfl (by kernel_rfl) (by kernel_rfl) (by kernel_rfl) (fun _ _ _ h => h) (Or.inl ⟨by rfl, fun W hW => by go_simp⟩) (by assumption) ?_
    simp only [Act.put, List.setIfInBounds_toArray, List.set_cons_zero, List.set_cons_succ]
    refine wpAnyH_take (i := 2) (oi := ⟨some 21, .move (.tmp 20), _, _, _, _⟩) (v := (.bool false)) rfl (by kernel_rfl) (by kernel_rfl) (by kernel_rfl) (fun _ _ _ h => h) (Or.inl ⟨by rfl, fun W hW => by go_simp⟩) (by assumption) ?_
    simp only [Act.put, List.setIfInBounds_toArray, List.set_cons_zero, List.set_cons_succ]
    refine wpAnyH_take (i := 3) (oi := ⟨some 22, .move (.tmp 8), _, _, _, _⟩) (v := undef) rfl (by kernel_rfl) (by kernel_rfl) (by kernel_rfl) (fun _ _ _ h => h) (Or.inr ⟨by rfl, rfl⟩) (by assumption) ?_
    simp only [Act.put, List.setIfInBounds_toArray, List.set_cons_zero, List.set_cons_succ]
    refine wpAnyH_take (i := 4) (oi := ⟨some 23, .pick (.tmp 21) (.tmp 22) (.const (.bool false)), _, _, _, _⟩) (v := (.bool false)) rfl (by kernel_rfl) (by kernel_rfl) (by kernel_rfl) (fun _ _ _ h => h) (Or.inl ⟨by rfl, fun W hW => by go_simp⟩) (by assumption) ?_
    simp only [Act.put, List.setIfInBounds_toArray, List.set_cons_zero, List.set_cons_succ]
    refine wpAnyH_take (i := 5) (oi := ⟨some 24, .move (.tmp 23), _, _, _, _⟩) (v := (.bool false)) rfl (by kernel_rfl) (by kernel_rfl) (by kernel_rfl) (fun _ _ _ h => h) (Or.inl ⟨by rfl, fun W hW => by go_simp⟩) (by assumption) ?_
    simp only [Act.put, List.setIfInBounds_toArray, List.set_cons_zero, List.set_cons_succ]
    refine wpAnyH_take (i := 6) (oi := ⟨some 25, .load 26 (.tmp 1), _, _, _, _⟩) (v := undef) rfl (by kernel_rfl) (by kernel_rfl) (by kernel_rfl) (fun _ _ _ h => h) (Or.inr ⟨by rfl, rfl⟩) (by assumption) ?_
    simp only [Act.put, List.setIfInBounds_toArray, List.set_cons_zero, List.set_cons_succ]
    refine wpAnyH_take (i := 7) (oi := ⟨some 26, .load 35 (.tmp 7), _, _, _, _⟩) (v := undef) rfl (by kernel_rfl) (by kernel_rfl) (by kernel_rfl) (fun _ _ _ h => h) (Or.inr ⟨by rfl, rfl⟩) (by assumption) ?_
    simp only [Act.put, List.setIfInBounds_toArray, List.set_cons_zero, List.set_cons_succ]
    refine wpAnyH_take (i := 8) (oi := ⟨some 27, .call { callee := .value (.func 19), args := #[(.tmp 25), (.tmp 26)], argTypes := #[26, 35] }, _, _, _, _⟩) (v := undef) rfl (by kernel_rfl) (by kernel_rfl) (by kernel_rfl) (fun _ _ _ h => h) (Or.inr ⟨by rfl, rfl⟩) (by assumption) ?_
    simp only [Act.put, List.setIfInBounds_toArray, List.set_cons_zero, List.set_cons_succ]
    refine wpAnyH_take (i := 9) (oi := ⟨some 28, .pick (.tmp 24) (.tmp 27) (.const (.bool false)), _, _, _, _⟩) (v := (.bool false)) rfl (by kernel_rfl) (by kernel_rfl) (by kernel_rfl) (fun _ _ _ h => h) (Or.inl ⟨by rfl, fun W hW => by go_simp⟩) (by assumption) ?_
    simp only [Act.put, List.setIfInBounds_toArray, List.set_cons_zero, List.set_cons_succ]
    refine wpAnyH_ready (rs := [10]) (by kernel_rfl) (by simp) ?_
    refine AllReadyH.cons (o := ⟨none, .store 35 (.tmp 3) (.tmp 19), _, _, _, _⟩) rfl (fun K hK => ?_) AllReadyH.nil
    refine ready_step (wp_store_id (.tmp 3) (.tmp 19) rfl g3 _ (unhexV x.data.toList) rfl rfl (HID3.out.below HBD.out) HXL.out ?_)
    intro w9 hid9 hgr9 hsz9
    have HID9 := Lib.hid hid9
    have HC9 : Hid (Chg (fun k => k = g3) W0 w9) := Lib.hid ((Chg.of_below HBD.out).grown hgr9 (fun k hk => by cases hk; exact .inl rfl))
    refine hK.out _ _ HC9.out (fun hHeld => ?_)
    clear hK K
    refine wpAnyH_take (i := 11) (oi := ⟨some 4, .assign (.tmp 28), _, _, _, _⟩) (v := (.bool false)) rfl (by kernel_rfl) (by kernel_rfl) (by kernel_rfl) (fun _ _ _ h => h) (Or.inl ⟨by rfl, fun W hW => by go_simp⟩) (by assumption) ?_
    simp only [Act.put, List.setIfInBounds_toArray, List.set_cons_zero, List.set_cons_succ]
    refine wpAnyH_done (by kernel_rfl) ?_ _
    go_wp2
    exact bodyPost_ret (results_id2 rfl _ _ g3 _ rfl HID9.out) rfl ⟨_, false, rfl, HXL.out, HN.out, RR.out.below (HBW.out.trans (HC9.out.below (fun k hk => by rw [hk]; exact HG3.out) HBW.out.size)), HBW.out.trans (HC9.out.below (fun k hk => by rw [hk]; exact HG3.out) HBW.out.size)⟩
  | true =>
    have hx := HX.out rfl
    obtain ⟨n0, hn0⟩ : ∃ n0, unhexB x.data.toList = n0 := ⟨_, rfl⟩
    rw [hn0]
    cases n0 with
    | false =>
      have HN := Lib.hid (show o = none by
        rw [← HO.out]
        unfold thereL
        rw [if_neg (fun h => by rw [← hx, hn0] at h; cases h.2.1)])
      clear hx hn0
      refine wp_region_held_drew (S := fun W' => Chg (fun k => k = g3) W0 W') (by kernel_rfl) Chg.refl.drew (fun hHeld => ?_)
      refine wpAnyH_take (i := 0) (oi := ⟨some 19, .load 35 (.tmp 7), _, _, _, _⟩) (v := (.agg (idCells (unhexV x.data.toList)))) rfl (by kernel_rfl) (by kernel_rfl) (by kernel_rfl) (fun _ _ _ h => h) (Or.inl ⟨by rfl, fun W hW => exec_loadId _ rfl _ _ _ HXL.out rfl (HID7.out.chg hW HG37.out).range⟩) (by assumption) ?_
      simp only [Act.put, List.setIfInBounds_toArray, List.set_cons_zero, List.set_cons_succ]
      refine wpAnyH_take (i := 1) (oi := ⟨some 20, .move (.tmp 6), _, _, _, _⟩) (v := (.bool true)) rfl (by kernel_rfl) (by kernel_rfl) (by kernel_rfl) (fun _ _ _ h => h) (Or.inl ⟨by rfl, fun W hW => by go_simp⟩) (by assumption) ?_
      simp only [Act.put, List.setIfInBounds_toArray, List.set_cons_zero, List.set_cons_succ]
      refine wpAnyH_take (i := 2) (oi := ⟨some 21, .move (.tmp 20), _, _, _, _⟩) (v := (.bool true)) rfl (by kernel_rfl) (by kernel_rfl) (by kernel_rfl) (fun _ _ _ h => h) (Or.inl ⟨by rfl, fun W hW => by go_simp⟩) (by assumption) ?_
      simp only [Act.put, List.setIfInBounds_toArray, List.set_cons_zero, List.set_cons_succ]
      refine wpAnyH_take (i := 3) (oi := ⟨some 22, .move (.tmp 8), _, _, _, _⟩) (v := (.bool false)) rfl (by kernel_rfl) (by kernel_rfl) (by kernel_rfl) (fun _ _ _ h => h) (Or.inl ⟨by rfl, fun W hW => by go_simp⟩) (by assumption) ?_
      simp only [Act.put, List.setIfInBounds_toArray, List.set_cons_zero, List.set_cons_succ]
      refine wpAnyH_take (i := 4) (oi := ⟨some 23, .pick (.tmp 21) (.tmp 22) (.const (.bool false)), _, _, _, _⟩) (v := (.bool false)) rfl (by kernel_rfl) (by kernel_rfl) (by kernel_rfl) (fun _ _ _ h => h) (Or.inl ⟨by rfl, fun W hW => by go_simp⟩) (by assumption) ?_
      simp only [Act.put, List.setIfInBounds_toArray, List.set_cons_zero, List.set_cons_succ]
      refine wpAnyH_take (i := 5) (oi := ⟨some 24, .move (.tmp 23), _, _, _, _⟩) (v := (.bool false)) rfl (by kernel_rfl) (by kernel_rfl) (by kernel_rfl) (fun _ _ _ h => h) (Or.inl ⟨by rfl, fun W hW => by go_simp⟩) (by assumption) ?_
      simp only [Act.put, List.setIfInBounds_toArray, List.set_cons_zero, List.set_cons_succ]
      refine wpAnyH_take (i := 6) (oi := ⟨some 25, .load 26 (.tmp 1), _, _, _, _⟩) (v := undef) rfl (by kernel_rfl) (by kernel_rfl) (by kernel_rfl) (fun _ _ _ h => h) (Or.inr ⟨by rfl, rfl⟩) (by assumption) ?_
      simp only [Act.put, List.setIfInBounds_toArray, List.set_cons_zero, List.set_cons_succ]
      refine wpAnyH_take (i := 7) (oi := ⟨some 26, .load 35 (.tmp 7), _, _, _, _⟩) (v := undef) rfl (by kernel_rfl) (by kernel_rfl) (by kernel_rfl) (fun _ _ _ h => h) (Or.inr ⟨by rfl, rfl⟩) (by assumption) ?_
      simp only [Act.put, List.setIfInBounds_toArray, List.set_cons_zero, List.set_cons_succ]
      refine wpAnyH_take (i := 8) (oi := ⟨some 27, .call { callee := .value (.func 19), args := #[(.tmp 25), (.tmp 26)], argTypes := #[26, 35] }, _, _, _, _⟩) (v := undef) rfl (by kernel_rfl) (by kernel_rfl) (by kernel_rfl) (fun _ _ _ h => h) (Or.inr ⟨by rfl, rfl⟩) (by assumption) ?_
      simp only [Act.put, List.setIfInBounds_toArray, List.set_cons_zero, List.set_cons_succ]
      refine wpAnyH_take (i := 9) (oi := ⟨some 28, .pick (.tmp 24) (.tmp 27) (.const (.bool false)), _, _, _, _⟩) (v := (.bool false)) rfl (by kernel_rfl) (by kernel_rfl) (by kernel_rfl) (fun _ _ _ h => h) (Or.inl ⟨by rfl, fun W hW => by go_simp⟩) (by assumption) ?_
      simp only [Act.put, List.setIfInBounds_toArray, List.set_cons_zero, List.set_cons_succ]
      refine wpAnyH_ready (rs := [10]) (by kernel_rfl) (by simp) ?_
      refine AllReadyH.cons (o := ⟨none, .store 35 (.tmp 3) (.tmp 19), _, _, _, _⟩) rfl (fun K hK => ?_) AllReadyH.nil
      refine ready_step (wp_store_id (.tmp 3) (.tmp 19) rfl g3 _ (unhexV x.data.toList) rfl rfl (HID3.out.below HBD.out) HXL.out ?_)
      intro w9 hid9 hgr9 hsz9
      have HID9 := Lib.hid hid9
      have HC9 : Hid (Chg (fun k => k = g3) W0 w9) := Lib.hid ((Chg.of_below HBD.out).grown hgr9 (fun k hk => by cases hk; exact .inl rfl))
      refine hK.out _ _ HC9.out (fun hHeld => ?_)
      clear hK K
      refine wpAnyH_take (i := 11) (oi := ⟨some 4, .assign (.tmp 28), _, _, _, _⟩) (v := (.bool false)) rfl (by kernel_rfl) (by kernel_rfl) (by kernel_rfl) (fun _ _ _ h => h) (Or.inl ⟨by rfl, fun W hW => by go_simp⟩) (by assumption) ?_
      simp only [Act.put, List.setIfInBounds_toArray, List.set_cons_zero, List.set_cons_succ]
      refine wpAnyH_done (by kernel_rfl) ?_ _
      go_wp2
      exact bodyPost_ret (results_id2 rfl _ _ g3 _ rfl HID9.out) rfl ⟨_, false, rfl, HXL.out, HN.out, RR.out.below (HBW.out.trans (HC9.out.below (fun k hk => by rw [hk]; exact HG3.out) HBW.out.size)), HBW.out.trans (HC9.out.below (fun k hk => by rw [hk]; exact HG3.out) HBW.out.size)⟩
    | true =>
      obtain ⟨q, hq⟩ : ∃ q, decide ((getL sumF S (unhexV x.data.toList)).2 = 0) = q := ⟨_, rfl⟩
      have HN := Lib.hid (show o = (if q then some (unhexV x.data.toList) else none) by
        rw [← HO.out]
        unfold thereL
        rw [← hx, ← hq]
        by_cases h : (getL sumF S (unhexV x.data.toList)).2 = 0
        · rw [if_pos ⟨of_decide_eq_true HM.out, hn0, h⟩, if_pos (decide_eq_true h)]
        · rw [if_neg (fun k => h k.2.2), if_neg (by simp [h])])
      have HH := Lib.hid (fun W' (R' : Run w W' F db S) => has_any _ HXL.out R' HT.out hq)
      clear hx hn0 hq
      refine wp_region_held_drew (S := fun W' => Chg (fun k => k = g3) W0 W') (by kernel_rfl) Chg.refl.drew (fun hHeld => ?_)
      refine wpAnyH_take (i := 0) (oi := ⟨some 19, .load 35 (.tmp 7), _, _, _, _⟩) (v := (.agg (idCells (unhexV x.data.toList)))) rfl (by kernel_rfl) (by kernel_rfl) (by kernel_rfl) (fun _ _ _ h => h) (Or.inl ⟨by rfl, fun W hW => exec_loadId _ rfl _ _ _ HXL.out rfl (HID7.out.chg hW HG37.out).range⟩) (by assumption) ?_
      simp only [Act.put, List.setIfInBounds_toArray, List.set_cons_zero, List.set_cons_succ]
      refine wpAnyH_take (i := 1) (oi := ⟨some 20, .move (.tmp 6), _, _, _, _⟩) (v := (.bool true)) rfl (by kernel_rfl) (by kernel_rfl) (by kernel_rfl) (fun _ _ _ h => h) (Or.inl ⟨by rfl, fun W hW => by go_simp⟩) (by assumption) ?_
      simp only [Act.put, List.setIfInBounds_toArray, List.set_cons_zero, List.set_cons_succ]
      refine wpAnyH_take (i := 2) (oi := ⟨some 21, .move (.tmp 20), _, _, _, _⟩) (v := (.bool true)) rfl (by kernel_rfl) (by kernel_rfl) (by kernel_rfl) (fun _ _ _ h => h) (Or.inl ⟨by rfl, fun W hW => by go_simp⟩) (by assumption) ?_
      simp only [Act.put, List.setIfInBounds_toArray, List.set_cons_zero, List.set_cons_succ]
      refine wpAnyH_take (i := 3) (oi := ⟨some 22, .move (.tmp 8), _, _, _, _⟩) (v := (.bool true)) rfl (by kernel_rfl) (by kernel_rfl) (by kernel_rfl) (fun _ _ _ h => h) (Or.inl ⟨by rfl, fun W hW => by go_simp⟩) (by assumption) ?_
      simp only [Act.put, List.setIfInBounds_toArray, List.set_cons_zero, List.set_cons_succ]
      refine wpAnyH_take (i := 4) (oi := ⟨some 23, .pick (.tmp 21) (.tmp 22) (.const (.bool false)), _, _, _, _⟩) (v := (.bool true)) rfl (by kernel_rfl) (by kernel_rfl) (by kernel_rfl) (fun _ _ _ h => h) (Or.inl ⟨by rfl, fun W hW => by go_simp⟩) (by assumption) ?_
      simp only [Act.put, List.setIfInBounds_toArray, List.set_cons_zero, List.set_cons_succ]
      refine wpAnyH_take (i := 5) (oi := ⟨some 24, .move (.tmp 23), _, _, _, _⟩) (v := (.bool true)) rfl (by kernel_rfl) (by kernel_rfl) (by kernel_rfl) (fun _ _ _ h => h) (Or.inl ⟨by rfl, fun W hW => by go_simp⟩) (by assumption) ?_
      simp only [Act.put, List.setIfInBounds_toArray, List.set_cons_zero, List.set_cons_succ]
      refine wpAnyH_take (i := 6) (oi := ⟨some 25, .load 26 (.tmp 1), _, _, _, _⟩) (v := (Pt db)) rfl (by kernel_rfl) (by kernel_rfl) (by kernel_rfl) (fun _ _ _ h => h) (Or.inl ⟨by rfl, fun W hW => by have hcell := HCG.out W hW; go_simp⟩) (by assumption) ?_
      simp only [Act.put, List.setIfInBounds_toArray, List.set_cons_zero, List.set_cons_succ]
      refine wpAnyH_take (i := 7) (oi := ⟨some 26, .load 35 (.tmp 7), _, _, _, _⟩) (v := (.agg (idCells (unhexV x.data.toList)))) rfl (by kernel_rfl) (by kernel_rfl) (by kernel_rfl) (fun _ _ _ h => h) (Or.inl ⟨by rfl, fun W hW => exec_loadId _ rfl _ _ _ HXL.out rfl (HID7.out.chg hW HG37.out).range⟩) (by assumption) ?_
      simp only [Act.put, List.setIfInBounds_toArray, List.set_cons_zero, List.set_cons_succ]
      refine wpAnyH_ready (rs := [8]) (by kernel_rfl) (by simp) ?_
      refine AllReadyH.cons (o := ⟨some 27, .call { callee := .value (.func 19), args := #[(.tmp 25), (.tmp 26)], argTypes := #[26, 35] }, _, _, _, _⟩) rfl (fun K hK => ?_) AllReadyH.nil
      go_simp
      go_wp2_with (go_at_call 19; (refine (HH.out W0.drew (R0.out.below (Below.refl W0.heap.size W0).drew)).mono ?_); rintro e w8 ⟨rfl, hr8, hb8⟩; have HB8 : Hid (Below W0.heap.size W0 w8) := Lib.hid ((Below.refl W0.heap.size W0).drew.trans hb8); clear hr8 hb8)
      refine hK.out _ _ (Chg.of_below HB8.out) (fun hHeld => ?_)
      clear hK K
      refine wpAnyH_take (i := 9) (oi := ⟨some 28, .pick (.tmp 24) (.tmp 27) (.const (.bool false)), _, _, _, _⟩) (v := (.bool q)) rfl (by kernel_rfl) (by kernel_rfl) (by kernel_rfl) (fun _ _ _ h => h) (Or.inl ⟨by rfl, fun W hW => by go_simp⟩) (by assumption) ?_
      simp only [Act.put, List.setIfInBounds_toArray, List.set_cons_zero, List.set_cons_succ]
      refine wpAnyH_ready (rs := [10]) (by kernel_rfl) (by simp) ?_
      refine AllReadyH.cons (o := ⟨none, .store 35 (.tmp 3) (.tmp 19), _, _, _, _⟩) rfl (fun K hK => ?_) AllReadyH.nil
      refine ready_step (wp_store_id (.tmp 3) (.tmp 19) rfl g3 _ (unhexV x.data.toList) rfl rfl (HID3.out.below HB8.out) HXL.out ?_)
      intro w9 hid9 hgr9 hsz9
      have HID9 := Lib.hid hid9
      have HC9 : Hid (Chg (fun k => k = g3) W0 w9) := Lib.hid ((Chg.of_below HB8.out).grown hgr9 (fun k hk => by cases hk; exact .inl rfl))
      refine hK.out _ _ HC9.out (fun hHeld => ?_)
      clear hK K
      refine wpAnyH_take (i := 11) (oi := ⟨some 4, .assign (.tmp 28), _, _, _, _⟩) (v := (.bool q)) rfl (by kernel_rfl) (by kernel_rfl) (by kernel_rfl) (fun _ _ _ h => h) (Or.inl ⟨by rfl, fun W hW => by go_simp⟩) (by assumption) ?_
      simp only [Act.put, List.setIfInBounds_toArray, List.set_cons_zero, List.set_cons_succ]
      refine wpAnyH_done (by kernel_rfl) ?_ _
      go_wp2
      exact bodyPost_ret (results_id2 rfl _ _ g3 _ rfl HID9.out) rfl ⟨_, q, rfl, HXL.out, HN.out, RR.out.below (HBW.out.trans (HC9.out.below (fun k hk => by rw [hk]; exact HG3.out) HBW.out.size)), HBW.out.trans (HC9.out.below (fun k hk => by rw [hk]; exact HG3.out) HBW.out.size)⟩
#print axioms there_any
end
end Go.Proofs.YtcnhifkpflaibaaDoor
