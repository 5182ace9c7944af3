/-
  The law: a branch moves only from where it is.
-/
import Derived.Test.YtejooogfnnidcaaDoorRfLight
import Derived.Test.YtejooogfnnidcaaDoorRfWas
namespace Go.Proofs.YtejooogfnnidcaaDoor
open Go.RowKit

theorem size36r {S : RfS} {h a : List UInt8} (ha : a.length = 32) : (Tryd.prog.info? RREf).map (·.size) = some (rfL S h a).length := by rw [rfL_len ha]; kernel_rfl
theorem exec_loadRr {w : World} {o : Oper} {a : Act} (x : Operand) (ho : o.op = .load RREf x) (b : Nat) (S : RfS) (h m : List UInt8) (hm : m.length = 32) (hx : a.eval x = .pointer (some ⟨b, 0, none⟩)) (hc : RowAt w b RREf (rfL S h m)) :
    (execOp a.eval o).run Tryd.prog w = .ok (.value (.agg (rfC S h m))) w := by
  have hr := run_loadVar_mid (P := Tryd.prog) w b 0 RREf (rfL S h m) _ (fun i v hv => by rw [Nat.zero_add]; exact RowAt.cell hc i hv) Tryd.underlying27 rfl (size36r hm)
  unfold execOp
  simp only [ho, hx, Instr.loadAt, Instr.sureAddr, Sem.run_bind, Sem.run_pure, Result.andThen_ok, hr]
  rfl
theorem ne_id {w : World} {g g' : Nat} {E : TypeId} {cs : List Value} {l : List UInt8} (h : RowAt w g E cs) (hI : IdAt w g' l) (hE : E ≠ 24 := by decide) : some g ≠ some g' := fun e => by
  cases e
  have h2 := hI.2
  unfold RowAt at h
  rw [h] at h2
  simp only [Option.some.injEq, Obj.cells.injEq] at h2
  exact hE h2.2.1
theorem up_set1 (u : UpdV) : (upL u).set 0 (.int .u8 1) = upL { u with kind := 1 } := rfl
/-- What Apply of one update tells. -/
noncomputable def resF (qr : Bool) (r : RefsV) (u : UpdV) : RefsV × Nat := if qr && true then applyF [] r [u] else (noRefs, 1)
theorem apply_one (S : RfS) (r : RefsV) (a : Option Addr) (u : UpdV) (w : World) (h : RfIn w S r) (hs : RfLen r) (hL : AtG upK w a 1 1 [u]) (hT : Tabs w) (qr : Bool) (hq : qr = true ↔ RightV r) (Z : RefsV × Nat) (hZ : resF qr r u = Z) :
    Calls Tryd.prog 15 #[.agg (rfC S r.head r.at_), .slice a 1 1, .string ⟨#[]⟩] w (ApplyIs w Z) := by
  subst hZ
  exact apply_any S r a 1 1 [u] [] _ rfl w h hs hL (by decide) (by decide) hT qr true hq note3
theorem none_of {qr : Bool} {r : RefsV} {u : UpdV} {Z : RefsV × Nat} (h : resF qr r u = Z) (h0 : ¬ Z.2 = 0) : Z.1 = noRefs := by
  subst h
  unfold resF at h0 ⊢
  cases qr
  · rfl
  · exact one_branch_no h0
theorem good_of {qr : Bool} {r : RefsV} {u : UpdV} {Z : RefsV × Nat} (hq : qr = true ↔ RightV r) (h : resF qr r u = Z) (h0 : Z.2 = 0) (hk : u.kind = 1) : RightV r ∧ ∃ M lg, Z.1 = ⟨M, r.tg, r.head, r.at_, lg⟩ ∧ RightN M ∧ wasF r.br u.name = u.old ∧ wasF M u.name = u.new := by
  subst h
  unfold resF at h0 ⊢
  cases qr
  · exact absurd h0 (show ¬ (1 : Nat) = 0 by decide)
  · have hr := hq.1 rfl
    obtain ⟨h1, h2⟩ := one_branch (u := u) hk h0
    obtain ⟨h3, h4⟩ := moveF_was hr.1 h2
    exact ⟨hr, (moveF r.br u).1, (logF r ⟨u, []⟩).log, h1, moveF_right hr.1 h2, h3, h4⟩
/-- What stays while the law looks. -/
structure MvI (w W : World) (S S1 : RfS) (r s : RefsV) (v : UpdV) (g5 : Nat) : Prop where
  hb : Below w.heap.size w W
  hu : RowAt W (w.heap.size + 1) UEf (upL v)
  hr : RowAt W w.heap.size RREf (rfL S r.head r.at_)
  hz : RowAt W g5 REf (rfL S1 s.head s.at_)
  ho : RfOwn W w.heap.size S1 s
section
variable {w W W' : World} {S S1 : RfS} {r s : RefsV} {v : UpdV} {g5 g : Nat} {l : List UInt8}
theorem MvI.below (h : MvI w W S S1 r s v g5) (hb : Below W.heap.size W W') : MvI w W' S S1 r s v g5 := ⟨h.hb.trans (hb.mono h.hb.size), h.hu.below hb, h.hr.below hb, h.hz.below hb, h.ho.below hb⟩
theorem MvI.grown (h : MvI w W S S1 r s v g5) (hI : IdAt W g l) (hg : W.grownBy W' (some g)) (hge : w.heap.size ≤ g) : MvI w W' S S1 r s v g5 :=
  ⟨h.hb.grown hg h.hb.size (fun k hk => by cases hk; exact hge), h.hu.grown hg (ne_id h.hu hI), h.hr.grown hg (ne_id h.hr hI), h.hz.grown hg (ne_id h.hz hI), in_grownId h.ho hI hg⟩
end
theorem id_slot {w : World} {g : Nat} {l : List UInt8} (h : IdAt w g l) : w.rangeAt g 0 (l.map B) := h.range

set_option maxRecDepth 100000 in
set_option maxHeartbeats 8000000 in
theorem refsMoved_any (S : RfS) (r : RefsV) (u : UpdV) (w : World) (h : RfIn w S r) (hu0 : UpOk u) (hT : Tabs w) :
    Calls Tryd.prog 6 #[.agg (rfC S r.head r.at_), .agg (upL u).toArray] w fun e w' => e = .returned (.bool true) ∧ Below w.heap.size w w' := by
  obtain ⟨q, hq⟩ : ∃ q : Bool, q = true ↔ LightV r := by classical exact ⟨decide (LightV r), decide_eq_true_iff⟩
  obtain ⟨qr, hqr⟩ : ∃ q : Bool, q = true ↔ RightV r := by classical exact ⟨decide (RightV r), decide_eq_true_iff⟩
  have HAT := Lib.hid h.at_
  have HIN := Lib.hid h
  have HUO0 := Lib.hid hu0
  have HQR := Lib.hid hqr
  have HQ := Lib.hid hq
  have HTB := Lib.hid (fun W (hW : Below w.heap.size w W) => hT.below hW)
  obtain ⟨w1, hw1⟩ : ∃ w1, w1 = w.alloc (.cells (rfC S r.head r.at_) RREf) := ⟨_, rfl⟩
  obtain ⟨w0, hw0⟩ : ∃ w0, w0 = w1.alloc (.cells (upL u).toArray UEf) := ⟨_, rfl⟩
  have hz1 : w1.heap.size = w.heap.size + 1 := by rw [hw1]; simp
  have hb1 : Below w.heap.size w w1 := by rw [hw1]; exact (Below.refl _ _).alloc (Nat.le_refl _) _
  have hb0 : Below w1.heap.size w1 w0 := by rw [hw0]; exact (Below.refl _ _).alloc (Nat.le_refl _) _
  have HB0 : Hid (Below w.heap.size w w0) := Lib.hid (hb1.trans (hb0.mono (by omega)))
  have hr1 : RowAt w1 w.heap.size RREf (rfL S r.head r.at_) := by rw [hw1]; exact heap_alloc_new w _
  have HR0 : Hid (RowAt w0 w.heap.size RREf (rfL S r.head r.at_)) := Lib.hid (hr1.below (w' := w0) hb0)
  have HU0 : Hid (RowAt w0 (w.heap.size + 1) UEf (upL u)) := Lib.hid (show w0.heap[w.heap.size + 1]? = _ by rw [hw0, ← hz1]; exact heap_alloc_new w1 _)
  have HW1 := Lib.hid hw1
  have HW0 := Lib.hid hw0
  obtain ⟨p, hp⟩ : ∃ p, strB u.name = p := ⟨_, rfl⟩
  have HPE := Lib.hid hp
  have HPS : Hid (p.size = u.name.length) := Lib.hid (by rw [← hp, strB_size])
  have HCP := Lib.hid (fun W (hh : RowAt W (w.heap.size + 1) UEf (upL u)) => (hp ▸ up_name hh : W.cell? ⟨w.heap.size + 1, 1, none⟩ = some (.string p)))
  have HLT := Lib.hid (fun W (hW : Below w.heap.size w W) => light_any S r W (h.below hW) q hq)
  have HAW := Lib.hid (fun W (hW : Below w.heap.size w W) => awake_any W (hT.below hW))
  obtain ⟨v, hv⟩ : ∃ v : UpdV, v = { u with kind := 1 } := ⟨_, rfl⟩
  have HVE := Lib.hid hv
  have HVO : Hid (UpOk v) := Lib.hid (by rw [hv]; exact ⟨(by show 1 < 256; decide), hu0.2.1, hu0.2.2⟩)
  obtain ⟨Z, hZ⟩ : ∃ Z, resF qr r v = Z := ⟨_, rfl⟩
  have HZE := Lib.hid hZ
  clear h hu0 hT hq hqr hw1 hw0 hz1 hb1 hb0 hr1 hp hv hZ
  cases q
  · go_enter Tryd.func6, Tryd.ntmps6
    go_wp2_with (first
      | ((with_reducible show wpList _ _ _ (⟨some 11, _, _, _, _, _⟩ :: _) _ _); rw [← HW1.out]; (show wpList _ _ _ _ _ (w1.alloc (.cells (upL u).toArray UEf))); rw [← HW0.out]; go_must (refine wl_ex rfl (exec_loadRr _ rfl _ S r.head r.at_ HAT.out rfl HR0.out) ?_))
      | (go_at_call 7; go_must (refine (HLT.out _ HB0.out).mono ?_); rintro e w2 ⟨rfl, hb⟩; have HB2 := Lib.hid (HB0.out.trans (hb.mono HB0.out.size)); have HR2 := Lib.hid (HR0.out.below hb); have HU2 := Lib.hid (HU0.out.below hb); have cp := HCP.out _ HU2.out; have ck := HU2.out.cell 0 (v := .int .u8 (u.kind : Int)) rfl; have fk := HU2.out.free 0; clear hb))
    go_ret
    exact ⟨rfl, HB2.out⟩
  · have HLV := Lib.hid (HQ.out.1 rfl)
    by_cases hl : (100 : Int) < (p.size : Int)
    · have d1 : decide (100 < p.size) = true := decide_eq_true (by omega)
      go_enter Tryd.func6, Tryd.ntmps6
      go_wp2_with (first
        | ((with_reducible show wpList _ _ _ (⟨some 11, _, _, _, _, _⟩ :: _) _ _); rw [← HW1.out]; (show wpList _ _ _ _ _ (w1.alloc (.cells (upL u).toArray UEf))); rw [← HW0.out]; go_must (refine wl_ex rfl (exec_loadRr _ rfl _ S r.head r.at_ HAT.out rfl HR0.out) ?_))
        | (go_at_call 7; go_must (refine (HLT.out _ HB0.out).mono ?_); rintro e w2 ⟨rfl, hb⟩; have HB2 := Lib.hid (HB0.out.trans (hb.mono HB0.out.size)); have HR2 := Lib.hid (HR0.out.below hb); have HU2 := Lib.hid (HU0.out.below hb); have cp := HCP.out _ HU2.out; have ck := HU2.out.cell 0 (v := .int .u8 (u.kind : Int)) rfl; have fk := HU2.out.free 0; clear hb))
      go_ret
      exact ⟨rfl, HB2.out⟩
    · have d1 : decide (100 < p.size) = false := decide_eq_false (by omega)
      have HFW := Lib.hid (HLV.out.few HIN.out)
      go_enter Tryd.func6, Tryd.ntmps6
      go_wp2_with (first
        | ((with_reducible show wpList _ _ _ (⟨some 11, _, _, _, _, _⟩ :: _) _ _); rw [← HW1.out]; (show wpList _ _ _ _ _ (w1.alloc (.cells (upL u).toArray UEf))); rw [← HW0.out]; go_must (refine wl_ex rfl (exec_loadRr _ rfl _ S r.head r.at_ HAT.out rfl HR0.out) ?_))
        | (go_at_call 7; go_must (refine (HLT.out _ HB0.out).mono ?_); rintro e w2 ⟨rfl, hb⟩; have HB2 := Lib.hid (HB0.out.trans (hb.mono HB0.out.size)); have HR2 := Lib.hid (HR0.out.below hb); have HU2 := Lib.hid (HU0.out.below hb); have cp := HCP.out _ HU2.out; have ck := HU2.out.cell 0 (v := .int .u8 (u.kind : Int)) rfl; have fk := HU2.out.free 0; clear hb))
      have HB3 := Lib.hid (HB2.out.setCell (p := ⟨w.heap.size + 1, 0, none⟩) (Nat.le_succ _) (.int .u8 1))
      have HR3 := Lib.hid (HR2.out.other (a := ⟨w.heap.size + 1, 0, none⟩) (Nat.ne_of_lt (Nat.lt_succ_self _)) (.int .u8 1))
      have hU3 := HU2.out.set 0 (.int .u8 1)
      rw [up_set1, ← HVE.out] at hU3
      have HU3 := Lib.hid hU3
      clear hU3 cp ck fk
      generalize w2.setCell ⟨w.heap.size + 1, 0, none⟩ (.int .u8 1) = w3 at HB3 HR3 HU3 ⊢
      go_cut [5, 6] from 21 to 28 (fun v5 v6 W => ∃ (g5 : Nat) (S1 : RfS), v5 = .pointer (some ⟨g5, 0, none⟩) ∧ v6 = .int .i64 (Z.2 : Nat) ∧ Hid (Below w.heap.size w W) ∧ Hid (RowAt W (w.heap.size + 1) UEf (upL v)) ∧ Hid (RowAt W w.heap.size RREf (rfL S r.head r.at_)) ∧ Hid (RowAt W g5 REf (rfL S1 Z.1.head Z.1.at_)) ∧ Hid (RfOwn W w.heap.size S1 Z.1))
      case first =>
        refine wp_region_held_drew (S := fun W => RowAt W w.heap.size RREf (rfL S r.head r.at_) ∧ RowAt W (w.heap.size + 1) UEf (upL v)) (by kernel_rfl) ⟨HR3.out, HU3.out⟩ (fun hHeld => ?_)
        have HB10 : Hid (Below w.heap.size w w3.drew) := Lib.hid HB3.out.drew
        have HU10 : Hid (RowAt w3.drew (w.heap.size + 1) UEf (upL v)) := Lib.hid HU3.out
        have HR10 : Hid (RowAt w3.drew w.heap.size RREf (rfL S r.head r.at_)) := Lib.hid HR3.out
        generalize w3.drew = w10 at hHeld HB10 HU10 HR10 ⊢
        refine wpAnyH_take (i := 0) (oi := ⟨some 22, .load 27 (.tmp 2), _, _, _, _⟩) (v := (.agg (rfC S r.head r.at_))) rfl (by kernel_rfl) (by kernel_rfl) (by kernel_rfl) (fun _ _ _ h => h) (Or.inl ⟨by rfl, fun W hW => exec_loadRr _ rfl _ S r.head r.at_ HAT.out rfl hW.1⟩) (by assumption) ?_
        simp only [Act.put, List.setIfInBounds_toArray, List.set_cons_zero, List.set_cons_succ]
        refine wpAnyH_take (i := 2) (oi := ⟨some 24, .load 53 (.tmp 3), _, _, _, _⟩) (v := (.agg (upL v).toArray)) rfl (by kernel_rfl) (by kernel_rfl) (by kernel_rfl) (fun _ _ _ h => h) (Or.inl ⟨by rfl, fun W hW => exec_loadUp _ rfl _ 0 v HVO.out rfl (fun i x hx => by rw [Nat.zero_add]; exact hW.2.cell i hx)⟩) (by assumption) ?_
        simp only [Act.put, List.setIfInBounds_toArray, List.set_cons_zero, List.set_cons_succ]
        refine wpAnyH_ready (rs := [1, 3, 8]) (by kernel_rfl) (by simp) ?_
        refine AllReadyH.cons (o := ⟨some 23, .call { callee := .value (.func 9), args := #[(.tmp 22)], argTypes := #[27] }, _, _, _, _⟩) rfl (fun K hK => ?_) (AllReadyH.cons (o := ⟨some 25, .buildSlice 44 1 #[(0, (.tmp 24))], _, _, _, _⟩) rfl (fun K hK => ?_) (AllReadyH.cons (o := ⟨some 5, .alloc 34, _, _, _, _⟩) rfl (fun K hK => ?_) AllReadyH.nil))
        · go_simp
          refine (told_any S r _ (HIN.out.below HB10.out) HFW.out).mono ?_
          rintro e w11 ⟨St, rfl, ho, hb⟩
          have Ht11 := Lib.hid (ho.mono HB10.out.size)
          have HB11 := Lib.hid (HB10.out.trans (hb.mono HB10.out.size))
          have HU11 := Lib.hid (HU10.out.below hb)
          have HR11 := Lib.hid (HR10.out.below hb)
          clear ho hb
          refine hK.out _ _ ⟨HR11.out, HU11.out⟩ (fun hHeld => ?_)
          clear hK K
          refine wpAnyH_ready (rs := [3, 8]) (by kernel_rfl) (by simp) ?_
          refine AllReadyH.cons (o := ⟨some 25, .buildSlice 44 1 #[(0, (.tmp 24))], _, _, _, _⟩) rfl (fun K hK => ?_) (AllReadyH.cons (o := ⟨some 5, .alloc 34, _, _, _, _⟩) rfl (fun K hK => ?_) AllReadyH.nil)
          · refine ready_step (wp_sl_up _ rfl v HVO.out rfl ?_)
            have hb := (Below.refl w11.heap.size w11).alloc (Nat.le_refl _) (.cells (upL v).toArray UEf)
            have HL12 := Lib.hid (oneG (K := upK) w11 v HVO.out UEf (upL v).toArray rfl)
            have HB12 := Lib.hid (HB11.out.trans (hb.mono HB11.out.size))
            have HU12 := Lib.hid (HU11.out.below hb)
            have HR12 := Lib.hid (HR11.out.below hb)
            have Ht12 := Lib.hid (Ht11.out.below hb)
            clear hb
            generalize w11.alloc (.cells (upL v).toArray UEf) = w12 at HB12 HU12 HR12 Ht12 HL12 ⊢
            generalize w11.heap.size = gs at HL12 ⊢
            refine hK.out _ _ ⟨HR12.out, HU12.out⟩ (fun hHeld => ?_)
            clear hK K
            refine wpAnyH_ready (rs := [4, 8]) (by kernel_rfl) (by simp) ?_
            refine AllReadyH.cons (o := ⟨some 26, .call { callee := .value (.func 15), args := #[(.tmp 23), (.tmp 25), (.const (.string ⟨#[]⟩))], argTypes := #[34, 44, 9] }, _, _, _, _⟩) rfl (fun K hK => ?_) (AllReadyH.cons (o := ⟨some 5, .alloc 34, _, _, _, _⟩) rfl (fun K hK => ?_) AllReadyH.nil)
            · go_simp
              refine (apply_one _ r _ v _ Ht12.out.in_ HLV.out.len HL12.out (HTB.out _ HB12.out) qr HQR.out Z HZE.out).mono ?_
              rintro e w13 ⟨S1, rfl, ho, hb⟩
              have Hr13 := Lib.hid (ho.mono HB12.out.size)
              have HB13 := Lib.hid (HB12.out.trans (hb.mono HB12.out.size))
              have HU13 := Lib.hid (HU12.out.below hb)
              have HR13 := Lib.hid (HR12.out.below hb)
              clear ho hb
              refine hK.out _ _ ⟨HR13.out, HU13.out⟩ (fun hHeld => ?_)
              clear hK K
              refine wpAnyH_take (i := 5) (oi := ⟨some 21, .move (.tmp 26), _, _, _, _⟩) (v := (.tuple #[.agg (rfC S1 Z.1.head Z.1.at_), .int .i64 (Z.2 : Nat)])) rfl (by kernel_rfl) (by kernel_rfl) (by kernel_rfl) (fun _ _ _ h => h) (Or.inl ⟨by rfl, fun W hW => by go_simp⟩) (by assumption) ?_
              simp only [Act.put, List.setIfInBounds_toArray, List.set_cons_zero, List.set_cons_succ]
              refine wpAnyH_take (i := 6) (oi := ⟨some 27, .extract (.tmp 21) 0, _, _, _, _⟩) (v := (.agg (rfC S1 Z.1.head Z.1.at_))) rfl (by kernel_rfl) (by kernel_rfl) (by kernel_rfl) (fun _ _ _ h => h) (Or.inl ⟨by rfl, fun W hW => by go_simp⟩) (by assumption) ?_
              simp only [Act.put, List.setIfInBounds_toArray, List.set_cons_zero, List.set_cons_succ]
              refine wpAnyH_take (i := 7) (oi := ⟨some 28, .extract (.tmp 21) 1, _, _, _, _⟩) (v := (.int .i64 (Z.2 : Nat))) rfl (by kernel_rfl) (by kernel_rfl) (by kernel_rfl) (fun _ _ _ h => h) (Or.inl ⟨by rfl, fun W hW => by go_simp⟩) (by assumption) ?_
              simp only [Act.put, List.setIfInBounds_toArray, List.set_cons_zero, List.set_cons_succ]
              refine wpAnyH_ready (rs := [8]) (by kernel_rfl) (by simp) ?_
              refine AllReadyH.cons (o := ⟨some 5, .alloc 34, _, _, _, _⟩) rfl (fun K hK => ?_) AllReadyH.nil
              refine ready_step (wp_alloc_rf rfl ?_)
              intro w14 hz hb
              have HZ14 := Lib.hid hz
              have HB14 := Lib.hid (HB13.out.trans (hb.mono HB13.out.size))
              have HU14 := Lib.hid (HU13.out.below hb)
              have HR14 := Lib.hid (HR13.out.below hb)
              have Hr14 := Lib.hid (Hr13.out.below hb)
              have HG5 : Hid (w.heap.size < w13.heap.size ∧ w.heap.size + 1 < w13.heap.size) := Lib.hid ⟨HR13.out.lt, HU13.out.lt⟩
              clear hz hb
              generalize w13.heap.size = g5 at HZ14 HG5 ⊢
              refine hK.out _ _ ⟨HR14.out, HU14.out⟩ (fun hHeld => ?_)
              clear hK K
              refine wpAnyH_ready (rs := [9]) (by kernel_rfl) (by simp) ?_
              refine AllReadyH.cons (o := ⟨none, .store 34 (.tmp 5) (.tmp 27), _, _, _, _⟩) rfl (fun K hK => ?_) AllReadyH.nil
              refine ready_step (wp_store_rf (S := S1) (h := Z.1.head) (m := Z.1.at_) Hr14.out.at_ _ _ rfl g5 HZ14.out (len36 rfl) rfl rfl ?_)
              intro w15 hz hg
              have HZ15 := Lib.hid hz
              have HU15 := Lib.hid (HU14.out.grown hg (fun e => by cases e; exact Nat.lt_irrefl _ HG5.out.2))
              have HR15 := Lib.hid (HR14.out.grown hg (fun e => by cases e; exact Nat.lt_irrefl _ HG5.out.1))
              have HB15 := Lib.hid (HB14.out.grown hg HB14.out.size (fun k hk => by cases hk; exact Nat.le_of_lt HG5.out.1))
              have Hr15 := Lib.hid (in_grown Hr14.out HZ14.out hg)
              clear hz hg
              refine hK.out _ _ ⟨HR15.out, HU15.out⟩ (fun hHeld => ?_)
              clear hK K
              refine wpAnyH_take (i := 10) (oi := ⟨some 6, .assign (.tmp 28), _, _, _, _⟩) (v := (.int .i64 (Z.2 : Nat))) rfl (by kernel_rfl) (by kernel_rfl) (by kernel_rfl) (fun _ _ _ h => h) (Or.inl ⟨by rfl, fun W hW => by go_simp⟩) (by assumption) ?_
              simp only [Act.put, List.setIfInBounds_toArray, List.set_cons_zero, List.set_cons_succ]
              refine wpAnyH_done (by kernel_rfl) ?_ _
              go_wp2_with fail
              go_meet
              exact ⟨g5, S1, rfl, rfl, HB15, HU15, HR15, HZ15, Hr15⟩
            · refine ready_step (wp_alloc_rf rfl ?_)
              intro w13 hz hb
              have HZ13 := Lib.hid hz
              have HB13 := Lib.hid (HB12.out.trans (hb.mono HB12.out.size))
              have HU13 := Lib.hid (HU12.out.below hb)
              have HR13 := Lib.hid (HR12.out.below hb)
              have Ht13 := Lib.hid (Ht12.out.below hb)
              have HL13 := Lib.hid (HL12.out.below hb)
              have HG5 : Hid (w.heap.size < w12.heap.size ∧ w.heap.size + 1 < w12.heap.size) := Lib.hid ⟨HR12.out.lt, HU12.out.lt⟩
              clear hz hb
              generalize w12.heap.size = g5 at HZ13 HG5 ⊢
              refine hK.out _ _ ⟨HR13.out, HU13.out⟩ (fun hHeld => ?_)
              clear hK K
              refine wpAnyH_ready (rs := [4]) (by kernel_rfl) (by simp) ?_
              refine AllReadyH.cons (o := ⟨some 26, .call { callee := .value (.func 15), args := #[(.tmp 23), (.tmp 25), (.const (.string ⟨#[]⟩))], argTypes := #[34, 44, 9] }, _, _, _, _⟩) rfl (fun K hK => ?_) AllReadyH.nil
              go_simp
              refine (apply_one _ r _ v _ Ht13.out.in_ HLV.out.len HL13.out (HTB.out _ HB13.out) qr HQR.out Z HZE.out).mono ?_
              rintro e w14 ⟨S1, rfl, ho, hb⟩
              have Hr14 := Lib.hid (ho.mono HB13.out.size)
              have HB14 := Lib.hid (HB13.out.trans (hb.mono HB13.out.size))
              have HU14 := Lib.hid (HU13.out.below hb)
              have HR14 := Lib.hid (HR13.out.below hb)
              have HZ14 := Lib.hid (HZ13.out.below hb)
              clear ho hb
              refine hK.out _ _ ⟨HR14.out, HU14.out⟩ (fun hHeld => ?_)
              clear hK K
              refine wpAnyH_take (i := 5) (oi := ⟨some 21, .move (.tmp 26), _, _, _, _⟩) (v := (.tuple #[.agg (rfC S1 Z.1.head Z.1.at_), .int .i64 (Z.2 : Nat)])) rfl (by kernel_rfl) (by kernel_rfl) (by kernel_rfl) (fun _ _ _ h => h) (Or.inl ⟨by rfl, fun W hW => by go_simp⟩) (by assumption) ?_
              simp only [Act.put, List.setIfInBounds_toArray, List.set_cons_zero, List.set_cons_succ]
              refine wpAnyH_take (i := 6) (oi := ⟨some 27, .extract (.tmp 21) 0, _, _, _, _⟩) (v := (.agg (rfC S1 Z.1.head Z.1.at_))) rfl (by kernel_rfl) (by kernel_rfl) (by kernel_rfl) (fun _ _ _ h => h) (Or.inl ⟨by rfl, fun W hW => by go_simp⟩) (by assumption) ?_
              simp only [Act.put, List.setIfInBounds_toArray, List.set_cons_zero, List.set_cons_succ]
              refine wpAnyH_take (i := 7) (oi := ⟨some 28, .extract (.tmp 21) 1, _, _, _, _⟩) (v := (.int .i64 (Z.2 : Nat))) rfl (by kernel_rfl) (by kernel_rfl) (by kernel_rfl) (fun _ _ _ h => h) (Or.inl ⟨by rfl, fun W hW => by go_simp⟩) (by assumption) ?_
              simp only [Act.put, List.setIfInBounds_toArray, List.set_cons_zero, List.set_cons_succ]
              refine wpAnyH_ready (rs := [9]) (by kernel_rfl) (by simp) ?_
              refine AllReadyH.cons (o := ⟨none, .store 34 (.tmp 5) (.tmp 27), _, _, _, _⟩) rfl (fun K hK => ?_) AllReadyH.nil
              refine ready_step (wp_store_rf (S := S1) (h := Z.1.head) (m := Z.1.at_) Hr14.out.at_ _ _ rfl g5 HZ14.out (len36 rfl) rfl rfl ?_)
              intro w15 hz hg
              have HZ15 := Lib.hid hz
              have HU15 := Lib.hid (HU14.out.grown hg (fun e => by cases e; exact Nat.lt_irrefl _ HG5.out.2))
              have HR15 := Lib.hid (HR14.out.grown hg (fun e => by cases e; exact Nat.lt_irrefl _ HG5.out.1))
              have HB15 := Lib.hid (HB14.out.grown hg HB14.out.size (fun k hk => by cases hk; exact Nat.le_of_lt HG5.out.1))
              have Hr15 := Lib.hid (in_grown Hr14.out HZ14.out hg)
              clear hz hg
              refine hK.out _ _ ⟨HR15.out, HU15.out⟩ (fun hHeld => ?_)
              clear hK K
              refine wpAnyH_take (i := 10) (oi := ⟨some 6, .assign (.tmp 28), _, _, _, _⟩) (v := (.int .i64 (Z.2 : Nat))) rfl (by kernel_rfl) (by kernel_rfl) (by kernel_rfl) (fun _ _ _ h => h) (Or.inl ⟨by rfl, fun W hW => by go_simp⟩) (by assumption) ?_
              simp only [Act.put, List.setIfInBounds_toArray, List.set_cons_zero, List.set_cons_succ]
              refine wpAnyH_done (by kernel_rfl) ?_ _
              go_wp2_with fail
              go_meet
              exact ⟨g5, S1, rfl, rfl, HB15, HU15, HR15, HZ15, Hr15⟩
          · refine ready_step (wp_alloc_rf rfl ?_)
            intro w12 hz hb
            have HZ12 := Lib.hid hz
            have HB12 := Lib.hid (HB11.out.trans (hb.mono HB11.out.size))
            have HU12 := Lib.hid (HU11.out.below hb)
            have HR12 := Lib.hid (HR11.out.below hb)
            have Ht12 := Lib.hid (Ht11.out.below hb)
            have HG5 : Hid (w.heap.size < w11.heap.size ∧ w.heap.size + 1 < w11.heap.size) := Lib.hid ⟨HR11.out.lt, HU11.out.lt⟩
            clear hz hb
            generalize w11.heap.size = g5 at HZ12 HG5 ⊢
            refine hK.out _ _ ⟨HR12.out, HU12.out⟩ (fun hHeld => ?_)
            clear hK K
            refine wpAnyH_ready (rs := [3]) (by kernel_rfl) (by simp) ?_
            refine AllReadyH.cons (o := ⟨some 25, .buildSlice 44 1 #[(0, (.tmp 24))], _, _, _, _⟩) rfl (fun K hK => ?_) AllReadyH.nil
            refine ready_step (wp_sl_up _ rfl v HVO.out rfl ?_)
            have hb := (Below.refl w12.heap.size w12).alloc (Nat.le_refl _) (.cells (upL v).toArray UEf)
            have HL13 := Lib.hid (oneG (K := upK) w12 v HVO.out UEf (upL v).toArray rfl)
            have HB13 := Lib.hid (HB12.out.trans (hb.mono HB12.out.size))
            have HU13 := Lib.hid (HU12.out.below hb)
            have HR13 := Lib.hid (HR12.out.below hb)
            have Ht13 := Lib.hid (Ht12.out.below hb)
            have HZ13 := Lib.hid (HZ12.out.below hb)
            clear hb
            generalize w12.alloc (.cells (upL v).toArray UEf) = w13 at HB13 HU13 HR13 Ht13 HZ13 HL13 ⊢
            generalize w12.heap.size = gs at HL13 ⊢
            refine hK.out _ _ ⟨HR13.out, HU13.out⟩ (fun hHeld => ?_)
            clear hK K
            refine wpAnyH_ready (rs := [4]) (by kernel_rfl) (by simp) ?_
            refine AllReadyH.cons (o := ⟨some 26, .call { callee := .value (.func 15), args := #[(.tmp 23), (.tmp 25), (.const (.string ⟨#[]⟩))], argTypes := #[34, 44, 9] }, _, _, _, _⟩) rfl (fun K hK => ?_) AllReadyH.nil
            go_simp
            refine (apply_one _ r _ v _ Ht13.out.in_ HLV.out.len HL13.out (HTB.out _ HB13.out) qr HQR.out Z HZE.out).mono ?_
            rintro e w14 ⟨S1, rfl, ho, hb⟩
            have Hr14 := Lib.hid (ho.mono HB13.out.size)
            have HB14 := Lib.hid (HB13.out.trans (hb.mono HB13.out.size))
            have HU14 := Lib.hid (HU13.out.below hb)
            have HR14 := Lib.hid (HR13.out.below hb)
            have HZ14 := Lib.hid (HZ13.out.below hb)
            clear ho hb
            refine hK.out _ _ ⟨HR14.out, HU14.out⟩ (fun hHeld => ?_)
            clear hK K
            refine wpAnyH_take (i := 5) (oi := ⟨some 21, .move (.tmp 26), _, _, _, _⟩) (v := (.tuple #[.agg (rfC S1 Z.1.head Z.1.at_), .int .i64 (Z.2 : Nat)])) rfl (by kernel_rfl) (by kernel_rfl) (by kernel_rfl) (fun _ _ _ h => h) (Or.inl ⟨by rfl, fun W hW => by go_simp⟩) (by assumption) ?_
            simp only [Act.put, List.setIfInBounds_toArray, List.set_cons_zero, List.set_cons_succ]
            refine wpAnyH_take (i := 6) (oi := ⟨some 27, .extract (.tmp 21) 0, _, _, _, _⟩) (v := (.agg (rfC S1 Z.1.head Z.1.at_))) rfl (by kernel_rfl) (by kernel_rfl) (by kernel_rfl) (fun _ _ _ h => h) (Or.inl ⟨by rfl, fun W hW => by go_simp⟩) (by assumption) ?_
            simp only [Act.put, List.setIfInBounds_toArray, List.set_cons_zero, List.set_cons_succ]
            refine wpAnyH_take (i := 7) (oi := ⟨some 28, .extract (.tmp 21) 1, _, _, _, _⟩) (v := (.int .i64 (Z.2 : Nat))) rfl (by kernel_rfl) (by kernel_rfl) (by kernel_rfl) (fun _ _ _ h => h) (Or.inl ⟨by rfl, fun W hW => by go_simp⟩) (by assumption) ?_
            simp only [Act.put, List.setIfInBounds_toArray, List.set_cons_zero, List.set_cons_succ]
            refine wpAnyH_ready (rs := [9]) (by kernel_rfl) (by simp) ?_
            refine AllReadyH.cons (o := ⟨none, .store 34 (.tmp 5) (.tmp 27), _, _, _, _⟩) rfl (fun K hK => ?_) AllReadyH.nil
            refine ready_step (wp_store_rf (S := S1) (h := Z.1.head) (m := Z.1.at_) Hr14.out.at_ _ _ rfl g5 HZ14.out (len36 rfl) rfl rfl ?_)
            intro w15 hz hg
            have HZ15 := Lib.hid hz
            have HU15 := Lib.hid (HU14.out.grown hg (fun e => by cases e; exact Nat.lt_irrefl _ HG5.out.2))
            have HR15 := Lib.hid (HR14.out.grown hg (fun e => by cases e; exact Nat.lt_irrefl _ HG5.out.1))
            have HB15 := Lib.hid (HB14.out.grown hg HB14.out.size (fun k hk => by cases hk; exact Nat.le_of_lt HG5.out.1))
            have Hr15 := Lib.hid (in_grown Hr14.out HZ14.out hg)
            clear hz hg
            refine hK.out _ _ ⟨HR15.out, HU15.out⟩ (fun hHeld => ?_)
            clear hK K
            refine wpAnyH_take (i := 10) (oi := ⟨some 6, .assign (.tmp 28), _, _, _, _⟩) (v := (.int .i64 (Z.2 : Nat))) rfl (by kernel_rfl) (by kernel_rfl) (by kernel_rfl) (fun _ _ _ h => h) (Or.inl ⟨by rfl, fun W hW => by go_simp⟩) (by assumption) ?_
            simp only [Act.put, List.setIfInBounds_toArray, List.set_cons_zero, List.set_cons_succ]
            refine wpAnyH_done (by kernel_rfl) ?_ _
            go_wp2_with fail
            go_meet
            exact ⟨g5, S1, rfl, rfl, HB15, HU15, HR15, HZ15, Hr15⟩
        · refine ready_step (wp_sl_up _ rfl v HVO.out rfl ?_)
          have hb := (Below.refl w10.heap.size w10).alloc (Nat.le_refl _) (.cells (upL v).toArray UEf)
          have HL11 := Lib.hid (oneG (K := upK) w10 v HVO.out UEf (upL v).toArray rfl)
          have HB11 := Lib.hid (HB10.out.trans (hb.mono HB10.out.size))
          have HU11 := Lib.hid (HU10.out.below hb)
          have HR11 := Lib.hid (HR10.out.below hb)
          clear hb
          generalize w10.alloc (.cells (upL v).toArray UEf) = w11 at HB11 HU11 HR11 HL11 ⊢
          generalize w10.heap.size = gs at HL11 ⊢
          refine hK.out _ _ ⟨HR11.out, HU11.out⟩ (fun hHeld => ?_)
          clear hK K
          refine wpAnyH_ready (rs := [1, 8]) (by kernel_rfl) (by simp) ?_
          refine AllReadyH.cons (o := ⟨some 23, .call { callee := .value (.func 9), args := #[(.tmp 22)], argTypes := #[27] }, _, _, _, _⟩) rfl (fun K hK => ?_) (AllReadyH.cons (o := ⟨some 5, .alloc 34, _, _, _, _⟩) rfl (fun K hK => ?_) AllReadyH.nil)
          · go_simp
            refine (told_any S r _ (HIN.out.below HB11.out) HFW.out).mono ?_
            rintro e w12 ⟨St, rfl, ho, hb⟩
            have Ht12 := Lib.hid (ho.mono HB11.out.size)
            have HB12 := Lib.hid (HB11.out.trans (hb.mono HB11.out.size))
            have HU12 := Lib.hid (HU11.out.below hb)
            have HR12 := Lib.hid (HR11.out.below hb)
            have HL12 := Lib.hid (HL11.out.below hb)
            clear ho hb
            refine hK.out _ _ ⟨HR12.out, HU12.out⟩ (fun hHeld => ?_)
            clear hK K
            refine wpAnyH_ready (rs := [4, 8]) (by kernel_rfl) (by simp) ?_
            refine AllReadyH.cons (o := ⟨some 26, .call { callee := .value (.func 15), args := #[(.tmp 23), (.tmp 25), (.const (.string ⟨#[]⟩))], argTypes := #[34, 44, 9] }, _, _, _, _⟩) rfl (fun K hK => ?_) (AllReadyH.cons (o := ⟨some 5, .alloc 34, _, _, _, _⟩) rfl (fun K hK => ?_) AllReadyH.nil)
            · go_simp
              refine (apply_one _ r _ v _ Ht12.out.in_ HLV.out.len HL12.out (HTB.out _ HB12.out) qr HQR.out Z HZE.out).mono ?_
              rintro e w13 ⟨S1, rfl, ho, hb⟩
              have Hr13 := Lib.hid (ho.mono HB12.out.size)
              have HB13 := Lib.hid (HB12.out.trans (hb.mono HB12.out.size))
              have HU13 := Lib.hid (HU12.out.below hb)
              have HR13 := Lib.hid (HR12.out.below hb)
              clear ho hb
              refine hK.out _ _ ⟨HR13.out, HU13.out⟩ (fun hHeld => ?_)
              clear hK K
              refine wpAnyH_take (i := 5) (oi := ⟨some 21, .move (.tmp 26), _, _, _, _⟩) (v := (.tuple #[.agg (rfC S1 Z.1.head Z.1.at_), .int .i64 (Z.2 : Nat)])) rfl (by kernel_rfl) (by kernel_rfl) (by kernel_rfl) (fun _ _ _ h => h) (Or.inl ⟨by rfl, fun W hW => by go_simp⟩) (by assumption) ?_
              simp only [Act.put, List.setIfInBounds_toArray, List.set_cons_zero, List.set_cons_succ]
              refine wpAnyH_take (i := 6) (oi := ⟨some 27, .extract (.tmp 21) 0, _, _, _, _⟩) (v := (.agg (rfC S1 Z.1.head Z.1.at_))) rfl (by kernel_rfl) (by kernel_rfl) (by kernel_rfl) (fun _ _ _ h => h) (Or.inl ⟨by rfl, fun W hW => by go_simp⟩) (by assumption) ?_
              simp only [Act.put, List.setIfInBounds_toArray, List.set_cons_zero, List.set_cons_succ]
              refine wpAnyH_take (i := 7) (oi := ⟨some 28, .extract (.tmp 21) 1, _, _, _, _⟩) (v := (.int .i64 (Z.2 : Nat))) rfl (by kernel_rfl) (by kernel_rfl) (by kernel_rfl) (fun _ _ _ h => h) (Or.inl ⟨by rfl, fun W hW => by go_simp⟩) (by assumption) ?_
              simp only [Act.put, List.setIfInBounds_toArray, List.set_cons_zero, List.set_cons_succ]
              refine wpAnyH_ready (rs := [8]) (by kernel_rfl) (by simp) ?_
              refine AllReadyH.cons (o := ⟨some 5, .alloc 34, _, _, _, _⟩) rfl (fun K hK => ?_) AllReadyH.nil
              refine ready_step (wp_alloc_rf rfl ?_)
              intro w14 hz hb
              have HZ14 := Lib.hid hz
              have HB14 := Lib.hid (HB13.out.trans (hb.mono HB13.out.size))
              have HU14 := Lib.hid (HU13.out.below hb)
              have HR14 := Lib.hid (HR13.out.below hb)
              have Hr14 := Lib.hid (Hr13.out.below hb)
              have HG5 : Hid (w.heap.size < w13.heap.size ∧ w.heap.size + 1 < w13.heap.size) := Lib.hid ⟨HR13.out.lt, HU13.out.lt⟩
              clear hz hb
              generalize w13.heap.size = g5 at HZ14 HG5 ⊢
              refine hK.out _ _ ⟨HR14.out, HU14.out⟩ (fun hHeld => ?_)
              clear hK K
              refine wpAnyH_ready (rs := [9]) (by kernel_rfl) (by simp) ?_
              refine AllReadyH.cons (o := ⟨none, .store 34 (.tmp 5) (.tmp 27), _, _, _, _⟩) rfl (fun K hK => ?_) AllReadyH.nil
              refine ready_step (wp_store_rf (S := S1) (h := Z.1.head) (m := Z.1.at_) Hr14.out.at_ _ _ rfl g5 HZ14.out (len36 rfl) rfl rfl ?_)
              intro w15 hz hg
              have HZ15 := Lib.hid hz
              have HU15 := Lib.hid (HU14.out.grown hg (fun e => by cases e; exact Nat.lt_irrefl _ HG5.out.2))
              have HR15 := Lib.hid (HR14.out.grown hg (fun e => by cases e; exact Nat.lt_irrefl _ HG5.out.1))
              have HB15 := Lib.hid (HB14.out.grown hg HB14.out.size (fun k hk => by cases hk; exact Nat.le_of_lt HG5.out.1))
              have Hr15 := Lib.hid (in_grown Hr14.out HZ14.out hg)
              clear hz hg
              refine hK.out _ _ ⟨HR15.out, HU15.out⟩ (fun hHeld => ?_)
              clear hK K
              refine wpAnyH_take (i := 10) (oi := ⟨some 6, .assign (.tmp 28), _, _, _, _⟩) (v := (.int .i64 (Z.2 : Nat))) rfl (by kernel_rfl) (by kernel_rfl) (by kernel_rfl) (fun _ _ _ h => h) (Or.inl ⟨by rfl, fun W hW => by go_simp⟩) (by assumption) ?_
              simp only [Act.put, List.setIfInBounds_toArray, List.set_cons_zero, List.set_cons_succ]
              refine wpAnyH_done (by kernel_rfl) ?_ _
              go_wp2_with fail
              go_meet
              exact ⟨g5, S1, rfl, rfl, HB15, HU15, HR15, HZ15, Hr15⟩
            · refine ready_step (wp_alloc_rf rfl ?_)
              intro w13 hz hb
              have HZ13 := Lib.hid hz
              have HB13 := Lib.hid (HB12.out.trans (hb.mono HB12.out.size))
              have HU13 := Lib.hid (HU12.out.below hb)
              have HR13 := Lib.hid (HR12.out.below hb)
              have HL13 := Lib.hid (HL12.out.below hb)
              have Ht13 := Lib.hid (Ht12.out.below hb)
              have HG5 : Hid (w.heap.size < w12.heap.size ∧ w.heap.size + 1 < w12.heap.size) := Lib.hid ⟨HR12.out.lt, HU12.out.lt⟩
              clear hz hb
              generalize w12.heap.size = g5 at HZ13 HG5 ⊢
              refine hK.out _ _ ⟨HR13.out, HU13.out⟩ (fun hHeld => ?_)
              clear hK K
              refine wpAnyH_ready (rs := [4]) (by kernel_rfl) (by simp) ?_
              refine AllReadyH.cons (o := ⟨some 26, .call { callee := .value (.func 15), args := #[(.tmp 23), (.tmp 25), (.const (.string ⟨#[]⟩))], argTypes := #[34, 44, 9] }, _, _, _, _⟩) rfl (fun K hK => ?_) AllReadyH.nil
              go_simp
              refine (apply_one _ r _ v _ Ht13.out.in_ HLV.out.len HL13.out (HTB.out _ HB13.out) qr HQR.out Z HZE.out).mono ?_
              rintro e w14 ⟨S1, rfl, ho, hb⟩
              have Hr14 := Lib.hid (ho.mono HB13.out.size)
              have HB14 := Lib.hid (HB13.out.trans (hb.mono HB13.out.size))
              have HU14 := Lib.hid (HU13.out.below hb)
              have HR14 := Lib.hid (HR13.out.below hb)
              have HZ14 := Lib.hid (HZ13.out.below hb)
              clear ho hb
              refine hK.out _ _ ⟨HR14.out, HU14.out⟩ (fun hHeld => ?_)
              clear hK K
              refine wpAnyH_take (i := 5) (oi := ⟨some 21, .move (.tmp 26), _, _, _, _⟩) (v := (.tuple #[.agg (rfC S1 Z.1.head Z.1.at_), .int .i64 (Z.2 : Nat)])) rfl (by kernel_rfl) (by kernel_rfl) (by kernel_rfl) (fun _ _ _ h => h) (Or.inl ⟨by rfl, fun W hW => by go_simp⟩) (by assumption) ?_
              simp only [Act.put, List.setIfInBounds_toArray, List.set_cons_zero, List.set_cons_succ]
              refine wpAnyH_take (i := 6) (oi := ⟨some 27, .extract (.tmp 21) 0, _, _, _, _⟩) (v := (.agg (rfC S1 Z.1.head Z.1.at_))) rfl (by kernel_rfl) (by kernel_rfl) (by kernel_rfl) (fun _ _ _ h => h) (Or.inl ⟨by rfl, fun W hW => by go_simp⟩) (by assumption) ?_
              simp only [Act.put, List.setIfInBounds_toArray, List.set_cons_zero, List.set_cons_succ]
              refine wpAnyH_take (i := 7) (oi := ⟨some 28, .extract (.tmp 21) 1, _, _, _, _⟩) (v := (.int .i64 (Z.2 : Nat))) rfl (by kernel_rfl) (by kernel_rfl) (by kernel_rfl) (fun _ _ _ h => h) (Or.inl ⟨by rfl, fun W hW => by go_simp⟩) (by assumption) ?_
              simp only [Act.put, List.setIfInBounds_toArray, List.set_cons_zero, List.set_cons_succ]
              refine wpAnyH_ready (rs := [9]) (by kernel_rfl) (by simp) ?_
              refine AllReadyH.cons (o := ⟨none, .store 34 (.tmp 5) (.tmp 27), _, _, _, _⟩) rfl (fun K hK => ?_) AllReadyH.nil
              refine ready_step (wp_store_rf (S := S1) (h := Z.1.head) (m := Z.1.at_) Hr14.out.at_ _ _ rfl g5 HZ14.out (len36 rfl) rfl rfl ?_)
              intro w15 hz hg
              have HZ15 := Lib.hid hz
              have HU15 := Lib.hid (HU14.out.grown hg (fun e => by cases e; exact Nat.lt_irrefl _ HG5.out.2))
              have HR15 := Lib.hid (HR14.out.grown hg (fun e => by cases e; exact Nat.lt_irrefl _ HG5.out.1))
              have HB15 := Lib.hid (HB14.out.grown hg HB14.out.size (fun k hk => by cases hk; exact Nat.le_of_lt HG5.out.1))
              have Hr15 := Lib.hid (in_grown Hr14.out HZ14.out hg)
              clear hz hg
              refine hK.out _ _ ⟨HR15.out, HU15.out⟩ (fun hHeld => ?_)
              clear hK K
              refine wpAnyH_take (i := 10) (oi := ⟨some 6, .assign (.tmp 28), _, _, _, _⟩) (v := (.int .i64 (Z.2 : Nat))) rfl (by kernel_rfl) (by kernel_rfl) (by kernel_rfl) (fun _ _ _ h => h) (Or.inl ⟨by rfl, fun W hW => by go_simp⟩) (by assumption) ?_
              simp only [Act.put, List.setIfInBounds_toArray, List.set_cons_zero, List.set_cons_succ]
              refine wpAnyH_done (by kernel_rfl) ?_ _
              go_wp2_with fail
              go_meet
              exact ⟨g5, S1, rfl, rfl, HB15, HU15, HR15, HZ15, Hr15⟩
          · refine ready_step (wp_alloc_rf rfl ?_)
            intro w12 hz hb
            have HZ12 := Lib.hid hz
            have HB12 := Lib.hid (HB11.out.trans (hb.mono HB11.out.size))
            have HU12 := Lib.hid (HU11.out.below hb)
            have HR12 := Lib.hid (HR11.out.below hb)
            have HL12 := Lib.hid (HL11.out.below hb)
            have HG5 : Hid (w.heap.size < w11.heap.size ∧ w.heap.size + 1 < w11.heap.size) := Lib.hid ⟨HR11.out.lt, HU11.out.lt⟩
            clear hz hb
            generalize w11.heap.size = g5 at HZ12 HG5 ⊢
            refine hK.out _ _ ⟨HR12.out, HU12.out⟩ (fun hHeld => ?_)
            clear hK K
            refine wpAnyH_ready (rs := [1]) (by kernel_rfl) (by simp) ?_
            refine AllReadyH.cons (o := ⟨some 23, .call { callee := .value (.func 9), args := #[(.tmp 22)], argTypes := #[27] }, _, _, _, _⟩) rfl (fun K hK => ?_) AllReadyH.nil
            go_simp
            refine (told_any S r _ (HIN.out.below HB12.out) HFW.out).mono ?_
            rintro e w13 ⟨St, rfl, ho, hb⟩
            have Ht13 := Lib.hid (ho.mono HB12.out.size)
            have HB13 := Lib.hid (HB12.out.trans (hb.mono HB12.out.size))
            have HU13 := Lib.hid (HU12.out.below hb)
            have HR13 := Lib.hid (HR12.out.below hb)
            have HL13 := Lib.hid (HL12.out.below hb)
            have HZ13 := Lib.hid (HZ12.out.below hb)
            clear ho hb
            refine hK.out _ _ ⟨HR13.out, HU13.out⟩ (fun hHeld => ?_)
            clear hK K
            refine wpAnyH_ready (rs := [4]) (by kernel_rfl) (by simp) ?_
            refine AllReadyH.cons (o := ⟨some 26, .call { callee := .value (.func 15), args := #[(.tmp 23), (.tmp 25), (.const (.string ⟨#[]⟩))], argTypes := #[34, 44, 9] }, _, _, _, _⟩) rfl (fun K hK => ?_) AllReadyH.nil
            go_simp
            refine (apply_one _ r _ v _ Ht13.out.in_ HLV.out.len HL13.out (HTB.out _ HB13.out) qr HQR.out Z HZE.out).mono ?_
            rintro e w14 ⟨S1, rfl, ho, hb⟩
            have Hr14 := Lib.hid (ho.mono HB13.out.size)
            have HB14 := Lib.hid (HB13.out.trans (hb.mono HB13.out.size))
            have HU14 := Lib.hid (HU13.out.below hb)
            have HR14 := Lib.hid (HR13.out.below hb)
            have HZ14 := Lib.hid (HZ13.out.below hb)
            clear ho hb
            refine hK.out _ _ ⟨HR14.out, HU14.out⟩ (fun hHeld => ?_)
            clear hK K
            refine wpAnyH_take (i := 5) (oi := ⟨some 21, .move (.tmp 26), _, _, _, _⟩) (v := (.tuple #[.agg (rfC S1 Z.1.head Z.1.at_), .int .i64 (Z.2 : Nat)])) rfl (by kernel_rfl) (by kernel_rfl) (by kernel_rfl) (fun _ _ _ h => h) (Or.inl ⟨by rfl, fun W hW => by go_simp⟩) (by assumption) ?_
            simp only [Act.put, List.setIfInBounds_toArray, List.set_cons_zero, List.set_cons_succ]
            refine wpAnyH_take (i := 6) (oi := ⟨some 27, .extract (.tmp 21) 0, _, _, _, _⟩) (v := (.agg (rfC S1 Z.1.head Z.1.at_))) rfl (by kernel_rfl) (by kernel_rfl) (by kernel_rfl) (fun _ _ _ h => h) (Or.inl ⟨by rfl, fun W hW => by go_simp⟩) (by assumption) ?_
            simp only [Act.put, List.setIfInBounds_toArray, List.set_cons_zero, List.set_cons_succ]
            refine wpAnyH_take (i := 7) (oi := ⟨some 28, .extract (.tmp 21) 1, _, _, _, _⟩) (v := (.int .i64 (Z.2 : Nat))) rfl (by kernel_rfl) (by kernel_rfl) (by kernel_rfl) (fun _ _ _ h => h) (Or.inl ⟨by rfl, fun W hW => by go_simp⟩) (by assumption) ?_
            simp only [Act.put, List.setIfInBounds_toArray, List.set_cons_zero, List.set_cons_succ]
            refine wpAnyH_ready (rs := [9]) (by kernel_rfl) (by simp) ?_
            refine AllReadyH.cons (o := ⟨none, .store 34 (.tmp 5) (.tmp 27), _, _, _, _⟩) rfl (fun K hK => ?_) AllReadyH.nil
            refine ready_step (wp_store_rf (S := S1) (h := Z.1.head) (m := Z.1.at_) Hr14.out.at_ _ _ rfl g5 HZ14.out (len36 rfl) rfl rfl ?_)
            intro w15 hz hg
            have HZ15 := Lib.hid hz
            have HU15 := Lib.hid (HU14.out.grown hg (fun e => by cases e; exact Nat.lt_irrefl _ HG5.out.2))
            have HR15 := Lib.hid (HR14.out.grown hg (fun e => by cases e; exact Nat.lt_irrefl _ HG5.out.1))
            have HB15 := Lib.hid (HB14.out.grown hg HB14.out.size (fun k hk => by cases hk; exact Nat.le_of_lt HG5.out.1))
            have Hr15 := Lib.hid (in_grown Hr14.out HZ14.out hg)
            clear hz hg
            refine hK.out _ _ ⟨HR15.out, HU15.out⟩ (fun hHeld => ?_)
            clear hK K
            refine wpAnyH_take (i := 10) (oi := ⟨some 6, .assign (.tmp 28), _, _, _, _⟩) (v := (.int .i64 (Z.2 : Nat))) rfl (by kernel_rfl) (by kernel_rfl) (by kernel_rfl) (fun _ _ _ h => h) (Or.inl ⟨by rfl, fun W hW => by go_simp⟩) (by assumption) ?_
            simp only [Act.put, List.setIfInBounds_toArray, List.set_cons_zero, List.set_cons_succ]
            refine wpAnyH_done (by kernel_rfl) ?_ _
            go_wp2_with fail
            go_meet
            exact ⟨g5, S1, rfl, rfl, HB15, HU15, HR15, HZ15, Hr15⟩
        · refine ready_step (wp_alloc_rf rfl ?_)
          intro w11 hz hb
          have HZ11 := Lib.hid hz
          have HB11 := Lib.hid (HB10.out.trans (hb.mono HB10.out.size))
          have HU11 := Lib.hid (HU10.out.below hb)
          have HR11 := Lib.hid (HR10.out.below hb)
          have HG5 : Hid (w.heap.size < w10.heap.size ∧ w.heap.size + 1 < w10.heap.size) := Lib.hid ⟨HR10.out.lt, HU10.out.lt⟩
          clear hz hb
          generalize w10.heap.size = g5 at HZ11 HG5 ⊢
          refine hK.out _ _ ⟨HR11.out, HU11.out⟩ (fun hHeld => ?_)
          clear hK K
          refine wpAnyH_ready (rs := [1, 3]) (by kernel_rfl) (by simp) ?_
          refine AllReadyH.cons (o := ⟨some 23, .call { callee := .value (.func 9), args := #[(.tmp 22)], argTypes := #[27] }, _, _, _, _⟩) rfl (fun K hK => ?_) (AllReadyH.cons (o := ⟨some 25, .buildSlice 44 1 #[(0, (.tmp 24))], _, _, _, _⟩) rfl (fun K hK => ?_) AllReadyH.nil)
          · go_simp
            refine (told_any S r _ (HIN.out.below HB11.out) HFW.out).mono ?_
            rintro e w12 ⟨St, rfl, ho, hb⟩
            have Ht12 := Lib.hid (ho.mono HB11.out.size)
            have HB12 := Lib.hid (HB11.out.trans (hb.mono HB11.out.size))
            have HU12 := Lib.hid (HU11.out.below hb)
            have HR12 := Lib.hid (HR11.out.below hb)
            have HZ12 := Lib.hid (HZ11.out.below hb)
            clear ho hb
            refine hK.out _ _ ⟨HR12.out, HU12.out⟩ (fun hHeld => ?_)
            clear hK K
            refine wpAnyH_ready (rs := [3]) (by kernel_rfl) (by simp) ?_
            refine AllReadyH.cons (o := ⟨some 25, .buildSlice 44 1 #[(0, (.tmp 24))], _, _, _, _⟩) rfl (fun K hK => ?_) AllReadyH.nil
            refine ready_step (wp_sl_up _ rfl v HVO.out rfl ?_)
            have hb := (Below.refl w12.heap.size w12).alloc (Nat.le_refl _) (.cells (upL v).toArray UEf)
            have HL13 := Lib.hid (oneG (K := upK) w12 v HVO.out UEf (upL v).toArray rfl)
            have HB13 := Lib.hid (HB12.out.trans (hb.mono HB12.out.size))
            have HU13 := Lib.hid (HU12.out.below hb)
            have HR13 := Lib.hid (HR12.out.below hb)
            have HZ13 := Lib.hid (HZ12.out.below hb)
            have Ht13 := Lib.hid (Ht12.out.below hb)
            clear hb
            generalize w12.alloc (.cells (upL v).toArray UEf) = w13 at HB13 HU13 HR13 HZ13 Ht13 HL13 ⊢
            generalize w12.heap.size = gs at HL13 ⊢
            refine hK.out _ _ ⟨HR13.out, HU13.out⟩ (fun hHeld => ?_)
            clear hK K
            refine wpAnyH_ready (rs := [4]) (by kernel_rfl) (by simp) ?_
            refine AllReadyH.cons (o := ⟨some 26, .call { callee := .value (.func 15), args := #[(.tmp 23), (.tmp 25), (.const (.string ⟨#[]⟩))], argTypes := #[34, 44, 9] }, _, _, _, _⟩) rfl (fun K hK => ?_) AllReadyH.nil
            go_simp
            refine (apply_one _ r _ v _ Ht13.out.in_ HLV.out.len HL13.out (HTB.out _ HB13.out) qr HQR.out Z HZE.out).mono ?_
            rintro e w14 ⟨S1, rfl, ho, hb⟩
            have Hr14 := Lib.hid (ho.mono HB13.out.size)
            have HB14 := Lib.hid (HB13.out.trans (hb.mono HB13.out.size))
            have HU14 := Lib.hid (HU13.out.below hb)
            have HR14 := Lib.hid (HR13.out.below hb)
            have HZ14 := Lib.hid (HZ13.out.below hb)
            clear ho hb
            refine hK.out _ _ ⟨HR14.out, HU14.out⟩ (fun hHeld => ?_)
            clear hK K
            refine wpAnyH_take (i := 5) (oi := ⟨some 21, .move (.tmp 26), _, _, _, _⟩) (v := (.tuple #[.agg (rfC S1 Z.1.head Z.1.at_), .int .i64 (Z.2 : Nat)])) rfl (by kernel_rfl) (by kernel_rfl) (by kernel_rfl) (fun _ _ _ h => h) (Or.inl ⟨by rfl, fun W hW => by go_simp⟩) (by assumption) ?_
            simp only [Act.put, List.setIfInBounds_toArray, List.set_cons_zero, List.set_cons_succ]
            refine wpAnyH_take (i := 6) (oi := ⟨some 27, .extract (.tmp 21) 0, _, _, _, _⟩) (v := (.agg (rfC S1 Z.1.head Z.1.at_))) rfl (by kernel_rfl) (by kernel_rfl) (by kernel_rfl) (fun _ _ _ h => h) (Or.inl ⟨by rfl, fun W hW => by go_simp⟩) (by assumption) ?_
            simp only [Act.put, List.setIfInBounds_toArray, List.set_cons_zero, List.set_cons_succ]
            refine wpAnyH_take (i := 7) (oi := ⟨some 28, .extract (.tmp 21) 1, _, _, _, _⟩) (v := (.int .i64 (Z.2 : Nat))) rfl (by kernel_rfl) (by kernel_rfl) (by kernel_rfl) (fun _ _ _ h => h) (Or.inl ⟨by rfl, fun W hW => by go_simp⟩) (by assumption) ?_
            simp only [Act.put, List.setIfInBounds_toArray, List.set_cons_zero, List.set_cons_succ]
            refine wpAnyH_ready (rs := [9]) (by kernel_rfl) (by simp) ?_
            refine AllReadyH.cons (o := ⟨none, .store 34 (.tmp 5) (.tmp 27), _, _, _, _⟩) rfl (fun K hK => ?_) AllReadyH.nil
            refine ready_step (wp_store_rf (S := S1) (h := Z.1.head) (m := Z.1.at_) Hr14.out.at_ _ _ rfl g5 HZ14.out (len36 rfl) rfl rfl ?_)
            intro w15 hz hg
            have HZ15 := Lib.hid hz
            have HU15 := Lib.hid (HU14.out.grown hg (fun e => by cases e; exact Nat.lt_irrefl _ HG5.out.2))
            have HR15 := Lib.hid (HR14.out.grown hg (fun e => by cases e; exact Nat.lt_irrefl _ HG5.out.1))
            have HB15 := Lib.hid (HB14.out.grown hg HB14.out.size (fun k hk => by cases hk; exact Nat.le_of_lt HG5.out.1))
            have Hr15 := Lib.hid (in_grown Hr14.out HZ14.out hg)
            clear hz hg
            refine hK.out _ _ ⟨HR15.out, HU15.out⟩ (fun hHeld => ?_)
            clear hK K
            refine wpAnyH_take (i := 10) (oi := ⟨some 6, .assign (.tmp 28), _, _, _, _⟩) (v := (.int .i64 (Z.2 : Nat))) rfl (by kernel_rfl) (by kernel_rfl) (by kernel_rfl) (fun _ _ _ h => h) (Or.inl ⟨by rfl, fun W hW => by go_simp⟩) (by assumption) ?_
            simp only [Act.put, List.setIfInBounds_toArray, List.set_cons_zero, List.set_cons_succ]
            refine wpAnyH_done (by kernel_rfl) ?_ _
            go_wp2_with fail
            go_meet
            exact ⟨g5, S1, rfl, rfl, HB15, HU15, HR15, HZ15, Hr15⟩
          · refine ready_step (wp_sl_up _ rfl v HVO.out rfl ?_)
            have hb := (Below.refl w11.heap.size w11).alloc (Nat.le_refl _) (.cells (upL v).toArray UEf)
            have HL12 := Lib.hid (oneG (K := upK) w11 v HVO.out UEf (upL v).toArray rfl)
            have HB12 := Lib.hid (HB11.out.trans (hb.mono HB11.out.size))
            have HU12 := Lib.hid (HU11.out.below hb)
            have HR12 := Lib.hid (HR11.out.below hb)
            have HZ12 := Lib.hid (HZ11.out.below hb)
            clear hb
            generalize w11.alloc (.cells (upL v).toArray UEf) = w12 at HB12 HU12 HR12 HZ12 HL12 ⊢
            generalize w11.heap.size = gs at HL12 ⊢
            refine hK.out _ _ ⟨HR12.out, HU12.out⟩ (fun hHeld => ?_)
            clear hK K
            refine wpAnyH_ready (rs := [1]) (by kernel_rfl) (by simp) ?_
            refine AllReadyH.cons (o := ⟨some 23, .call { callee := .value (.func 9), args := #[(.tmp 22)], argTypes := #[27] }, _, _, _, _⟩) rfl (fun K hK => ?_) AllReadyH.nil
            go_simp
            refine (told_any S r _ (HIN.out.below HB12.out) HFW.out).mono ?_
            rintro e w13 ⟨St, rfl, ho, hb⟩
            have Ht13 := Lib.hid (ho.mono HB12.out.size)
            have HB13 := Lib.hid (HB12.out.trans (hb.mono HB12.out.size))
            have HU13 := Lib.hid (HU12.out.below hb)
            have HR13 := Lib.hid (HR12.out.below hb)
            have HZ13 := Lib.hid (HZ12.out.below hb)
            have HL13 := Lib.hid (HL12.out.below hb)
            clear ho hb
            refine hK.out _ _ ⟨HR13.out, HU13.out⟩ (fun hHeld => ?_)
            clear hK K
            refine wpAnyH_ready (rs := [4]) (by kernel_rfl) (by simp) ?_
            refine AllReadyH.cons (o := ⟨some 26, .call { callee := .value (.func 15), args := #[(.tmp 23), (.tmp 25), (.const (.string ⟨#[]⟩))], argTypes := #[34, 44, 9] }, _, _, _, _⟩) rfl (fun K hK => ?_) AllReadyH.nil
            go_simp
            refine (apply_one _ r _ v _ Ht13.out.in_ HLV.out.len HL13.out (HTB.out _ HB13.out) qr HQR.out Z HZE.out).mono ?_
            rintro e w14 ⟨S1, rfl, ho, hb⟩
            have Hr14 := Lib.hid (ho.mono HB13.out.size)
            have HB14 := Lib.hid (HB13.out.trans (hb.mono HB13.out.size))
            have HU14 := Lib.hid (HU13.out.below hb)
            have HR14 := Lib.hid (HR13.out.below hb)
            have HZ14 := Lib.hid (HZ13.out.below hb)
            clear ho hb
            refine hK.out _ _ ⟨HR14.out, HU14.out⟩ (fun hHeld => ?_)
            clear hK K
            refine wpAnyH_take (i := 5) (oi := ⟨some 21, .move (.tmp 26), _, _, _, _⟩) (v := (.tuple #[.agg (rfC S1 Z.1.head Z.1.at_), .int .i64 (Z.2 : Nat)])) rfl (by kernel_rfl) (by kernel_rfl) (by kernel_rfl) (fun _ _ _ h => h) (Or.inl ⟨by rfl, fun W hW => by go_simp⟩) (by assumption) ?_
            simp only [Act.put, List.setIfInBounds_toArray, List.set_cons_zero, List.set_cons_succ]
            refine wpAnyH_take (i := 6) (oi := ⟨some 27, .extract (.tmp 21) 0, _, _, _, _⟩) (v := (.agg (rfC S1 Z.1.head Z.1.at_))) rfl (by kernel_rfl) (by kernel_rfl) (by kernel_rfl) (fun _ _ _ h => h) (Or.inl ⟨by rfl, fun W hW => by go_simp⟩) (by assumption) ?_
            simp only [Act.put, List.setIfInBounds_toArray, List.set_cons_zero, List.set_cons_succ]
            refine wpAnyH_take (i := 7) (oi := ⟨some 28, .extract (.tmp 21) 1, _, _, _, _⟩) (v := (.int .i64 (Z.2 : Nat))) rfl (by kernel_rfl) (by kernel_rfl) (by kernel_rfl) (fun _ _ _ h => h) (Or.inl ⟨by rfl, fun W hW => by go_simp⟩) (by assumption) ?_
            simp only [Act.put, List.setIfInBounds_toArray, List.set_cons_zero, List.set_cons_succ]
            refine wpAnyH_ready (rs := [9]) (by kernel_rfl) (by simp) ?_
            refine AllReadyH.cons (o := ⟨none, .store 34 (.tmp 5) (.tmp 27), _, _, _, _⟩) rfl (fun K hK => ?_) AllReadyH.nil
            refine ready_step (wp_store_rf (S := S1) (h := Z.1.head) (m := Z.1.at_) Hr14.out.at_ _ _ rfl g5 HZ14.out (len36 rfl) rfl rfl ?_)
            intro w15 hz hg
            have HZ15 := Lib.hid hz
            have HU15 := Lib.hid (HU14.out.grown hg (fun e => by cases e; exact Nat.lt_irrefl _ HG5.out.2))
            have HR15 := Lib.hid (HR14.out.grown hg (fun e => by cases e; exact Nat.lt_irrefl _ HG5.out.1))
            have HB15 := Lib.hid (HB14.out.grown hg HB14.out.size (fun k hk => by cases hk; exact Nat.le_of_lt HG5.out.1))
            have Hr15 := Lib.hid (in_grown Hr14.out HZ14.out hg)
            clear hz hg
            refine hK.out _ _ ⟨HR15.out, HU15.out⟩ (fun hHeld => ?_)
            clear hK K
            refine wpAnyH_take (i := 10) (oi := ⟨some 6, .assign (.tmp 28), _, _, _, _⟩) (v := (.int .i64 (Z.2 : Nat))) rfl (by kernel_rfl) (by kernel_rfl) (by kernel_rfl) (fun _ _ _ h => h) (Or.inl ⟨by rfl, fun W hW => by go_simp⟩) (by assumption) ?_
            simp only [Act.put, List.setIfInBounds_toArray, List.set_cons_zero, List.set_cons_succ]
            refine wpAnyH_done (by kernel_rfl) ?_ _
            go_wp2_with fail
            go_meet
            exact ⟨g5, S1, rfl, rfl, HB15, HU15, HR15, HZ15, Hr15⟩
      case rest =>
        obtain ⟨g5, S1, rfl, rfl, HBa, HUa, HRa, HZa, Hra⟩ := hcut
        by_cases hz : Z.2 = 0
        · obtain ⟨hrv, M, lg, hZ1, hMN, hwo, hwn⟩ := good_of HQR.out HZE.out hz (by rw [HVE.out])
          have HMa : Hid (MvI w wc S S1 r ⟨M, r.tg, r.head, r.at_, lg⟩ v g5) := Lib.hid (by have a1 := HZa.out; have a2 := Hra.out; rw [hZ1] at a1 a2; exact ⟨HBa.out, HUa.out, HRa.out, a1, a2⟩)
          have hzI : ((Z.2 : Nat) : Int) = 0 := by rw [hz]; rfl
          have HWO := Lib.hid hwo
          have HWN := Lib.hid hwn
          have HCV := Lib.hid (fun W (hh : RowAt W (w.heap.size + 1) UEf (upL v)) => (by have := up_name hh; rw [HVE.out] at this; rw [← HPE.out]; exact this : W.cell? ⟨w.heap.size + 1, 1, none⟩ = some (.string p)))
          have HVP : Hid (strB v.name = p) := Lib.hid (by rw [HVE.out]; exact HPE.out)
          have hbI : (S.nb : Int) ≤ 100000 := by have := HFW.out.1; omega
          have hb1I : (S1.nb : Int) ≤ 100000 := by have a1 : M.length = S1.nb := HMa.out.ho.in_.br.1; have := hMN.1; omega
          clear hz hrv hZ1 hMN hwo hwn
          go_wp2_with (first
            | ((with_reducible show wpList _ _ _ (⟨some 38, _, _, _, _, _⟩ :: _) _ _); go_must (refine wl_ex rfl (exec_zid rfl) ?_))
            | ((with_reducible show wpList _ _ _ (⟨some 39, _, _, _, _, _⟩ :: _) _ _); go_must (refine wl_ex rfl (exec_zid rfl) ?_))
            | ((with_reducible show wpList _ _ _ (⟨some 7, _, _, _, _, _⟩ :: _) _ _); go_must (refine alloc_id rfl rfl ?_); intro wb hi hb hs; have HMb := Lib.hid (HMa.out.below hb); have H7b := Lib.hid hi; have HG7 := Lib.hid HMa.out.hb.size; clear hb; generalize wc.heap.size = g7 at hi hs H7b HG7 ⊢; clear hi hs)
            | ((with_reducible show wpList _ _ _ (⟨some 8, _, _, _, _, _⟩ :: _) _ _); go_must (refine alloc_id rfl rfl ?_); intro wd hi hb hs; have HMd := Lib.hid (HMb.out.below hb); have H7d := Lib.hid (H7b.out.below hb); have H8d := Lib.hid hi; have HG8 := Lib.hid HMb.out.hb.size; have H78 : Hid (g7 ≠ wb.heap.size) := Lib.hid (Nat.ne_of_lt (Array.getElem?_eq_some_iff.1 H7b.out.2).1); clear hb; generalize wb.heap.size = g8 at hi hs H8d HG8 H78 ⊢; clear hi hs)
            | ((with_reducible show wpList _ _ _ (⟨_, Op.store _ (.tmp 7) _, _, _, _, _⟩ :: _) _ _); go_must (refine store_id rfl _ _ rfl _ idZero idZero rfl rfl H7d.out idZero_length ?_); intro we hi hg hs; have H7e := Lib.hid hi; have HMe := Lib.hid (HMd.out.grown H7d.out hg HG7.out); have H8e := Lib.hid (id_grown H8d.out hg (fun e => by cases e; exact H78.out rfl)); clear hi hg hs)
            | ((with_reducible show wpList _ _ _ (⟨_, Op.store _ (.tmp 8) _, _, _, _, _⟩ :: _) _ _); go_must (refine store_id rfl _ _ rfl _ idZero idZero rfl rfl H8e.out idZero_length ?_); intro wf hi hg hs; have H8f := Lib.hid hi; have HMf := Lib.hid (HMe.out.grown H8e.out hg HG8.out); have H7f := Lib.hid (id_grown H7e.out hg (fun e => by cases e; exact H78.out rfl)); clear hi hg hs; have hc0 := rf_br HMf.out.hr))
          go_loopg [9] S.nb (fun g v9 W => ∃ (i : Nat), v9 = .int .i64 i ∧ g + i = S.nb ∧ Hid (MvI w W S S1 r ⟨M, r.tg, r.head, r.at_, lg⟩ v g5) ∧ Hid (IdAt W g7 (wasF (r.br.take i) v.name)) ∧ Hid (IdAt W g8 (idZero)))
          case atStart => exact ⟨0, rfl, rfl, HMf, H7f, H8f⟩
          case round =>
            obtain ⟨i, rfl, hg, HM, H7, H8⟩ := hrel
            have HG := Lib.hid hg
            have hi0 : (0 : Int) ≤ (i : Int) := by omega
            have hiI : (i : Int) ≤ (S.nb : Int) := by omega
            have hcR := rf_br HM.out.hr
            by_cases hi : (i : Int) < (S.nb : Int)
            · have hin : i < S.nb := by omega
              have HI := Lib.hid hin
              have hat := (HIN.out.below HM.out.hb).br
              obtain ⟨b, o, hab⟩ := hat.some_ (show 0 < S.nb by omega)
              rw [hab] at hat hcR
              have hLn := hat.1
              obtain ⟨X, hX⟩ : ∃ X, X = gd r.br i := ⟨_, rfl⟩
              have HXO : Hid (X.2.length = 32) := Lib.hid (hX ▸ hat.ok hin)
              obtain ⟨y, hy⟩ : ∃ y, strB X.1 = y := ⟨_, rfl⟩
              have cn : wr.cell? ⟨b, o + i * 33, none⟩ = some (.string y) := hy ▸ hX ▸ rn_name hat hin
              have HAR := Lib.hid hat
              have HAB := Lib.hid hab
              have HTK : Hid (r.br.take (i + 1) = r.br.take i ++ [X]) := Lib.hid (by rw [hX]; exact take_gd (by rw [hLn]; exact hin))
              have HXE := Lib.hid hX
              have cv := HCV.out _ HM.out.hu
              have hE : (y.toList == p.toList) = decide (X.1 = v.name) := by rw [← hy, ← HVP.out]; exact str_is _ _
              by_cases hxe : X.1 = v.name
              · rw [decide_eq_true hxe] at hE
                have HEQ := Lib.hid hxe
                clear hxe
                clear hg hX hy hat hab hLn
                go_wp2
                go_quiet (fail)
                have hbq := below_drewK (Below.refl wr.heap.size wr) nq
                have HMq := Lib.hid (HM.out.below hbq)
                have H7q := Lib.hid (H7.out.below hbq)
                have H8q := Lib.hid (H8.out.below hbq)
                have HAq := Lib.hid (HAR.out.below hbq)
                have hcq := rf_br HMq.out.hr
                rw [HAB.out] at hcq
                clear hbq hcR cn cv
                generalize wr.drewN nq = wq at HMq H7q H8q HAq hcq ⊢
                go_wp2_with (first
                  | ((with_reducible show wpList _ _ _ (⟨some 61, _, _, _, _, _⟩ :: _) _ _); go_must (refine wl_load rfl _ rfl _ _ X.2 HXO.out rfl (HXE.out ▸ rn_id HAq.out HI.out) ?_))
                  | ((with_reducible show wpList _ _ _ (⟨_, Op.store _ (.tmp 7) _, _, _, _, _⟩ :: _) _ _); go_must (refine store_id rfl _ _ rfl _ (wasF (r.br.take i) v.name) X.2 rfl rfl H7q.out HXO.out ?_); intro wz hi2 hg2 hs2; have H7z := Lib.hid hi2; have HMz := Lib.hid (HMq.out.grown H7q.out hg2 HG7.out); have H8z := Lib.hid (id_grown H8q.out hg2 (fun e => by cases e; exact H78.out rfl)); clear hi2 hg2 hs2))
                go_roundg (S.nb - (i + 1))
                case measure => have := HG.out; have := HI.out; omega
                case rel => exact ⟨i + 1, by go_num, by have := HI.out; omega, HMz, Lib.hid (by rw [HTK.out, wasF_step, if_pos HEQ.out]; exact H7z.out), H8z⟩
              · rw [decide_eq_false hxe] at hE
                have HEQ := Lib.hid hxe
                clear hxe
                clear hg hX hy hat hab hLn
                go_wp2
                go_quiet (fail)
                have hbq := below_drewK (Below.refl wr.heap.size wr) nq
                have HMq := Lib.hid (HM.out.below hbq)
                have H7q := Lib.hid (H7.out.below hbq)
                have H8q := Lib.hid (H8.out.below hbq)
                have HAq := Lib.hid (HAR.out.below hbq)
                have hcq := rf_br HMq.out.hr
                rw [HAB.out] at hcq
                clear hbq hcR cn cv
                generalize wr.drewN nq = wq at HMq H7q H8q HAq hcq ⊢
                go_wp2
                go_roundg (S.nb - (i + 1))
                case measure => have := HG.out; have := HI.out; omega
                case rel => exact ⟨i + 1, by go_num, by have := HI.out; omega, HMq, Lib.hid (by rw [HTK.out, wasF_step, if_neg HEQ.out]; exact H7q.out), H8q⟩
            · have hiE : i = S.nb := by omega
              have h7o := H7.out
              rw [List.take_of_length_le (by have := HIN.out.br.1; omega), HWO.out] at h7o
              have H7o := Lib.hid h7o
              have hc1 := rf_br HM.out.hz
              clear h7o hg hiE
              go_wp2
              clear hi hcR
              go_loopg [10] S1.nb (fun g v10 W => ∃ (i : Nat), v10 = .int .i64 i ∧ g + i = S1.nb ∧ Hid (MvI w W S S1 r ⟨M, r.tg, r.head, r.at_, lg⟩ v g5) ∧ Hid (IdAt W g7 (v.old)) ∧ Hid (IdAt W g8 (wasF (M.take i) v.name)))
              case atStart => exact ⟨0, rfl, rfl, HM, H7o, H8⟩
              case round =>
                obtain ⟨i, rfl, hg, HM, H7, H8⟩ := hrel
                have HG := Lib.hid hg
                have hi0 : (0 : Int) ≤ (i : Int) := by omega
                have hiI : (i : Int) ≤ (S1.nb : Int) := by omega
                have hcR := rf_br HM.out.hz
                by_cases hi : (i : Int) < (S1.nb : Int)
                · have hin : i < S1.nb := by omega
                  have HI := Lib.hid hin
                  have hat := HM.out.ho.in_.br
                  obtain ⟨b, o, hab⟩ := hat.some_ (show 0 < S1.nb by omega)
                  rw [hab] at hat hcR
                  have hLn := hat.1
                  obtain ⟨X, hX⟩ : ∃ X, X = gd M i := ⟨_, rfl⟩
                  have HXO : Hid (X.2.length = 32) := Lib.hid (hX ▸ hat.ok hin)
                  obtain ⟨y, hy⟩ : ∃ y, strB X.1 = y := ⟨_, rfl⟩
                  have cn : wr.cell? ⟨b, o + i * 33, none⟩ = some (.string y) := hy ▸ hX ▸ rn_name hat hin
                  have HAR := Lib.hid hat
                  have HAB := Lib.hid hab
                  have HTK : Hid (M.take (i + 1) = M.take i ++ [X]) := Lib.hid (by rw [hX]; exact take_gd (by rw [hLn]; exact hin))
                  have HXE := Lib.hid hX
                  have cv := HCV.out _ HM.out.hu
                  have hE : (y.toList == p.toList) = decide (X.1 = v.name) := by rw [← hy, ← HVP.out]; exact str_is _ _
                  by_cases hxe : X.1 = v.name
                  · rw [decide_eq_true hxe] at hE
                    have HEQ := Lib.hid hxe
                    clear hxe
                    clear hg hX hy hat hab hLn
                    go_wp2
                    go_quiet (fail)
                    have hbq := below_drewK (Below.refl wr.heap.size wr) nq
                    have HMq := Lib.hid (HM.out.below hbq)
                    have H7q := Lib.hid (H7.out.below hbq)
                    have H8q := Lib.hid (H8.out.below hbq)
                    have HAq := Lib.hid (HAR.out.below hbq)
                    have hcq := rf_br HMq.out.hz
                    rw [HAB.out] at hcq
                    clear hbq hcR cn cv
                    generalize wr.drewN nq = wq at HMq H7q H8q HAq hcq ⊢
                    go_wp2_with (first
                      | ((with_reducible show wpList _ _ _ (⟨some 83, _, _, _, _, _⟩ :: _) _ _); go_must (refine wl_load rfl _ rfl _ _ X.2 HXO.out rfl (HXE.out ▸ rn_id HAq.out HI.out) ?_))
                      | ((with_reducible show wpList _ _ _ (⟨_, Op.store _ (.tmp 8) _, _, _, _, _⟩ :: _) _ _); go_must (refine store_id rfl _ _ rfl _ (wasF (M.take i) v.name) X.2 rfl rfl H8q.out HXO.out ?_); intro wz hi2 hg2 hs2; have H8z := Lib.hid hi2; have HMz := Lib.hid (HMq.out.grown H8q.out hg2 HG8.out); have H7z := Lib.hid (id_grown H7q.out hg2 (fun e => by cases e; exact H78.out rfl)); clear hi2 hg2 hs2))
                    go_roundg (S1.nb - (i + 1))
                    case measure => have := HG.out; have := HI.out; omega
                    case rel => exact ⟨i + 1, by go_num, by have := HI.out; omega, HMz, H7z, Lib.hid (by rw [HTK.out, wasF_step, if_pos HEQ.out]; exact H8z.out)⟩
                  · rw [decide_eq_false hxe] at hE
                    have HEQ := Lib.hid hxe
                    clear hxe
                    clear hg hX hy hat hab hLn
                    go_wp2
                    go_quiet (fail)
                    have hbq := below_drewK (Below.refl wr.heap.size wr) nq
                    have HMq := Lib.hid (HM.out.below hbq)
                    have H7q := Lib.hid (H7.out.below hbq)
                    have H8q := Lib.hid (H8.out.below hbq)
                    have HAq := Lib.hid (HAR.out.below hbq)
                    have hcq := rf_br HMq.out.hz
                    rw [HAB.out] at hcq
                    clear hbq hcR cn cv
                    generalize wr.drewN nq = wq at HMq H7q H8q HAq hcq ⊢
                    go_wp2
                    go_roundg (S1.nb - (i + 1))
                    case measure => have := HG.out; have := HI.out; omega
                    case rel => exact ⟨i + 1, by go_num, by have := HI.out; omega, HMq, H7q, Lib.hid (by rw [HTK.out, wasF_step, if_neg HEQ.out]; exact H8q.out)⟩
                · have hiE : i = S1.nb := by omega
                  have h8o := H8.out
                  rw [List.take_of_length_le (by have a1 : M.length = S1.nb := HM.out.ho.in_.br.1; omega), HWN.out] at h8o
                  have H8n := Lib.hid h8o
                  have ct1 := rf_tg HM.out.hz
                  have ct0 := rf_tg HM.out.hr
                  have hng : S1.ng = S.ng := by have a1 := HM.out.ho.tg.len; have a2 := HIN.out.tg.1; exact a1.symm.trans a2
                  rw [hng] at ct1
                  obtain ⟨z, hz⟩ : ∃ z, strB r.head = z := ⟨_, rfl⟩
                  have ch1 : wr.cell? ⟨g5, 2, none⟩ = some (.string z) := hz ▸ rf_hd HM.out.hz
                  have ch0 : wr.cell? ⟨w.heap.size, 2, none⟩ = some (.string z) := hz ▸ rf_hd HM.out.hr
                  clear h8o hg hiE hng hz
                  go_wp2_with (first
                    | ((with_reducible show wpList _ _ _ (⟨some 84, _, _, _, _, _⟩ :: _) _ _); go_must (refine wl_load rfl _ rfl _ _ v.old HVO.out.2.1 rfl H7.out.range ?_))
                    | ((with_reducible show wpList _ _ _ (⟨some 86, _, _, _, _, _⟩ :: _) _ _); go_must (refine wl_load rfl _ rfl _ _ v.old HVO.out.2.1 rfl (up_old HM.out.hu) ?_))
                    | ((with_reducible show wpList _ _ _ (⟨some 87, _, _, _, _, _⟩ :: _) _ _); go_must (refine wl_ex rfl (exec_eqlId _ _ _ rfl v.old v.old HVO.out.2.1 HVO.out.2.1 rfl rfl) ?_); rw [decide_eq_true rfl])
                    | ((with_reducible show wpList _ _ _ (⟨some 89, _, _, _, _, _⟩ :: _) _ _); go_must (refine wl_load rfl _ rfl _ _ v.new HVO.out.2.2 rfl H8n.out.range ?_))
                    | ((with_reducible show wpList _ _ _ (⟨some 91, _, _, _, _, _⟩ :: _) _ _); go_must (refine wl_load rfl _ rfl _ _ v.new HVO.out.2.2 rfl (up_new HVO.out HM.out.hu) ?_))
                    | ((with_reducible show wpList _ _ _ (⟨some 92, _, _, _, _, _⟩ :: _) _ _); go_must (refine wl_ex rfl (exec_eqlId _ _ _ rfl v.new v.new HVO.out.2.2 HVO.out.2.2 rfl rfl) ?_); rw [decide_eq_true rfl])
                    | (go_at_call 14; go_must (refine (HAW.out _ HM.out.hb).mono ?_); rintro e we ⟨rfl, hbe⟩))
                  go_ret
                  exact ⟨rfl, HM.out.hb.trans (hbe.mono HM.out.hb.size)⟩
        · have hzI : ¬ ((Z.2 : Nat) : Int) = 0 := fun h => hz (Int.natCast_eq_zero.1 h)
          have hl0 : S1.nl = 0 := by have := Hra.out.log.len; rw [none_of HZE.out hz] at this; exact this.symm
          have hl0I : (S1.nl : Int) = 0 := by omega
          have c5 := rf_log Hra.out.at_ HZa.out
          go_wp2_with (go_at_call 14; go_must (refine (HAW.out _ HBa.out).mono ?_); rintro e we ⟨rfl, hbe⟩)
          go_ret
          exact ⟨rfl, HBa.out.trans (hbe.mono HBa.out.size)⟩
#print axioms refsMoved_any
end Go.Proofs.YtejooogfnnidcaaDoor
