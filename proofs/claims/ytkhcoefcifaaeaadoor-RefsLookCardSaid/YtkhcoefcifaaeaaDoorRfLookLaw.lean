/-
  The law: what any name is at, and all ids.
-/
import Derived.Test.YtkhcoefcifaaeaaDoorRfRefLook
import Derived.Test.YtkhcoefcifaaeaaDoorRfRefRoots
import Derived.Test.YtkhcoefcifaaeaaDoorGrp14
namespace Go.Proofs.YtkhcoefcifaaeaaDoor
open Go.RowKit

theorem inL_len {L : List RName} (h : ∀ x ∈ L, x.2.length = 32) {s : List UInt8} {e : List UInt8 × Nat} (he : e.1.length = 32) : (inL L s e).1.length = 32 := by
  unfold inL
  split
  · rename_i ht
    have := h _ (there_mem ht).1
    exact this
  · exact he
theorem hexEnd_len (s : List UInt8) : (hexEnd s).1.length = 32 := by
  unfold hexEnd
  split
  · exact unhex_len s
  · exact len_idZero
theorem lookF_len {w : World} {S : RfS} {r : RefsV} (h : RfIn w S r) (s : List UInt8) : (lookF r s).1.length = 32 := by
  have h1 : ∀ x ∈ r.br, x.2.length = 32 := h.br.2.2.2.1
  have h2 : ∀ x ∈ r.tg, x.2.length = 32 := h.tg.2.2.2.1
  unfold lookF
  split
  · split
    · exact h.at_
    · exact inL_len h1 (hexEnd_len _)
  · exact inL_len h1 (inL_len h2 (hexEnd_len _))
open Classical in
noncomputable def lkF (r : RefsV) (s : List UInt8) : List UInt8 × Nat := if decide (RightV r) then lookF r s else (idZero, 1)
theorem lkF_len {w : World} {S : RfS} {r : RefsV} (h : RfIn w S r) (s : List UInt8) : (lkF r s).1.length = 32 := by
  unfold lkF
  split
  · exact lookF_len h s
  · exact len_idZero
open Classical in
theorem look_is (S : RfS) (r : RefsV) (s : List UInt8) (p : ByteArray) (hp : strB s = p) (w : World) (h : RfIn w S r) (hs : RfLen r) (hsl : s.length ≤ 1000000) (hT : Tabs w) (Z : List UInt8 × Nat) (hZ : lkF r s = Z) :
    Calls Tryd.prog 6 #[.agg (rfC S r.head r.at_), .string p] w (LookIs w Z) := by
  subst hZ; exact look_any S r s p hp w h hs hsl hT (decide (RightV r)) decide_eq_true_iff
open Classical in
theorem rlook_is (S : RfS) (r : RefsV) (s : List UInt8) (p : ByteArray) (hp : strB s = p) (w : World) (h : RfIn w S r) (hs : RfLen r) (Z : List UInt8 × Nat) (hZ : lkF r s = Z) :
    Calls Tryd.prog 8 #[.agg (rfC S r.head r.at_), .string p] w (LookIs w Z) := by
  subst hZ; exact refLookC_any S r s p hp w h hs (decide (RightV r)) decide_eq_true_iff
theorem exec_eqlSelf {w : World} {o : Oper} {a : Act} (x y : Operand) (r : TypeId) (ho : o.op = .binOp .eql 24 x y r) (l : List UInt8) (hl : l.length = 32) (hx : a.eval x = .agg (idCells l)) (hy : a.eval y = .agg (idCells l)) :
    (execOp a.eval o).run Tryd.prog w = .ok (.value (.bool true)) w := by
  rw [exec_eqlId x y r ho l l hl hl hx hy, decide_eq_true rfl]

set_option maxRecDepth 100000 in
set_option maxHeartbeats 8000000 in
theorem refsLook_any (S : RfS) (r : RefsV) (p : ByteArray) (w : World) (h : RfIn w S r) (hT : Tabs w) :
    Calls Tryd.prog 3 #[.agg (rfC S r.head r.at_), .string p] w fun e w' => e = .returned (.bool true) ∧ Below w.heap.size w w' := by
  obtain ⟨q, hq⟩ : ∃ q : Bool, q = true ↔ LightV r := by classical exact ⟨decide (LightV r), decide_eq_true_iff⟩
  obtain ⟨s, hs⟩ : ∃ s, s = p.data.toList := ⟨_, rfl⟩
  have hp : strB s = p := by rw [hs]; exact strB_of p
  have HPE := Lib.hid hp
  have HPS : Hid (p.size = s.length) := Lib.hid (by rw [← hp, strB_size])
  have HAT := Lib.hid h.at_
  have HIN := Lib.hid h
  have HQ := Lib.hid hq
  have HTB := Lib.hid (fun W (hW : Below w.heap.size w W) => hT.below hW)
  have HB0 := Lib.hid ((Below.refl w.heap.size w).alloc (Nat.le_refl _) (.cells (rfC S r.head r.at_) RREf))
  have HR0 := Lib.hid (show RowAt (w.alloc (.cells (rfC S r.head r.at_) RREf)) w.heap.size RREf (rfL S r.head r.at_) from heap_alloc_new w _)
  have HLT := Lib.hid (fun W (hW : Below w.heap.size w W) => light_any S r W (h.below hW) q hq)
  have HAW := Lib.hid (fun W (hW : Below w.heap.size w W) => awake_any W (hT.below hW))
  obtain ⟨Z, hZ⟩ : ∃ Z, lkF r s = Z := ⟨_, rfl⟩
  have HZL : Hid (Z.1.length = 32) := Lib.hid (hZ ▸ lkF_len h s)
  have HZE := Lib.hid hZ
  clear h hT hq hZ hp hs
  cases q
  · go_enter Tryd.func3, Tryd.ntmps3
    go_wp2_with (first
      | ((with_reducible show wpList _ _ _ (⟨some 9, _, _, _, _, _⟩ :: _) _ _); go_must (refine wl_ex rfl (exec_loadRr _ rfl _ S r.head r.at_ HAT.out rfl HR0.out) ?_))
      | (go_at_call 5; go_must (refine (HLT.out _ HB0.out).mono ?_); rintro e w2 ⟨rfl, hb⟩; have HB2 := Lib.hid (HB0.out.trans (hb.mono HB0.out.size)); have HR2 := Lib.hid (HR0.out.below hb); clear hb))
    go_ret
    exact ⟨rfl, HB2.out⟩
  · have HLV := Lib.hid (HQ.out.1 rfl)
    by_cases hl : (200 : Int) < (p.size : Int)
    · have d1 : decide (200 < p.size) = true := decide_eq_true (by omega)
      go_enter Tryd.func3, Tryd.ntmps3
      go_wp2_with (first
        | ((with_reducible show wpList _ _ _ (⟨some 9, _, _, _, _, _⟩ :: _) _ _); go_must (refine wl_ex rfl (exec_loadRr _ rfl _ S r.head r.at_ HAT.out rfl HR0.out) ?_))
        | (go_at_call 5; go_must (refine (HLT.out _ HB0.out).mono ?_); rintro e w2 ⟨rfl, hb⟩; have HB2 := Lib.hid (HB0.out.trans (hb.mono HB0.out.size)); have HR2 := Lib.hid (HR0.out.below hb); clear hb))
      go_ret
      exact ⟨rfl, HB2.out⟩
    · have d1 : decide (200 < p.size) = false := decide_eq_false (by omega)
      have HFW := Lib.hid (HLV.out.few HIN.out)
      have HSL : Hid (s.length ≤ 1000000) := Lib.hid (by have := HPS.out; omega)
      go_enter Tryd.func3, Tryd.ntmps3
      go_wp2_with (first
        | ((with_reducible show wpList _ _ _ (⟨some 9, _, _, _, _, _⟩ :: _) _ _); go_must (refine wl_ex rfl (exec_loadRr _ rfl _ S r.head r.at_ HAT.out rfl HR0.out) ?_))
        | (go_at_call 5; go_must (refine (HLT.out _ HB0.out).mono ?_); rintro e w2 ⟨rfl, hb⟩; have HB2 := Lib.hid (HB0.out.trans (hb.mono HB0.out.size)); have HR2 := Lib.hid (HR0.out.below hb); clear hb)
        | ((with_reducible show wpList _ _ _ (⟨some 18, _, _, _, _, _⟩ :: _) _ _); go_must (refine wl_ex rfl (exec_loadRr _ rfl _ S r.head r.at_ HAT.out rfl HR2.out) ?_))
        | (go_at_call 7; (with_reducible refine (told_any S r w2 (HIN.out.below HB2.out) HFW.out).mono ?_); rintro e w3 ⟨S3, rfl, ho, hb⟩; have HT3 := Lib.hid (ho.mono HB2.out.size); have HB3 := Lib.hid (HB2.out.trans (hb.mono HB2.out.size)); have HR3 := Lib.hid (HR2.out.below hb); clear ho hb)
        | (go_at_call 6; go_must (refine (look_is S3 r s p HPE.out w3 HT3.out.inn HLV.out.len HSL.out (HTB.out _ HB3.out) Z HZE.out).mono ?_); rintro e w4 ⟨rfl, hb⟩; have HB4 := Lib.hid (HB3.out.trans (hb.mono HB3.out.size)); have HR4 := Lib.hid (HR3.out.below hb); clear hb)
        | ((with_reducible show wpList _ _ _ (⟨some 5, _, _, _, _, _⟩ :: _) _ _); go_must (refine alloc_id rfl rfl ?_); intro w5 hz hb hs; have HY5 := Lib.hid hz; have HG5 := Lib.hid (show w.heap.size < w4.heap.size from HR4.out.lt); have HB5 := Lib.hid (HB4.out.trans (hb.mono HB4.out.size)); have HR5 := Lib.hid (HR4.out.below hb); clear hb hs; generalize w4.heap.size = g5 at hz HY5 HG5 ⊢; clear hz)
        | ((with_reducible show wpList _ _ _ (⟨_, Op.store _ (.tmp 5) _, _, _, _, _⟩ :: _) _ _); go_must (refine store_id rfl _ _ rfl _ idZero Z.1 rfl rfl HY5.out HZL.out ?_); intro w6 hid hg hsz; have HZ6 := Lib.hid hid; have HR6 := Lib.hid (HR5.out.grown hg (fun e => by cases e; exact Nat.lt_irrefl _ HG5.out)); have HB6 := Lib.hid (HB5.out.grown hg HB5.out.size (fun k hk => by cases hk; exact Nat.le_of_lt HG5.out)); clear hid hg hsz)
        | ((with_reducible show wpList _ _ _ (⟨some 25, _, _, _, _, _⟩ :: _) _ _); go_must (refine wl_ex rfl (exec_loadRr _ rfl _ S r.head r.at_ HAT.out rfl HR6.out) ?_))
        | (go_at_call 8; go_must (refine (rlook_is S r s p HPE.out w6 (HIN.out.below HB6.out) HLV.out.len Z HZE.out).mono ?_); rintro e w7 ⟨rfl, hb⟩; have HB7 := Lib.hid (HB6.out.trans (hb.mono HB6.out.size)); have HR7 := Lib.hid (HR6.out.below hb); have HZ7 := Lib.hid (HZ6.out.below hb); clear hb)
        | ((with_reducible show wpList _ _ _ (⟨some 7, _, _, _, _, _⟩ :: _) _ _); go_must (refine alloc_id rfl rfl ?_); intro w8 hz hb hs; have HY8 := Lib.hid hz; have HG7 := Lib.hid (show w.heap.size < w7.heap.size ∧ g5 < w7.heap.size from ⟨HR7.out.lt, (show RowAt w7 g5 24 (Z.1.map B) from HZ7.out.2).lt⟩); have HB8 := Lib.hid (HB7.out.trans (hb.mono HB7.out.size)); have HR8 := Lib.hid (HR7.out.below hb); have HZ8 := Lib.hid (HZ7.out.below hb); clear hb hs; generalize w7.heap.size = g7 at hz HY8 HG7 ⊢; clear hz)
        | ((with_reducible show wpList _ _ _ (⟨_, Op.store _ (.tmp 7) _, _, _, _, _⟩ :: _) _ _); go_must (refine store_id rfl _ _ rfl _ idZero Z.1 rfl rfl HY8.out HZL.out ?_); intro w9 hid hg hsz; have HY9 := Lib.hid hid; have HZ9 := Lib.hid (idAt_ne HZ8.out hg (Nat.ne_of_lt HG7.out.2)); have HR9 := Lib.hid (HR8.out.grown hg (fun e => by cases e; exact Nat.lt_irrefl _ HG7.out.1)); have HB9 := Lib.hid (HB8.out.grown hg HB8.out.size (fun k hk => by cases hk; exact Nat.le_of_lt HG7.out.1)); clear hid hg hsz))
      have HBd : Hid (Below w.heap.size w w9.drew) := Lib.hid HB9.out.drew
      have HRd : Hid (RowAt w9.drew w.heap.size RREf (rfL S r.head r.at_)) := Lib.hid HR9.out
      have HZd : Hid (IdAt w9.drew g5 Z.1) := Lib.hid HZ9.out
      have HYd : Hid (IdAt w9.drew g7 Z.1) := Lib.hid HY9.out
      refine wp_region_held_drew (S := fun W => RowAt W w.heap.size RREf (rfL S r.head r.at_) ∧ IdAt W g5 Z.1 ∧ IdAt W g7 Z.1) (by kernel_rfl) ⟨HRd.out, HZd.out, HYd.out⟩ (fun hHeld => ?_)
      refine wpAnyH_take (i := 0) (oi := ⟨some 30, .load 24 (.tmp 5), _, _, _, _⟩) (v := (.agg (idCells Z.1))) rfl (by kernel_rfl) (by kernel_rfl) (by kernel_rfl) (fun _ _ _ h => h) (Or.inl ⟨by rfl, fun W hW => exec_loadId _ rfl _ _ Z.1 HZL.out rfl hW.2.1.range⟩) (by assumption) ?_
      simp only [Act.put, List.setIfInBounds_toArray, List.set_cons_zero, List.set_cons_succ]
      refine wpAnyH_take (i := 1) (oi := ⟨some 31, .load 24 (.tmp 7), _, _, _, _⟩) (v := (.agg (idCells Z.1))) rfl (by kernel_rfl) (by kernel_rfl) (by kernel_rfl) (fun _ _ _ h => h) (Or.inl ⟨by rfl, fun W hW => exec_loadId _ rfl _ _ Z.1 HZL.out rfl hW.2.2.range⟩) (by assumption) ?_
      simp only [Act.put, List.setIfInBounds_toArray, List.set_cons_zero, List.set_cons_succ]
      refine wpAnyH_take (i := 2) (oi := ⟨some 32, .binOp .eql 24 (.tmp 30) (.tmp 31) 24, _, _, _, _⟩) (v := (.bool true)) rfl (by kernel_rfl) (by kernel_rfl) (by kernel_rfl) (fun _ _ _ h => h) (Or.inl ⟨by rfl, fun W hW => exec_eqlSelf _ _ _ rfl Z.1 HZL.out rfl rfl⟩) (by assumption) ?_
      simp only [Act.put, List.setIfInBounds_toArray, List.set_cons_zero, List.set_cons_succ]
      refine wpAnyH_take (i := 3) (oi := ⟨some 33, .move (.tmp 32), _, _, _, _⟩) (v := (.bool true)) rfl (by kernel_rfl) (by kernel_rfl) (by kernel_rfl) (fun _ _ _ h => h) (Or.inl ⟨by rfl, fun W hW => by go_simp⟩) (by assumption) ?_
      simp only [Act.put, List.setIfInBounds_toArray, List.set_cons_zero, List.set_cons_succ]
      refine wpAnyH_take (i := 4) (oi := ⟨some 34, .move (.tmp 6), _, _, _, _⟩) (v := (.int .i64 (Z.2 : Nat))) rfl (by kernel_rfl) (by kernel_rfl) (by kernel_rfl) (fun _ _ _ h => h) (Or.inl ⟨by rfl, fun W hW => by go_simp⟩) (by assumption) ?_
      simp only [Act.put, List.setIfInBounds_toArray, List.set_cons_zero, List.set_cons_succ]
      refine wpAnyH_take (i := 5) (oi := ⟨some 35, .move (.tmp 8), _, _, _, _⟩) (v := (.int .i64 (Z.2 : Nat))) rfl (by kernel_rfl) (by kernel_rfl) (by kernel_rfl) (fun _ _ _ h => h) (Or.inl ⟨by rfl, fun W hW => by go_simp⟩) (by assumption) ?_
      simp only [Act.put, List.setIfInBounds_toArray, List.set_cons_zero, List.set_cons_succ]
      refine wpAnyH_take (i := 6) (oi := ⟨some 36, .binOp .eql 3 (.tmp 34) (.tmp 35) 3, _, _, _, _⟩) (v := (.bool true)) rfl (by kernel_rfl) (by kernel_rfl) (by kernel_rfl) (fun _ _ _ h => h) (Or.inl ⟨by rfl, fun W hW => by go_simp⟩) (by assumption) ?_
      simp only [Act.put, List.setIfInBounds_toArray, List.set_cons_zero, List.set_cons_succ]
      refine wpAnyH_take (i := 7) (oi := ⟨some 37, .pick (.tmp 33) (.tmp 36) (.const (.bool false)), _, _, _, _⟩) (v := (.bool true)) rfl (by kernel_rfl) (by kernel_rfl) (by kernel_rfl) (fun _ _ _ h => h) (Or.inl ⟨by rfl, fun W hW => by go_simp⟩) (by assumption) ?_
      simp only [Act.put, List.setIfInBounds_toArray, List.set_cons_zero, List.set_cons_succ]
      refine wpAnyH_take (i := 8) (oi := ⟨some 38, .move (.tmp 37), _, _, _, _⟩) (v := (.bool true)) rfl (by kernel_rfl) (by kernel_rfl) (by kernel_rfl) (fun _ _ _ h => h) (Or.inl ⟨by rfl, fun W hW => by go_simp⟩) (by assumption) ?_
      simp only [Act.put, List.setIfInBounds_toArray, List.set_cons_zero, List.set_cons_succ]
      refine wpAnyH_take (i := 9) (oi := ⟨some 39, .load 27 (.tmp 2), _, _, _, _⟩) (v := (.agg (rfC S r.head r.at_))) rfl (by kernel_rfl) (by kernel_rfl) (by kernel_rfl) (fun _ _ _ h => h) (Or.inl ⟨by rfl, fun W hW => exec_loadRr _ rfl _ S r.head r.at_ HAT.out rfl hW.1⟩) (by assumption) ?_
      simp only [Act.put, List.setIfInBounds_toArray, List.set_cons_zero, List.set_cons_succ]
      refine wpAnyH_take (i := 12) (oi := ⟨some 42, .load 27 (.tmp 2), _, _, _, _⟩) (v := (.agg (rfC S r.head r.at_))) rfl (by kernel_rfl) (by kernel_rfl) (by kernel_rfl) (fun _ _ _ h => h) (Or.inl ⟨by rfl, fun W hW => exec_loadRr _ rfl _ S r.head r.at_ HAT.out rfl hW.1⟩) (by assumption) ?_
      simp only [Act.put, List.setIfInBounds_toArray, List.set_cons_zero, List.set_cons_succ]
      refine wpAnyH_ready (rs := [10]) (by kernel_rfl) (by simp) ?_
      refine AllReadyH.cons (o := ⟨some 40, .call { callee := .value (.func 7), args := #[(.tmp 39)], argTypes := #[27] }, _, _, _, _⟩) rfl (fun K hK => ?_) AllReadyH.nil
      go_simp
      refine (told_any S r _ (HIN.out.below HBd.out) HFW.out).mono ?_
      rintro e we ⟨S7, rfl, ho, hb⟩
      have HTe := Lib.hid ho
      have HBe := Lib.hid (HBd.out.trans (hb.mono HBd.out.size))
      have HRe := Lib.hid (HRd.out.below hb)
      have HZe := Lib.hid (HZd.out.below hb)
      have HYe := Lib.hid (HYd.out.below hb)
      clear ho hb
      have HF7 : Hid (RfFew S7) := Lib.hid (HLV.out.few HTe.out.inn)
      refine hK.out _ _ ⟨HRe.out, HZe.out, HYe.out⟩ (fun hHeld => ?_)
      clear hK K
      refine wpAnyH_ready (rs := [11]) (by kernel_rfl) (by simp) ?_
      refine AllReadyH.cons (o := ⟨some 41, .call { callee := .value (.func 10), args := #[(.tmp 40)], argTypes := #[34] }, _, _, _, _⟩) rfl (fun K hK => ?_) AllReadyH.nil
      go_simp
      refine (roots_any S7 r _ HTe.out.inn HF7.out).mono ?_
      rintro e wf ⟨a7, n7, c7, rfl, h7, hq7, hb⟩
      have H7 := Lib.hid h7
      have HQ7 := Lib.hid hq7
      have HBf := Lib.hid (HBe.out.trans (hb.mono HBe.out.size))
      have HRf := Lib.hid (HRe.out.below hb)
      have HZf := Lib.hid (HZe.out.below hb)
      have HYf := Lib.hid (HYe.out.below hb)
      clear h7 hq7 hb
      refine hK.out _ _ ⟨HRf.out, HZf.out, HYf.out⟩ (fun hHeld => ?_)
      clear hK K
      refine wpAnyH_ready (rs := [13]) (by kernel_rfl) (by simp) ?_
      refine AllReadyH.cons (o := ⟨some 43, .call { callee := .value (.func 11), args := #[(.tmp 42)], argTypes := #[27] }, _, _, _, _⟩) rfl (fun K hK => ?_) AllReadyH.nil
      go_simp
      refine (refRoots_any S r _ (HIN.out.below HBf.out) HFW.out).mono ?_
      rintro e wg ⟨a8, n8, c8, rfl, h8, hb⟩
      have H8 := Lib.hid h8
      have H7g := Lib.hid (H7.out.below hb)
      have HBg := Lib.hid (HBf.out.trans (hb.mono HBf.out.size))
      have HRg := Lib.hid (HRf.out.below hb)
      have HZg := Lib.hid (HZf.out.below hb)
      have HYg := Lib.hid (HYf.out.below hb)
      clear h8 hb
      refine hK.out _ _ ⟨HRg.out, HZg.out, HYg.out⟩ (fun hHeld => ?_)
      clear hK K
      refine wpAnyH_ready (rs := [14]) (by kernel_rfl) (by simp) ?_
      refine AllReadyH.cons (o := ⟨some 44, .call { callee := .value (.func 9), args := #[(.tmp 41), (.tmp 43)], argTypes := #[39, 39] }, _, _, _, _⟩) rfl (fun K hK => ?_) AllReadyH.nil
      go_simp
      refine (same_any a7 n7 c7 (rootsF r) a8 n8 c8 (rootsF r) wg H7g.out H8.out (by have := HQ7.out; omega)).mono ?_
      rintro e wh ⟨he, hb⟩
      rw [decide_eq_true rfl] at he
      subst he
      have HBh := Lib.hid (HBg.out.trans (hb.mono HBg.out.size))
      have HRh := Lib.hid (HRg.out.below hb)
      have HZh := Lib.hid (HZg.out.below hb)
      have HYh := Lib.hid (HYg.out.below hb)
      clear hb
      refine hK.out _ _ ⟨HRh.out, HZh.out, HYh.out⟩ (fun hHeld => ?_)
      clear hK K
      refine wpAnyH_take (i := 15) (oi := ⟨some 45, .pick (.tmp 38) (.tmp 44) (.const (.bool false)), _, _, _, _⟩) (v := (.bool true)) rfl (by kernel_rfl) (by kernel_rfl) (by kernel_rfl) (fun _ _ _ h => h) (Or.inl ⟨by rfl, fun W hW => by go_simp⟩) (by assumption) ?_
      simp only [Act.put, List.setIfInBounds_toArray, List.set_cons_zero, List.set_cons_succ]
      refine wpAnyH_take (i := 16) (oi := ⟨some 46, .move (.tmp 45), _, _, _, _⟩) (v := (.bool true)) rfl (by kernel_rfl) (by kernel_rfl) (by kernel_rfl) (fun _ _ _ h => h) (Or.inl ⟨by rfl, fun W hW => by go_simp⟩) (by assumption) ?_
      simp only [Act.put, List.setIfInBounds_toArray, List.set_cons_zero, List.set_cons_succ]
      refine wpAnyH_ready (rs := [17]) (by kernel_rfl) (by simp) ?_
      refine AllReadyH.cons (o := ⟨some 47, .call { callee := .value (.func 12), args := #[], argTypes := #[] }, _, _, _, _⟩) rfl (fun K hK => ?_) AllReadyH.nil
      go_simp
      refine (HAW.out _ HBh.out).mono ?_
      rintro e wi ⟨rfl, hb⟩
      have HBi := Lib.hid (HBh.out.trans (hb.mono HBh.out.size))
      have HRi := Lib.hid (HRh.out.below hb)
      have HZi := Lib.hid (HZh.out.below hb)
      have HYi := Lib.hid (HYh.out.below hb)
      clear hb
      refine hK.out _ _ ⟨HRi.out, HZi.out, HYi.out⟩ (fun hHeld => ?_)
      clear hK K
      refine wpAnyH_take (i := 18) (oi := ⟨some 48, .pick (.tmp 46) (.tmp 47) (.const (.bool false)), _, _, _, _⟩) (v := (.bool true)) rfl (by kernel_rfl) (by kernel_rfl) (by kernel_rfl) (fun _ _ _ h => h) (Or.inl ⟨by rfl, fun W hW => by go_simp⟩) (by assumption) ?_
      simp only [Act.put, List.setIfInBounds_toArray, List.set_cons_zero, List.set_cons_succ]
      refine wpAnyH_take (i := 19) (oi := ⟨some 4, .assign (.tmp 48), _, _, _, _⟩) (v := (.bool true)) rfl (by kernel_rfl) (by kernel_rfl) (by kernel_rfl) (fun _ _ _ h => h) (Or.inl ⟨by rfl, fun W hW => by go_simp⟩) (by assumption) ?_
      simp only [Act.put, List.setIfInBounds_toArray, List.set_cons_zero, List.set_cons_succ]
      refine wpAnyH_done (by kernel_rfl) ?_ _
      go_wp2_with fail
      go_ret
      exact ⟨rfl, HBi.out⟩
#print axioms refsLook_any
end Go.Proofs.YtkhcoefcifaaeaaDoor
