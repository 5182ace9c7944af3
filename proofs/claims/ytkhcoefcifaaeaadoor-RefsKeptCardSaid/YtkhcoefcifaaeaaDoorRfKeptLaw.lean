/-
  The law: no id is lost by updates while the log has room.
-/
import Derived.Test.YtkhcoefcifaaeaaDoorRfRoots
import Derived.Test.YtkhcoefcifaaeaaDoorGrp19
namespace Go.Proofs.YtkhcoefcifaaeaaDoor
open Go.RowKit

theorem res_ok {r : RefsV} {L : List UpdV} {Z : RefsV × Nat} (hZ : resL r L = Z) (h0 : Z.2 = 0) : RightV r ∧ applyF noteB r L = Z ∧ RightV Z.1 := by
  subst hZ
  unfold resL at h0 ⊢
  by_cases h : RightV r
  · rw [if_pos h] at h0 ⊢
    exact ⟨h, rfl, applyF_right noteOk L h h0⟩
  · rw [if_neg h] at h0
    exact absurd h0 (show ¬ (1 : Nat) = 0 by decide)
theorem exec_loadIdAt {w : World} {o : Oper} {a : Act} (x : Operand) (ho : o.op = .load 24 x) (b off : Nat) (l : List UInt8) (hl : l.length = 32) (hx : a.eval x = .pointer (some ⟨b, off, none⟩)) (hc : w.rangeAt b off (l.map B)) :
    (execOp a.eval o).run Tryd.prog w = .ok (.value (.agg (idCells l))) w := exec_loadId x ho b off l hl hx hc

set_option maxRecDepth 100000 in
set_option maxHeartbeats 8000000 in
theorem refsKept_any (S : RfS) (r : RefsV) (a : Option Addr) (n c : Nat) (L : List UpdV) (w : World) (h : RfIn w S r) (hL : AtG upK w a n c L) (hT : Tabs w) :
    Calls Tryd.prog 4 #[.agg (rfC S r.head r.at_), .slice a n c] w fun e w' => e = .returned (.bool true) ∧ Below w.heap.size w w' := by
  obtain ⟨q, hq⟩ : ∃ q : Bool, q = true ↔ LightV r := by classical exact ⟨decide (LightV r), decide_eq_true_iff⟩
  have HAT := Lib.hid h.at_
  have HIN := Lib.hid h
  have HLA := Lib.hid hL
  have HLN := Lib.hid hL.1
  have HQ := Lib.hid hq
  have HTB := Lib.hid (fun W (hW : Below w.heap.size w W) => hT.below hW)
  have HB0 := Lib.hid ((Below.refl w.heap.size w).alloc (Nat.le_refl _) (.cells (rfC S r.head r.at_) RREf))
  have HR0 := Lib.hid (show RowAt (w.alloc (.cells (rfC S r.head r.at_) RREf)) w.heap.size RREf (rfL S r.head r.at_) from heap_alloc_new w _)
  have HLT := Lib.hid (fun W (hW : Below w.heap.size w W) => light_any S r W (h.below hW) q hq)
  have HAW := Lib.hid (fun W (hW : Below w.heap.size w W) => awake_any W (hT.below hW))
  obtain ⟨Z, hZ⟩ : ∃ Z, resL r L = Z := ⟨_, rfl⟩
  have HZE := Lib.hid hZ
  have HLL := Lib.hid h.log.1
  have hn0 : (0 : Int) ≤ (n : Int) := by omega
  clear h hL hT hq hZ
  cases q
  · go_enter Tryd.func4, Tryd.ntmps4
    go_wp2_with (first
      | ((with_reducible show wpList _ _ _ (⟨some 11, _, _, _, _, _⟩ :: _) _ _); go_must (refine wl_ex rfl (exec_loadRr _ rfl _ S r.head r.at_ HAT.out rfl HR0.out) ?_))
      | (go_at_call 5; go_must (refine (HLT.out _ HB0.out).mono ?_); rintro e w2 ⟨rfl, hb⟩; have HB2 := Lib.hid (HB0.out.trans (hb.mono HB0.out.size)); have HR2 := Lib.hid (HR0.out.below hb); clear hb))
    go_ret
    exact ⟨rfl, HB2.out⟩
  · have HLV := Lib.hid (HQ.out.1 rfl)
    by_cases hl : (40 : Int) < (n : Int)
    · have d1 : decide (40 < n) = true := decide_eq_true (by omega)
      go_enter Tryd.func4, Tryd.ntmps4
      go_wp2_with (first
        | ((with_reducible show wpList _ _ _ (⟨some 11, _, _, _, _, _⟩ :: _) _ _); go_must (refine wl_ex rfl (exec_loadRr _ rfl _ S r.head r.at_ HAT.out rfl HR0.out) ?_))
        | (go_at_call 5; go_must (refine (HLT.out _ HB0.out).mono ?_); rintro e w2 ⟨rfl, hb⟩; have HB2 := Lib.hid (HB0.out.trans (hb.mono HB0.out.size)); have HR2 := Lib.hid (HR0.out.below hb); clear hb))
      go_ret
      exact ⟨rfl, HB2.out⟩
    · have d1 : decide (40 < n) = false := decide_eq_false (by omega)
      have HFW := Lib.hid (HLV.out.few HIN.out)
      have HN4 : Hid (n ≤ 100000) := Lib.hid (by omega)
      have hnI : (n : Int) ≤ 40 := by omega
      obtain ⟨f, hf⟩ : ∃ f, Z.2 = f := ⟨_, rfl⟩
      have HFE := Lib.hid hf
      by_cases hf0 : f ≠ 0
      · have hfI : ¬ ((f : Nat) : Int) = 0 := fun h => hf0 (Int.natCast_eq_zero.1 h)
        clear hf0
        go_enter Tryd.func4, Tryd.ntmps4
        go_wp2_with (first
          | ((with_reducible show wpList _ _ _ (⟨some 11, _, _, _, _, _⟩ :: _) _ _); go_must (refine wl_ex rfl (exec_loadRr _ rfl _ S r.head r.at_ HAT.out rfl HR0.out) ?_))
          | (go_at_call 5; go_must (refine (HLT.out _ HB0.out).mono ?_); rintro e w2 ⟨rfl, hb⟩; have HB2 := Lib.hid (HB0.out.trans (hb.mono HB0.out.size)); have HR2 := Lib.hid (HR0.out.below hb); clear hb)
          | ((with_reducible show wpList _ _ _ (⟨some 20, _, _, _, _, _⟩ :: _) _ _); go_must (refine wl_ex rfl (exec_loadRr _ rfl _ S r.head r.at_ HAT.out rfl HR2.out) ?_))
          | (go_at_call 7; (with_reducible refine (told_any S r w2 (HIN.out.below HB2.out) HFW.out).mono ?_); rintro e w3 ⟨S3, rfl, ho, hb⟩; have HT3 := Lib.hid (ho.mono HB2.out.size); have HB3 := Lib.hid (HB2.out.trans (hb.mono HB2.out.size)); have HR3 := Lib.hid (HR2.out.below hb); clear ho hb)
          | (go_at_call 13; go_must (refine (apply_res S3 r a n c L _ HT3.out.inn HLV.out.len (HLA.out.below HB3.out) HN4.out (HTB.out _ HB3.out) Z HZE.out).mono ?_); rintro e w4 ⟨S4, rfl, ho, hb⟩; rw [HFE.out]; have HO4 := Lib.hid (ho.mono HB3.out.size); have HB4 := Lib.hid (HB3.out.trans (hb.mono HB3.out.size)); have HR4 := Lib.hid (HR3.out.below hb); clear ho hb)
          | ((with_reducible show wpList _ _ _ (⟨some 5, _, _, _, _, _⟩ :: _) _ _); go_must (refine alloc_rf rfl rfl ?_); intro w5 hz hb; have HY5 := Lib.hid hz; have HG5 := Lib.hid (show w.heap.size < w4.heap.size from HR4.out.lt); have HO5 := Lib.hid (HO4.out.below hb); have HB5 := Lib.hid (HB4.out.trans (hb.mono HB4.out.size)); have HR5 := Lib.hid (HR4.out.below hb); clear hb; generalize w4.heap.size = g5 at hz HY5 HG5 ⊢; clear hz)
          | ((with_reducible show wpList _ _ _ (⟨_, Op.store _ (.tmp 5) _, _, _, _, _⟩ :: _) _ _); go_must (refine wl_store_rf (S := S4) (h := Z.1.head) (a := Z.1.at_) HO5.out.at_ HY5.out (len36 rfl) rfl _ _ rfl rfl rfl ?_); intro w6 hz hg; have HZ6 := Lib.hid hz; have HO6 := Lib.hid (in_grown HO5.out HY5.out hg); have HR6 := Lib.hid (HR5.out.grown hg (fun e => by cases e; exact Nat.lt_irrefl _ HG5.out)); have HB6 := Lib.hid (HB5.out.grown hg HB5.out.size (fun k hk => by cases hk; exact Nat.le_of_lt HG5.out)); clear hz hg; have c35 := rf_log HAT.out HR6.out)
          | (go_at_call 12; go_must (refine (HAW.out _ HB6.out).mono ?_); rintro e we ⟨rfl, hbe⟩))
        go_ret
        exact ⟨rfl, HB6.out.trans (hbe.mono HB6.out.size)⟩
      · have hf0 : f = 0 := Classical.byContradiction hf0
        subst hf0
        by_cases hm : (64 : Int) < (S.nl : Int) + (n : Int)
        · have hnlI : (S.nl : Int) ≤ 80 := by have h1 := HLV.out.2.2.1; have h2 := HLL.out; omega
          go_enter Tryd.func4, Tryd.ntmps4
          go_wp2_with (first
            | ((with_reducible show wpList _ _ _ (⟨some 11, _, _, _, _, _⟩ :: _) _ _); go_must (refine wl_ex rfl (exec_loadRr _ rfl _ S r.head r.at_ HAT.out rfl HR0.out) ?_))
            | (go_at_call 5; go_must (refine (HLT.out _ HB0.out).mono ?_); rintro e w2 ⟨rfl, hb⟩; have HB2 := Lib.hid (HB0.out.trans (hb.mono HB0.out.size)); have HR2 := Lib.hid (HR0.out.below hb); clear hb)
            | ((with_reducible show wpList _ _ _ (⟨some 20, _, _, _, _, _⟩ :: _) _ _); go_must (refine wl_ex rfl (exec_loadRr _ rfl _ S r.head r.at_ HAT.out rfl HR2.out) ?_))
            | (go_at_call 7; (with_reducible refine (told_any S r w2 (HIN.out.below HB2.out) HFW.out).mono ?_); rintro e w3 ⟨S3, rfl, ho, hb⟩; have HT3 := Lib.hid (ho.mono HB2.out.size); have HB3 := Lib.hid (HB2.out.trans (hb.mono HB2.out.size)); have HR3 := Lib.hid (HR2.out.below hb); clear ho hb)
            | (go_at_call 13; go_must (refine (apply_res S3 r a n c L _ HT3.out.inn HLV.out.len (HLA.out.below HB3.out) HN4.out (HTB.out _ HB3.out) Z HZE.out).mono ?_); rintro e w4 ⟨S4, rfl, ho, hb⟩; rw [HFE.out]; have HO4 := Lib.hid (ho.mono HB3.out.size); have HB4 := Lib.hid (HB3.out.trans (hb.mono HB3.out.size)); have HR4 := Lib.hid (HR3.out.below hb); clear ho hb)
            | ((with_reducible show wpList _ _ _ (⟨some 5, _, _, _, _, _⟩ :: _) _ _); go_must (refine alloc_rf rfl rfl ?_); intro w5 hz hb; have HY5 := Lib.hid hz; have HG5 := Lib.hid (show w.heap.size < w4.heap.size from HR4.out.lt); have HO5 := Lib.hid (HO4.out.below hb); have HB5 := Lib.hid (HB4.out.trans (hb.mono HB4.out.size)); have HR5 := Lib.hid (HR4.out.below hb); clear hb; generalize w4.heap.size = g5 at hz HY5 HG5 ⊢; clear hz)
            | ((with_reducible show wpList _ _ _ (⟨_, Op.store _ (.tmp 5) _, _, _, _, _⟩ :: _) _ _); go_must (refine wl_store_rf (S := S4) (h := Z.1.head) (a := Z.1.at_) HO5.out.at_ HY5.out (len36 rfl) rfl _ _ rfl rfl rfl ?_); intro w6 hz hg; have HZ6 := Lib.hid hz; have HO6 := Lib.hid (in_grown HO5.out HY5.out hg); have HR6 := Lib.hid (HR5.out.grown hg (fun e => by cases e; exact Nat.lt_irrefl _ HG5.out)); have HB6 := Lib.hid (HB5.out.grown hg HB5.out.size (fun k hk => by cases hk; exact Nat.le_of_lt HG5.out)); clear hz hg; have c35 := rf_log HAT.out HR6.out)
            | (go_at_call 12; go_must (refine (HAW.out _ HB6.out).mono ?_); rintro e we ⟨rfl, hbe⟩))
          go_ret
          exact ⟨rfl, HB6.out.trans (hbe.mono HB6.out.size)⟩
        · have hnlI : (S.nl : Int) ≤ 80 := by omega
          obtain ⟨hr1, hr2, hr3⟩ := res_ok HZE.out HFE.out
          have HLST := Lib.hid (fun x => lost_at (n := noteB) (L := L) (r := r) (by have h2 := HLL.out; have h3 := HLN.out; omega) (by rw [hr2]; exact HFE.out) x)
          rw [hr2] at HLST
          have HRZ := Lib.hid hr3
          clear hr1 hr2 hr3
          go_enter Tryd.func4, Tryd.ntmps4
          go_wp2_with (first
            | ((with_reducible show wpList _ _ _ (⟨some 11, _, _, _, _, _⟩ :: _) _ _); go_must (refine wl_ex rfl (exec_loadRr _ rfl _ S r.head r.at_ HAT.out rfl HR0.out) ?_))
            | (go_at_call 5; go_must (refine (HLT.out _ HB0.out).mono ?_); rintro e w2 ⟨rfl, hb⟩; have HB2 := Lib.hid (HB0.out.trans (hb.mono HB0.out.size)); have HR2 := Lib.hid (HR0.out.below hb); clear hb)
            | ((with_reducible show wpList _ _ _ (⟨some 20, _, _, _, _, _⟩ :: _) _ _); go_must (refine wl_ex rfl (exec_loadRr _ rfl _ S r.head r.at_ HAT.out rfl HR2.out) ?_))
            | (go_at_call 7; (with_reducible refine (told_any S r w2 (HIN.out.below HB2.out) HFW.out).mono ?_); rintro e w3 ⟨S3, rfl, ho, hb⟩; have HT3 := Lib.hid (ho.mono HB2.out.size); have HB3 := Lib.hid (HB2.out.trans (hb.mono HB2.out.size)); have HR3 := Lib.hid (HR2.out.below hb); clear ho hb)
            | (go_at_call 13; go_must (refine (apply_res S3 r a n c L _ HT3.out.inn HLV.out.len (HLA.out.below HB3.out) HN4.out (HTB.out _ HB3.out) Z HZE.out).mono ?_); rintro e w4 ⟨S4, rfl, ho, hb⟩; rw [HFE.out]; have HO4 := Lib.hid (ho.mono HB3.out.size); have HB4 := Lib.hid (HB3.out.trans (hb.mono HB3.out.size)); have HR4 := Lib.hid (HR3.out.below hb); clear ho hb)
            | ((with_reducible show wpList _ _ _ (⟨some 5, _, _, _, _, _⟩ :: _) _ _); go_must (refine alloc_rf rfl rfl ?_); intro w5 hz hb; have HY5 := Lib.hid hz; have HG5 := Lib.hid (show w.heap.size < w4.heap.size from HR4.out.lt); have HO5 := Lib.hid (HO4.out.below hb); have HB5 := Lib.hid (HB4.out.trans (hb.mono HB4.out.size)); have HR5 := Lib.hid (HR4.out.below hb); clear hb; generalize w4.heap.size = g5 at hz HY5 HG5 ⊢; clear hz)
            | ((with_reducible show wpList _ _ _ (⟨_, Op.store _ (.tmp 5) _, _, _, _, _⟩ :: _) _ _); go_must (refine wl_store_rf (S := S4) (h := Z.1.head) (a := Z.1.at_) HO5.out.at_ HY5.out (len36 rfl) rfl _ _ rfl rfl rfl ?_); intro w6 hz hg; have HZ6 := Lib.hid hz; have HO6 := Lib.hid (in_grown HO5.out HY5.out hg); have HR6 := Lib.hid (HR5.out.grown hg (fun e => by cases e; exact Nat.lt_irrefl _ HG5.out)); have HB6 := Lib.hid (HB5.out.grown hg HB5.out.size (fun k hk => by cases hk; exact Nat.le_of_lt HG5.out)); clear hz hg; have c35 := rf_log HAT.out HR6.out))
          clear c35
          have HF4 : Hid (RfFew S4) := Lib.hid (HO6.out.few HRZ.out)
          have HBd : Hid (Below w.heap.size w w6.drew) := Lib.hid HB6.out.drew
          have HRd : Hid (RowAt w6.drew w.heap.size RREf (rfL S r.head r.at_)) := Lib.hid HR6.out
          have HZd : Hid (RowAt w6.drew g5 REf (rfL S4 Z.1.head Z.1.at_)) := Lib.hid HZ6.out
          have HOd : Hid (RfOwn w6.drew w.heap.size S4 Z.1) := Lib.hid (HO6.out.below (Below.refl _ _).drew)
          refine wp_region_held_drew (S := fun W => RowAt W w.heap.size RREf (rfL S r.head r.at_) ∧ RowAt W g5 REf (rfL S4 Z.1.head Z.1.at_)) (by kernel_rfl) ⟨HRd.out, HZd.out⟩ (fun hHeld => ?_)
          refine wpAnyH_take (i := 0) (oi := ⟨some 38, .load 27 (.tmp 2), _, _, _, _⟩) (v := (.agg (rfC S r.head r.at_))) rfl (by kernel_rfl) (by kernel_rfl) (by kernel_rfl) (fun _ _ _ h => h) (Or.inl ⟨by rfl, fun W hW => exec_loadRr _ rfl _ S r.head r.at_ HAT.out rfl hW.1⟩) (by assumption) ?_
          simp only [Act.put, List.setIfInBounds_toArray, List.set_cons_zero, List.set_cons_succ]
          refine wpAnyH_take (i := 3) (oi := ⟨some 41, .load 34 (.tmp 5), _, _, _, _⟩) (v := (.agg (rfC S4 Z.1.head Z.1.at_))) rfl (by kernel_rfl) (by kernel_rfl) (by kernel_rfl) (fun _ _ _ h => h) (Or.inl ⟨by rfl, fun W hW => exec_loadRf _ rfl _ S4 Z.1.head Z.1.at_ HOd.out.at_ rfl hW.2⟩) (by assumption) ?_
          simp only [Act.put, List.setIfInBounds_toArray, List.set_cons_zero, List.set_cons_succ]
          refine wpAnyH_ready (rs := [1]) (by kernel_rfl) (by simp) ?_
          refine AllReadyH.cons (o := ⟨some 39, .call { callee := .value (.func 7), args := #[(.tmp 38)], argTypes := #[27] }, _, _, _, _⟩) rfl (fun K hK => ?_) AllReadyH.nil
          go_simp
          refine (told_any S r _ (HIN.out.below HBd.out) HFW.out).mono ?_
          rintro e we ⟨S7, rfl, ho, hb⟩
          have HTe := Lib.hid ho
          have HBe := Lib.hid (HBd.out.trans (hb.mono HBd.out.size))
          have HRe := Lib.hid (HRd.out.below hb)
          have HZe := Lib.hid (HZd.out.below hb)
          have HOe := Lib.hid (HOd.out.below hb)
          clear ho
          clear hb
          refine hK.out _ _ ⟨HRe.out, HZe.out⟩ (fun hHeld => ?_)
          clear hK K
          have HF7 : Hid (RfFew S7) := Lib.hid (HLV.out.few HTe.out.inn)
          refine wpAnyH_ready (rs := [2]) (by kernel_rfl) (by simp) ?_
          refine AllReadyH.cons (o := ⟨some 40, .call { callee := .value (.func 10), args := #[(.tmp 39)], argTypes := #[34] }, _, _, _, _⟩) rfl (fun K hK => ?_) AllReadyH.nil
          go_simp
          refine (roots_any S7 r _ HTe.out.inn HF7.out).mono ?_
          rintro e wf ⟨a7, n7, c7, rfl, h7, hq7, hb⟩
          have H7f := Lib.hid h7
          have HQ7 := Lib.hid hq7
          have HBf := Lib.hid (HBe.out.trans (hb.mono HBe.out.size))
          have HRf := Lib.hid (HRe.out.below hb)
          have HZf := Lib.hid (HZe.out.below hb)
          have HOf := Lib.hid (HOe.out.below hb)
          clear h7 hq7
          clear hb
          refine hK.out _ _ ⟨HRf.out, HZf.out⟩ (fun hHeld => ?_)
          clear hK K
          refine wpAnyH_ready (rs := [4]) (by kernel_rfl) (by simp) ?_
          refine AllReadyH.cons (o := ⟨some 42, .call { callee := .value (.func 10), args := #[(.tmp 41)], argTypes := #[34] }, _, _, _, _⟩) rfl (fun K hK => ?_) AllReadyH.nil
          go_simp
          refine (roots_any S4 Z.1 _ HOf.out.inn HF4.out).mono ?_
          rintro e wg ⟨a8, n8, c8, rfl, h8, hq8, hb⟩
          have H8g := Lib.hid h8
          have HQ8 := Lib.hid hq8
          have H7g := Lib.hid (H7f.out.below hb)
          have HBg := Lib.hid (HBf.out.trans (hb.mono HBf.out.size))
          have HRg := Lib.hid (HRf.out.below hb)
          have HZg := Lib.hid (HZf.out.below hb)
          have HOg := Lib.hid (HOf.out.below hb)
          clear h8 hq8
          clear hb
          refine hK.out _ _ ⟨HRg.out, HZg.out⟩ (fun hHeld => ?_)
          clear hK K
          refine wpAnyH_take (i := 5) (oi := ⟨some 7, .assign (.tmp 40), _, _, _, _⟩) (v := (.slice a7 n7 c7)) rfl (by kernel_rfl) (by kernel_rfl) (by kernel_rfl) (fun _ _ _ h => h) (Or.inl ⟨by rfl, fun W hW => by go_simp⟩) (by assumption) ?_
          simp only [Act.put, List.setIfInBounds_toArray, List.set_cons_zero, List.set_cons_succ]
          refine wpAnyH_take (i := 6) (oi := ⟨some 8, .assign (.tmp 42), _, _, _, _⟩) (v := (.slice a8 n8 c8)) rfl (by kernel_rfl) (by kernel_rfl) (by kernel_rfl) (fun _ _ _ h => h) (Or.inl ⟨by rfl, fun W hW => by go_simp⟩) (by assumption) ?_
          simp only [Act.put, List.setIfInBounds_toArray, List.set_cons_zero, List.set_cons_succ]
          refine wpAnyH_done (by kernel_rfl) ?_ _
          obtain ⟨LS, hLS⟩ : ∃ LS, LS = setF (inF (rootsF Z.1) false (rootsF r)) := ⟨_, rfl⟩
          obtain ⟨QL, hQL⟩ : ∃ QL, QL = LS.length := ⟨_, rfl⟩
          have HQL := Lib.hid hQL
          have HLE := Lib.hid hLS
          have HLM : Hid (∀ x, x ∈ LS → x = r.at_) := Lib.hid (by rw [hLS]; exact HLST.out)
          clear hQL hLS
          go_wp2_with (go_at_call 14; go_must (refine (minus_any a7 n7 c7 (rootsF r) a8 n8 c8 (rootsF Z.1) LS QL wg H7g.out H8g.out (by have := HQ7.out; omega) (by have := HQ8.out; omega) HLE.out HQL.out).mono ?_); rintro e w9 ⟨a9, c9, rfl, h9, hb⟩; have H9 := Lib.hid h9; have HB9 := Lib.hid (HBg.out.trans (hb.mono HBg.out.size)); have HR9 := Lib.hid (HRg.out.below hb); clear h9 hb)
          have hQI : (QL : Int) ≤ 9223372036854775807 := by have h1 := H9.out.2.1; have h2 := H9.out.2.2.1; omega
          go_loopg [10] QL (fun g v10 W => ∃ i : Nat, v10 = .int .i64 i ∧ g + i = QL ∧ Hid (Below w9.heap.size w9 W))
          case atStart => exact ⟨0, rfl, rfl, Lib.hid (Below.refl _ _)⟩
          case round =>
            obtain ⟨i, rfl, hg, HD⟩ := hrel
            have HG := Lib.hid hg
            have hi0 : (0 : Int) ≤ (i : Int) := by omega
            have hiI : (i : Int) ≤ (QL : Int) := by omega
            by_cases hi : (i : Int) < (QL : Int)
            · have hin : i < QL := by omega
              have HI := Lib.hid hin
              obtain ⟨b, o, rfl⟩ := H9.out.some_ (by omega)
              obtain ⟨x, hx⟩ : ∃ x, x = LS.getD i [] := ⟨_, rfl⟩
              have hxm : x ∈ LS := by rw [hx]; exact mem_of_getD (by rw [← HQL.out]; exact hin) rfl
              have HXA : Hid (x = r.at_) := Lib.hid (HLM.out x hxm)
              have HXC : Hid (∀ W, Below w9.heap.size w9 W → W.rangeAt b (o + i * 32) (x.map B)) := Lib.hid (fun W hW => by rw [hx]; exact (H9.out.below hW).at_ i hin)
              have HXL : Hid (x.length = 32) := Lib.hid (by rw [HXA.out]; exact HAT.out)
              have HAC : Hid (∀ W, Below w9.heap.size w9 W → W.rangeAt w.heap.size 3 (r.at_.map B)) := Lib.hid (fun W hW => rf_at (HR9.out.below hW))
              clear hg hx hxm
              go_wp2
              have HDd : Hid (Below w9.heap.size w9 wr.drew) := Lib.hid HD.out.drew
              refine wp_region_held_drew (S := fun W => Below w9.heap.size w9 W) (by kernel_rfl) HDd.out (fun hHeld => ?_)
              refine wpAnyH_take (i := 0) (oi := ⟨some 52, .move (.tmp 9), _, _, _, _⟩) (v := (.slice (some ⟨b, o, none⟩) QL c9)) rfl (by kernel_rfl) (by kernel_rfl) (by kernel_rfl) (fun _ _ _ h => h) (Or.inl ⟨by rfl, fun W hW => by go_simp⟩) (by assumption) ?_
              simp only [Act.put, List.setIfInBounds_toArray, List.set_cons_zero, List.set_cons_succ]
              refine wpAnyH_take (i := 1) (oi := ⟨some 53, .move (.tmp 10), _, _, _, _⟩) (v := (.int .i64 (i : Nat))) rfl (by kernel_rfl) (by kernel_rfl) (by kernel_rfl) (fun _ _ _ h => h) (Or.inl ⟨by rfl, fun W hW => by go_simp⟩) (by assumption) ?_
              simp only [Act.put, List.setIfInBounds_toArray, List.set_cons_zero, List.set_cons_succ]
              refine wpAnyH_take (i := 2) (oi := ⟨some 54, .indexAddr 39 (.tmp 52) (.tmp 53), _, _, _, _⟩) (v := (.pointer (some ⟨b, o + i * 32, none⟩))) rfl (by kernel_rfl) (by kernel_rfl) (by kernel_rfl) (fun _ _ _ h => h) (Or.inl ⟨by rfl, fun W hW => by go_simp⟩) (by assumption) ?_
              simp only [Act.put, List.setIfInBounds_toArray, List.set_cons_zero, List.set_cons_succ]
              refine wpAnyH_take (i := 3) (oi := ⟨some 55, .load 24 (.tmp 54), _, _, _, _⟩) (v := (.agg (idCells x))) rfl (by kernel_rfl) (by kernel_rfl) (by kernel_rfl) (fun _ _ _ h => h) (Or.inl ⟨by rfl, fun W hW => exec_loadId _ rfl _ _ x HXL.out rfl (HXC.out W hW)⟩) (by assumption) ?_
              simp only [Act.put, List.setIfInBounds_toArray, List.set_cons_zero, List.set_cons_succ]
              refine wpAnyH_take (i := 4) (oi := ⟨some 56, .fieldAddr 27 (.tmp 2) 3, _, _, _, _⟩) (v := (.pointer (some ⟨w.heap.size, 3, none⟩))) rfl (by kernel_rfl) (by kernel_rfl) (by kernel_rfl) (fun _ _ _ h => h) (Or.inl ⟨by rfl, fun W hW => by go_simp⟩) (by assumption) ?_
              simp only [Act.put, List.setIfInBounds_toArray, List.set_cons_zero, List.set_cons_succ]
              refine wpAnyH_take (i := 5) (oi := ⟨some 57, .load 24 (.tmp 56), _, _, _, _⟩) (v := (.agg (idCells r.at_))) rfl (by kernel_rfl) (by kernel_rfl) (by kernel_rfl) (fun _ _ _ h => h) (Or.inl ⟨by rfl, fun W hW => exec_loadId _ rfl _ _ r.at_ HAT.out rfl (HAC.out W hW)⟩) (by assumption) ?_
              simp only [Act.put, List.setIfInBounds_toArray, List.set_cons_zero, List.set_cons_succ]
              refine wpAnyH_take (i := 6) (oi := ⟨some 58, .binOp .neq 24 (.tmp 55) (.tmp 57) 24, _, _, _, _⟩) (v := (.bool (!decide (x = r.at_)))) rfl (by kernel_rfl) (by kernel_rfl) (by kernel_rfl) (fun _ _ _ h => h) (Or.inl ⟨by rfl, fun W hW => exec_neqId _ _ _ rfl x r.at_ HXL.out HAT.out rfl rfl⟩) (by assumption) ?_
              simp only [Act.put, List.setIfInBounds_toArray, List.set_cons_zero, List.set_cons_succ]
              refine wpAnyH_done (by kernel_rfl) ?_ _
              rw [show (!decide (x = r.at_)) = false by rw [decide_eq_true HXA.out]; rfl]
              go_wp2_with fail
              go_roundg (QL - (i + 1))
              case measure => have := HG.out; have := HI.out; omega
              case rel => exact ⟨i + 1, by go_num, by have := HI.out; omega, HDd⟩
            · have HBz : Hid (Below w.heap.size w wr) := Lib.hid (HB9.out.trans (HD.out.mono HB9.out.size))
              clear hg
              go_wp2_with (go_at_call 12; go_must (refine (HAW.out _ HBz.out).mono ?_); rintro e we ⟨rfl, hbe⟩)
              go_ret
              exact ⟨rfl, HBz.out.trans (hbe.mono HBz.out.size)⟩
#print axioms refsKept_any
end Go.Proofs.YtkhcoefcifaaeaaDoor
