/-
  The reference's Append walked.
-/
import Derived.Test.YtemphljkfpkgmaaRefPut
import Derived.Deep.RegionHeld
namespace Go.Proofs.Ytemphljkfpkgmaa
open Go.RowKit

theorem RefOwn.below {w w' : World} {base : Nat} {V : RVal} {S : DS} (h : RefOwn w base V S) (hb : Below w.heap.size w w') : RefOwn w' base V S := by
  obtain ⟨R, h1, h2⟩ := h
  exact ⟨R, h1.below hb, h2⟩
theorem Holds.putAt {w w' : World} {base : Nat} {L : List Hold} {h h' : Hold} (A : List Hold) (H : Holds w base (A ++ h :: L)) (hg : w.grownBy w' h.v.ownBlock) (ho : h'.At w' base) (ht : Told w h.v h'.v) : Holds w' base (A ++ h' :: L) := ((H.perm List.perm_middle).put hg ho ht).perm List.perm_middle.symm
theorem Holds.addNil {w : World} {base : Nat} {L : List Hold} (H : Holds w base L) : Holds w base (hB ⟨none, 0, 0, []⟩ :: L) := ⟨fun x hx => by
  rcases List.mem_cons.1 hx with rfl | hx
  · exact Own.nil w base
  · exact H.own x hx, List.pairwise_cons.2 ⟨fun x _ k hk => (by cases hk), H.two⟩⟩
theorem permN {w : World} {base : Nat} {a b c d e f : Hold} {L : List Hold} (h : Holds w base (a :: b :: c :: d :: e :: f :: L)) : Holds w base (c :: d :: b :: e :: f :: (L ++ [a])) := by
  refine h.perm ?_
  have h1 : (a :: b :: c :: d :: e :: f :: L).Perm (b :: c :: d :: e :: f :: (L ++ [a])) := (List.perm_append_comm (l₁ := [a]) (l₂ := b :: c :: d :: e :: f :: L))
  exact h1.trans (List.perm_middle (l₁ := [c, d]) (a := b) (l₂ := e :: f :: (L ++ [a]))).symm
/-- A disk with a new file, of no bytes yet. -/
def freshS (S : DS) (s : Nm) : DS := { S with files := S.files ++ [([], 0)], now := turnD S.now (newAct S s), acts := S.acts ++ [newAct S s] }
theorem putS_none {S : DS} {s : Nm} {b : List UInt8} (hk : look S.now s = none) : putS S s b = { freshS S s with files := (freshS S s).files.modify S.files.length fun x => (x.1 ++ b, x.2) } := by
  unfold putS
  rw [hk]
  have : (S.files ++ [(([] : List UInt8), 0)]).modify S.files.length (fun x => (x.1 ++ b, x.2)) = S.files ++ [(b, 0)] := by
    refine List.ext_getElem (by simp) fun i h1 h2 => ?_
    rw [List.getElem_modify]
    by_cases hi : S.files.length = i
    · subst hi
      simp
    · rw [if_neg hi]
      have h3 : i < S.files.length := by simp at h2; omega
      rw [List.getElem_append_left h3, List.getElem_append_left h3]
  unfold freshS
  simp only [this]
theorem putS_some {S : DS} {s : Nm} {b : List UInt8} {k : Nat} (hk : look S.now s = some k) : putS (armS S) s b = { armS S with files := S.files.modify k fun x => (x.1 ++ b, x.2) } := by
  unfold putS
  have : look (armS S).now s = some k := hk
  rw [this]
  rfl
theorem appS_bad {S : DS} {s : Nm} {b : List UInt8} {z : Nat} (h : readyS S s s = z) (hz : z ≠ 0) : appendS S s b = (S, z) := by unfold appendS; rw [h, if_pos hz]
theorem appS_full {S : DS} {s : Nm} {b : List UInt8} (h : readyS S s s = 0) (hq : S.quota < usedS S + b.length) : appendS S s b = ({ S with refused := S.refused + 1 }, 8) := by unfold appendS; rw [h, if_neg (by simp), if_pos hq]
theorem appS_arm {S : DS} {s : Nm} {b : List UInt8} (h : readyS S s s = 0) (hq : ¬ S.quota < usedS S + b.length) (ha : armF S = true) : appendS S s b = (armS S, 9) := by unfold appendS; rw [h, if_neg (by simp), if_neg hq, if_pos ha]
theorem appS_ok {S : DS} {s : Nm} {b : List UInt8} (h : readyS S s s = 0) (hq : ¬ S.quota < usedS S + b.length) (ha : armF S = false) : appendS S s b = (putS (armS S) s b, 0) := by unfold appendS; rw [h, if_neg (by simp), if_neg hq, ha]; rfl

set_option maxRecDepth 100000 in
set_option maxHeartbeats 4000000 in
theorem refAppend_any (V : RVal) (S : DS) (s : Nm) (a : Option Addr) (n c : Nat) (b : List UInt8) (w : World) (h : RefIn w V S) (hbs : Bytes w a n c b) (hbl : n ≤ 2000000000) (hm : V.made = true) (hqq : V.q = (S.quota : Int)) (hok : Inv S) (hfew : Few S 1000) (har : S.arm ≤ 9223372036854775807) :
    Calls Try.prog 17 #[.agg (refC V S), .string (strB s), .slice a n c] w (RefEnd w V S (appendS S s b)) := by
  obtain ⟨z, hz⟩ : ∃ z, readyS S s s = z := ⟨_, rfl⟩
  have HI := Lib.hid h
  have HIV := Lib.hid hok
  have HFW := Lib.hid hfew
  have HFC := Lib.hid (hfew.mono (show 1000 ≤ 100000 by omega))
  have P1 := Lib.hid (fun W => refReady_any V S s s W hm hz)
  have HZI := Lib.hid (show (0 : Int) ≤ (z : Int) by omega)
  have HAR := Lib.hid har
  have HBS := Lib.hid hbs
  have HBN := Lib.hid hbs.1
  have HBM := Lib.hid hbl
  have HQ := Lib.hid hqq
  by_cases h0 : z = 0
  · subst h0
    have HDN := Lib.hid (ready_may hz).1
    have huse := used_le hok hfew
    have hmost := hok.most
    have HWR := Lib.hid (show IntKind.i64.wrap ((S.quota : Int) - (usedS S : Nat)) = (S.quota : Int) - (usedS S : Nat) from IntWalk.i64_in _ (by omega))
    have HWR2 := Lib.hid (show wrap64 ((S.quota : Int) - (usedS S : Nat)) = (S.quota : Int) - (usedS S : Nat) from IntWalk.wrap64_in _ (by omega))
    obtain ⟨qd, hqd⟩ : ∃ qd, decide ((S.quota : Int) - (usedS S : Nat) < (n : Int)) = qd := ⟨_, rfl⟩
    have HQD := Lib.hid hqd
    clear huse hmost hbs hbl hqq
    cases hqv : qd with
    | true =>
      have HE := Lib.hid (appS_full (b := b) hz (by rw [hqv] at hqd; have := of_decide_eq_true hqd; have := HBN.out; omega))
      have HRF := Lib.hid hfew.refused
      have hrf : (S.refused : Int) ≤ 1000 := by have := hfew.refused; omega
      have hrf0 : (0 : Int) ≤ (S.refused : Int) := by omega
      clear h hm hok hfew hz har hqd
      go_enter Try.func17, Try.ntmps17
      go_wp2_with (first
        | (refine box_row rfl 31 (.tmp 0) (refL V S) rfl rfl ?_; intro w1 hr1 hb1 hs1; have HB1 := Lib.hid hb1; have HR1 := Lib.hid hr1; have HS1 := Lib.hid hs1; clear hb1 hr1 hs1)
        | (refine alloc_row rfl 31 zeroD rfl zero_disk ?_; intro w2 hr2 hb2 hs2; have HB2 := Lib.hid (HB1.out.trans (hb2.mono HB1.out.size)); have HR2 := Lib.hid (RBox.below HR1.out hb2); have HZ2 := Lib.hid hr2; have HNE := Lib.hid (show w1.heap.size ≠ w.heap.size by have := HS1.out; omega); have HW1 := Lib.hid HB1.out.size; clear hr2 hb2 hs2)
        | (refine load_row rfl 31 _ rfl w.heap.size _ (refL V S) _ rfl HR3.out Try.underlying31 rfl infoD ?_)
        | (refine load_row rfl 31 _ rfl w.heap.size _ (refL V S) _ rfl HR2.out Try.underlying31 rfl infoD ?_)
        | (go_at_call 34; (with_reducible refine (P1.out _).mono ?_); rintro e w3 ⟨rfl, hb3⟩; have HB3 := Lib.hid (HB2.out.trans (hb3.mono HB2.out.size)); have HR3 := Lib.hid (RBox.below HR2.out hb3); have HZ3 := Lib.hid (RowAt.below HZ2.out hb3); have HI3 := Lib.hid (HI.out.below HB3.out); clear hb3)
        | (go_at_call 35; (with_reducible refine (refCopy_any V S _ HI3.out HIV.out HFC.out).mono ?_); rintro e w4 ⟨V5, rfl, hm5, hq5, ho5, hb5⟩; have HB4 := Lib.hid (HB3.out.trans (hb5.mono HB3.out.size)); have HR4 := Lib.hid (RBox.below HR3.out hb5); have HZ4 := Lib.hid (RowAt.below HZ3.out hb5); have HO4 := Lib.hid ho5; have HM5 := Lib.hid hm5; have HQ5 := Lib.hid hq5; have HS4 := Lib.hid hb5.size; have HL3 := Lib.hid (show w.heap.size < w3.heap.size ∧ w1.heap.size < w3.heap.size from ⟨HR3.out.lt, HZ3.out.lt⟩); clear ho5 hb5 hm5 hq5)
        | (refine store_row rfl 31 _ _ rfl w.heap.size _ (refL V S) (refL V5 S) rfl rfl HR4.out rfl infoD (refL_one _ _) ?_; intro w5 hr5 hg5 hs5; have HB5 := Lib.hid (HB4.out.grown hg5 HB4.out.size (fun k hk => by cases hk; exact Nat.le_refl _)); have HR5 := Lib.hid (show RBox w5 w.heap.size V5 S from hr5); have HZ5 := Lib.hid (RowAt.grown HZ4.out hg5 (fun e => HNE.out (Option.some.inj e))); have HO5 := Lib.hid (show RefOwn w5 w3.heap.size V5 S from (by obtain ⟨R, h1, h2⟩ := HO4.out; exact ⟨R, h1.grownLow HL3.out.1 hg5, h2⟩)); have HS5 := Lib.hid (show w3.heap.size ≤ w5.heap.size by rw [hs5]; exact HS4.out); clear hr5 hg5 hs5))
      have HQQ := Lib.hid (HQ5.out.trans HQ.out)
      refine wp_region_held_drew (S := fun W => RBox W w.heap.size V5 S ∧ RowAt W w1.heap.size 31 zeroD ∧ RefOwn W w3.heap.size V5 S ∧ Below w.heap.size w W ∧ w3.heap.size ≤ W.heap.size) (by kernel_rfl) ⟨HR5.out, HZ5.out, HO5.out.below (Below.refl _ _).drew, HB5.out.drew, HS5.out⟩ (fun hHeld => ?_)
      refine wpAnyH_take (i := 0) (oi := ⟨some 22, .move (.tmp 2), _, _, _, _⟩) (v := (.slice a n c)) rfl (by kernel_rfl) (by kernel_rfl) (by kernel_rfl) (fun _ _ _ h => h) (Or.inl ⟨by rfl, fun W hW => by go_simp⟩) (by assumption) ?_
      simp only [Act.put, List.setIfInBounds_toArray, List.set_cons_zero, List.set_cons_succ]
      refine wpAnyH_take (i := 1) (oi := ⟨some 23, .call { callee := .builtin .len, args := #[(.tmp 22)], argTypes := #[35] }, _, _, _, _⟩) (v := (.int .i64 (n : Nat))) rfl (by kernel_rfl) (by kernel_rfl) (by kernel_rfl) (fun _ _ _ h => h) (Or.inl ⟨by rfl, fun W hW => by have h1 := HWR.out; have h2 := HWR2.out; have h3 := HQD.out; go_simp⟩) (by assumption) ?_
      simp only [Act.put, List.setIfInBounds_toArray, List.set_cons_zero, List.set_cons_succ]
      refine wpAnyH_take (i := 2) (oi := ⟨some 24, .fieldAddr 31 (.tmp 3) 1, _, _, _, _⟩) (v := (.pointer (some ⟨w.heap.size, 0 + 1, none⟩))) rfl (by kernel_rfl) (by kernel_rfl) (by kernel_rfl) (fun _ _ _ h => h) (Or.inl ⟨by rfl, fun W hW => by go_simp⟩) (by assumption) ?_
      simp only [Act.put, List.setIfInBounds_toArray, List.set_cons_zero, List.set_cons_succ]
      refine wpAnyH_take (i := 3) (oi := ⟨some 25, .load 3 (.tmp 24), _, _, _, _⟩) (v := (.int .i64 (S.quota : Int))) rfl (by kernel_rfl) (by kernel_rfl) (by kernel_rfl) (fun _ _ _ h => h) (Or.inl ⟨by rfl, fun W hW => by have hcell := (show W.cell? ⟨w.heap.size, 1, none⟩ = some (.int .i64 (S.quota : Int)) by rw [← HQQ.out]; exact (RBox.cells hW.1).2.1); go_simp⟩) (by assumption) ?_
      simp only [Act.put, List.setIfInBounds_toArray, List.set_cons_zero, List.set_cons_succ]
      refine wpAnyH_take (i := 4) (oi := ⟨some 26, .load 31 (.tmp 3), _, _, _, _⟩) (v := (.agg (refC V5 S))) rfl (by kernel_rfl) (by kernel_rfl) (by kernel_rfl) (fun _ _ _ h => h) (Or.inl ⟨by rfl, fun W hW => exec_loadD _ rfl _ V5 S rfl hW.1⟩) (by assumption) ?_
      simp only [Act.put, List.setIfInBounds_toArray, List.set_cons_zero, List.set_cons_succ]
      refine wpAnyH_ready (rs := [5]) (by kernel_rfl) (by simp) ?_
      refine AllReadyH.cons (o := ⟨some 27, .call { callee := .value (.func 8), args := #[(.tmp 26)], argTypes := #[31] }, _, _, _, _⟩) rfl (fun K hK => ?_) AllReadyH.nil
      go_simp
      go_wp2_with (go_at_call 8; (refine (refUsed_any V5 S w5.drew (HO5.out.below (Below.refl _ _).drew).inn HIV.out HFW.out).mono ?_); rintro e w6 ⟨rfl, hb6⟩; have hb7 : Below w5.heap.size w5 w6 := (Below.refl w5.heap.size w5).drew.trans hb6; have H6 := Lib.hid (show RBox w6 w.heap.size V5 S ∧ RowAt w6 w1.heap.size 31 zeroD ∧ RefOwn w6 w3.heap.size V5 S ∧ Below w.heap.size w w6 ∧ w3.heap.size ≤ w6.heap.size from ⟨RBox.below HR5.out hb7, RowAt.below HZ5.out hb7, HO5.out.below hb7, HB5.out.trans (hb7.mono HB5.out.size), Nat.le_trans HS5.out hb7.size⟩); clear hb6 hb7)
      refine hK.out _ _ H6.out (fun hHeld => ?_)
      clear hK K
      refine wpAnyH_take (i := 6) (oi := ⟨some 28, .binOp .sub 3 (.tmp 25) (.tmp 27) 3, _, _, _, _⟩) (v := (.int .i64 ((S.quota : Int) - (usedS S : Nat)))) rfl (by kernel_rfl) (by kernel_rfl) (by kernel_rfl) (fun _ _ _ h => h) (Or.inl ⟨by rfl, fun W hW => by have h1 := HWR.out; have h2 := HWR2.out; have h3 := HQD.out; go_simp⟩) (by assumption) ?_
      simp only [Act.put, List.setIfInBounds_toArray, List.set_cons_zero, List.set_cons_succ]
      refine wpAnyH_take (i := 7) (oi := ⟨some 29, .binOp .gtr 3 (.tmp 23) (.tmp 28) 3, _, _, _, _⟩) (v := (.bool qd)) rfl (by kernel_rfl) (by kernel_rfl) (by kernel_rfl) (fun _ _ _ h => h) (Or.inl ⟨by rfl, fun W hW => by have h1 := HWR.out; have h2 := HWR2.out; have h3 := HQD.out; go_simp⟩) (by assumption) ?_
      simp only [Act.put, List.setIfInBounds_toArray, List.set_cons_zero, List.set_cons_succ]
      refine wpAnyH_done (by kernel_rfl) ?_ _
      subst hqv
      obtain ⟨wR, hwR⟩ : ∃ wR, w6.setCell ⟨w.heap.size, 7, none⟩ (.int .i64 ((S.refused : Int) + 1)) = wR := ⟨_, rfl⟩
      have q7 := (RBox.cells H6.out.1).2.2.2.2.2.2.2.1
      have f7 := H6.out.1.free 7
      have HRR := Lib.hid (show RBox wR w.heap.size V5 { S with refused := S.refused + 1 } by rw [← hwR]; exact RowAt.set H6.out.1 7 _)
      have HZR := Lib.hid (show RowAt wR w1.heap.size 31 zeroD by rw [← hwR]; exact H6.out.2.1.other (show w1.heap.size ≠ w.heap.size from HNE.out) _)
      have HBR := Lib.hid (show Below w.heap.size w wR by rw [← hwR]; exact H6.out.2.2.2.1.setCell (Nat.le_refl _) _)
      have HOR := Lib.hid (show RefOwn wR w3.heap.size V5 { S with refused := S.refused + 1 } by
        obtain ⟨R, h1, h2⟩ := H6.out.2.2.1
        rw [← hwR]
        exact ⟨R, h1.setLow HL3.out.1 7 _, h2⟩)
      go_wp2_with (first
        | (refine load_row rfl 31 _ rfl w.heap.size _ (refL V5 { S with refused := S.refused + 1 }) _ rfl HRR.out Try.underlying31 rfl infoD ?_)
        | (refine store_row rfl 31 _ _ rfl w1.heap.size _ zeroD (refL V5 { S with refused := S.refused + 1 }) rfl rfl HZR.out rfl infoD (refL_one _ _) ?_; intro w9 hr9 hg9 _))
      exact bodyPost_ret (results_ref2 rfl _ _ w1.heap.size V5 { S with refused := S.refused + 1 } rfl hr9) rfl ⟨V5, by rw [HE.out]; rfl, HM5.out, HQ5.out, by rw [HE.out]; exact .inl (own_far (base := w3.heap.size) (by obtain ⟨R, h1, h2⟩ := HOR.out; exact ⟨R, h1.grownLow HL3.out.2 hg9, h2⟩) (Nat.le_of_lt HL3.out.1)), HBR.out.grown hg9 HBR.out.size (fun k hk => by cases hk; exact HW1.out)⟩
    | false =>
      have HQN := Lib.hid (show ¬ S.quota < usedS S + b.length by rw [hqv] at hqd; have := of_decide_eq_false hqd; have := HBN.out; omega)
      cases ha : armF S with
      | true =>
        have HE := Lib.hid (appS_arm (b := b) hz HQN.out ha)
        have hA2 := ha
        clear h hm hok hfew hz har hqd ha
        go_enter Try.func17, Try.ntmps17
        go_wp2_with (first
          | (refine box_row rfl 31 (.tmp 0) (refL V S) rfl rfl ?_; intro w1 hr1 hb1 hs1; have HB1 := Lib.hid hb1; have HR1 := Lib.hid hr1; have HS1 := Lib.hid hs1; clear hb1 hr1 hs1)
          | (refine alloc_row rfl 31 zeroD rfl zero_disk ?_; intro w2 hr2 hb2 hs2; have HB2 := Lib.hid (HB1.out.trans (hb2.mono HB1.out.size)); have HR2 := Lib.hid (RBox.below HR1.out hb2); have HZ2 := Lib.hid hr2; have HNE := Lib.hid (show w1.heap.size ≠ w.heap.size by have := HS1.out; omega); have HW1 := Lib.hid HB1.out.size; clear hr2 hb2 hs2)
          | (refine load_row rfl 31 _ rfl w.heap.size _ (refL V S) _ rfl HR3.out Try.underlying31 rfl infoD ?_)
          | (refine load_row rfl 31 _ rfl w.heap.size _ (refL V S) _ rfl HR2.out Try.underlying31 rfl infoD ?_)
          | (go_at_call 34; (with_reducible refine (P1.out _).mono ?_); rintro e w3 ⟨rfl, hb3⟩; have HB3 := Lib.hid (HB2.out.trans (hb3.mono HB2.out.size)); have HR3 := Lib.hid (RBox.below HR2.out hb3); have HZ3 := Lib.hid (RowAt.below HZ2.out hb3); have HI3 := Lib.hid (HI.out.below HB3.out); clear hb3)
          | (go_at_call 35; (with_reducible refine (refCopy_any V S _ HI3.out HIV.out HFC.out).mono ?_); rintro e w4 ⟨V5, rfl, hm5, hq5, ho5, hb5⟩; have HB4 := Lib.hid (HB3.out.trans (hb5.mono HB3.out.size)); have HR4 := Lib.hid (RBox.below HR3.out hb5); have HZ4 := Lib.hid (RowAt.below HZ3.out hb5); have HO4 := Lib.hid ho5; have HM5 := Lib.hid hm5; have HQ5 := Lib.hid hq5; have HS4 := Lib.hid hb5.size; have HL3 := Lib.hid (show w.heap.size < w3.heap.size ∧ w1.heap.size < w3.heap.size from ⟨HR3.out.lt, HZ3.out.lt⟩); clear ho5 hb5 hm5 hq5)
          | (refine store_row rfl 31 _ _ rfl w.heap.size _ (refL V S) (refL V5 S) rfl rfl HR4.out rfl infoD (refL_one _ _) ?_; intro w5 hr5 hg5 hs5; have HB5 := Lib.hid (HB4.out.grown hg5 HB4.out.size (fun k hk => by cases hk; exact Nat.le_refl _)); have HR5 := Lib.hid (show RBox w5 w.heap.size V5 S from hr5); have HZ5 := Lib.hid (RowAt.grown HZ4.out hg5 (fun e => HNE.out (Option.some.inj e))); have HO5 := Lib.hid (show RefOwn w5 w3.heap.size V5 S from (by obtain ⟨R, h1, h2⟩ := HO4.out; exact ⟨R, h1.grownLow HL3.out.1 hg5, h2⟩)); have HS5 := Lib.hid (show w3.heap.size ≤ w5.heap.size by rw [hs5]; exact HS4.out); clear hr5 hg5 hs5))
        have HQQ := Lib.hid (HQ5.out.trans HQ.out)
        refine wp_region_held_drew (S := fun W => RBox W w.heap.size V5 S ∧ RowAt W w1.heap.size 31 zeroD ∧ RefOwn W w3.heap.size V5 S ∧ Below w.heap.size w W ∧ w3.heap.size ≤ W.heap.size) (by kernel_rfl) ⟨HR5.out, HZ5.out, HO5.out.below (Below.refl _ _).drew, HB5.out.drew, HS5.out⟩ (fun hHeld => ?_)
        refine wpAnyH_take (i := 0) (oi := ⟨some 22, .move (.tmp 2), _, _, _, _⟩) (v := (.slice a n c)) rfl (by kernel_rfl) (by kernel_rfl) (by kernel_rfl) (fun _ _ _ h => h) (Or.inl ⟨by rfl, fun W hW => by go_simp⟩) (by assumption) ?_
        simp only [Act.put, List.setIfInBounds_toArray, List.set_cons_zero, List.set_cons_succ]
        refine wpAnyH_take (i := 1) (oi := ⟨some 23, .call { callee := .builtin .len, args := #[(.tmp 22)], argTypes := #[35] }, _, _, _, _⟩) (v := (.int .i64 (n : Nat))) rfl (by kernel_rfl) (by kernel_rfl) (by kernel_rfl) (fun _ _ _ h => h) (Or.inl ⟨by rfl, fun W hW => by have h1 := HWR.out; have h2 := HWR2.out; have h3 := HQD.out; go_simp⟩) (by assumption) ?_
        simp only [Act.put, List.setIfInBounds_toArray, List.set_cons_zero, List.set_cons_succ]
        refine wpAnyH_take (i := 2) (oi := ⟨some 24, .fieldAddr 31 (.tmp 3) 1, _, _, _, _⟩) (v := (.pointer (some ⟨w.heap.size, 0 + 1, none⟩))) rfl (by kernel_rfl) (by kernel_rfl) (by kernel_rfl) (fun _ _ _ h => h) (Or.inl ⟨by rfl, fun W hW => by go_simp⟩) (by assumption) ?_
        simp only [Act.put, List.setIfInBounds_toArray, List.set_cons_zero, List.set_cons_succ]
        refine wpAnyH_take (i := 3) (oi := ⟨some 25, .load 3 (.tmp 24), _, _, _, _⟩) (v := (.int .i64 (S.quota : Int))) rfl (by kernel_rfl) (by kernel_rfl) (by kernel_rfl) (fun _ _ _ h => h) (Or.inl ⟨by rfl, fun W hW => by have hcell := (show W.cell? ⟨w.heap.size, 1, none⟩ = some (.int .i64 (S.quota : Int)) by rw [← HQQ.out]; exact (RBox.cells hW.1).2.1); go_simp⟩) (by assumption) ?_
        simp only [Act.put, List.setIfInBounds_toArray, List.set_cons_zero, List.set_cons_succ]
        refine wpAnyH_take (i := 4) (oi := ⟨some 26, .load 31 (.tmp 3), _, _, _, _⟩) (v := (.agg (refC V5 S))) rfl (by kernel_rfl) (by kernel_rfl) (by kernel_rfl) (fun _ _ _ h => h) (Or.inl ⟨by rfl, fun W hW => exec_loadD _ rfl _ V5 S rfl hW.1⟩) (by assumption) ?_
        simp only [Act.put, List.setIfInBounds_toArray, List.set_cons_zero, List.set_cons_succ]
        refine wpAnyH_ready (rs := [5]) (by kernel_rfl) (by simp) ?_
        refine AllReadyH.cons (o := ⟨some 27, .call { callee := .value (.func 8), args := #[(.tmp 26)], argTypes := #[31] }, _, _, _, _⟩) rfl (fun K hK => ?_) AllReadyH.nil
        go_simp
        go_wp2_with (go_at_call 8; (refine (refUsed_any V5 S w5.drew (HO5.out.below (Below.refl _ _).drew).inn HIV.out HFW.out).mono ?_); rintro e w6 ⟨rfl, hb6⟩; have hb7 : Below w5.heap.size w5 w6 := (Below.refl w5.heap.size w5).drew.trans hb6; have H6 := Lib.hid (show RBox w6 w.heap.size V5 S ∧ RowAt w6 w1.heap.size 31 zeroD ∧ RefOwn w6 w3.heap.size V5 S ∧ Below w.heap.size w w6 ∧ w3.heap.size ≤ w6.heap.size from ⟨RBox.below HR5.out hb7, RowAt.below HZ5.out hb7, HO5.out.below hb7, HB5.out.trans (hb7.mono HB5.out.size), Nat.le_trans HS5.out hb7.size⟩); clear hb6 hb7)
        refine hK.out _ _ H6.out (fun hHeld => ?_)
        clear hK K
        refine wpAnyH_take (i := 6) (oi := ⟨some 28, .binOp .sub 3 (.tmp 25) (.tmp 27) 3, _, _, _, _⟩) (v := (.int .i64 ((S.quota : Int) - (usedS S : Nat)))) rfl (by kernel_rfl) (by kernel_rfl) (by kernel_rfl) (fun _ _ _ h => h) (Or.inl ⟨by rfl, fun W hW => by have h1 := HWR.out; have h2 := HWR2.out; have h3 := HQD.out; go_simp⟩) (by assumption) ?_
        simp only [Act.put, List.setIfInBounds_toArray, List.set_cons_zero, List.set_cons_succ]
        refine wpAnyH_take (i := 7) (oi := ⟨some 29, .binOp .gtr 3 (.tmp 23) (.tmp 28) 3, _, _, _, _⟩) (v := (.bool qd)) rfl (by kernel_rfl) (by kernel_rfl) (by kernel_rfl) (fun _ _ _ h => h) (Or.inl ⟨by rfl, fun W hW => by have h1 := HWR.out; have h2 := HWR2.out; have h3 := HQD.out; go_simp⟩) (by assumption) ?_
        simp only [Act.put, List.setIfInBounds_toArray, List.set_cons_zero, List.set_cons_succ]
        refine wpAnyH_done (by kernel_rfl) ?_ _
        subst hqv
        go_wp2_with (first
          | (refine load_row rfl 31 _ rfl w.heap.size _ (refL V5 (armS S)) _ rfl HR8.out Try.underlying31 rfl infoD ?_)
          | (refine load_row rfl 31 _ rfl w.heap.size _ (refL V5 S) _ rfl H6.out.1 Try.underlying31 rfl infoD ?_)
          | (go_at_call 36; (with_reducible refine (refArmed_any V5 S w6 HDN.out HAR.out).mono ?_); rintro e w7 ⟨rfl, hb7⟩; rw [hA2]; have H7 := Lib.hid (show RBox w7 w.heap.size V5 S ∧ RowAt w7 w1.heap.size 31 zeroD ∧ RefOwn w7 w3.heap.size V5 (armS S) ∧ Below w.heap.size w w7 ∧ w3.heap.size ≤ w7.heap.size from ⟨RBox.below H6.out.1 hb7, RowAt.below H6.out.2.1 hb7, (by obtain ⟨R, h1, h2⟩ := H6.out.2.2.1; exact ⟨R, h1.below hb7, h2⟩), H6.out.2.2.2.1.trans (hb7.mono H6.out.2.2.2.1.size), Nat.le_trans H6.out.2.2.2.2 hb7.size⟩); clear hb7)
          | (refine store_row rfl 31 _ _ rfl w.heap.size _ (refL V5 S) (refL V5 (armS S)) rfl rfl H7.out.1 rfl infoD (refL_one _ _) ?_; intro w8 hr8 hg8 hs8; have HB8 := Lib.hid (H7.out.2.2.2.1.grown hg8 H7.out.2.2.2.1.size (fun k hk => by cases hk; exact Nat.le_refl _)); have HR8 := Lib.hid (show RBox w8 w.heap.size V5 (armS S) from hr8); have HZ8 := Lib.hid (RowAt.grown H7.out.2.1 hg8 (fun e => HNE.out (Option.some.inj e))); have HO8 := Lib.hid (show RefOwn w8 w3.heap.size V5 (armS S) from (by obtain ⟨R, h1, h2⟩ := H7.out.2.2.1; exact ⟨R, h1.grownLow HL3.out.1 hg8, h2⟩)); have HS8 := Lib.hid (show w3.heap.size ≤ w8.heap.size by rw [hs8]; exact H7.out.2.2.2.2); have k4 := (RBox.cells HR8.out).2.2.2.2.1; have HNOW := Lib.hid (show ∀ W, Below w8.heap.size w8 W → AtG entK W V5.an V5.nn V5.cn S.now from fun W hb => HO8.out.inn.now.below hb); clear hr8 hg8 hs8)
          | (refine store_row rfl 31 _ _ rfl w1.heap.size _ zeroD (refL V5 (armS S)) rfl rfl HZ8.out rfl infoD (refL_one _ _) ?_; intro w9 hr9 hg9 _; have HB9 := Lib.hid (HB8.out.grown hg9 HB8.out.size (fun k hk => by cases hk; exact HW1.out))))
        exact bodyPost_ret (results_ref2 rfl _ _ w1.heap.size V5 (armS S) rfl hr9) rfl ⟨V5, by rw [HE.out]; rfl, HM5.out, HQ5.out, by rw [HE.out]; exact .inl (own_far (base := w3.heap.size) (by obtain ⟨R, h1, h2⟩ := HO8.out; exact ⟨R, h1.grownLow HL3.out.2 hg9, h2⟩) (Nat.le_of_lt HL3.out.1)), HB9.out⟩
      | false =>
        have hA2 := ha
        have HKI := Lib.hid hok.nids
        cases hk : look S.now s with
        | some k =>
          have HE := Lib.hid (show appendS S s b = ({ armS S with files := S.files.modify k fun x => (x.1 ++ b, x.2) }, 0) by rw [appS_ok (b := b) hz HQN.out ha, putS_some hk])
          have e9 : lookZ S.now s = (k : Int) := by unfold lookZ; rw [hk]
          have HKL := Lib.hid (hok.nids _ (look_mem hk))
          have HLK := Lib.hid (Nat.le_trans (file_syn hok k).2 hok.most)
          have hk0 : (0 : Int) ≤ (k : Int) := by omega
          clear h hm hok hfew hz har hqd ha hk
          go_enter Try.func17, Try.ntmps17
          go_wp2_with (first
            | (refine box_row rfl 31 (.tmp 0) (refL V S) rfl rfl ?_; intro w1 hr1 hb1 hs1; have HB1 := Lib.hid hb1; have HR1 := Lib.hid hr1; have HS1 := Lib.hid hs1; clear hb1 hr1 hs1)
            | (refine alloc_row rfl 31 zeroD rfl zero_disk ?_; intro w2 hr2 hb2 hs2; have HB2 := Lib.hid (HB1.out.trans (hb2.mono HB1.out.size)); have HR2 := Lib.hid (RBox.below HR1.out hb2); have HZ2 := Lib.hid hr2; have HNE := Lib.hid (show w1.heap.size ≠ w.heap.size by have := HS1.out; omega); have HW1 := Lib.hid HB1.out.size; clear hr2 hb2 hs2)
            | (refine load_row rfl 31 _ rfl w.heap.size _ (refL V S) _ rfl HR3.out Try.underlying31 rfl infoD ?_)
            | (refine load_row rfl 31 _ rfl w.heap.size _ (refL V S) _ rfl HR2.out Try.underlying31 rfl infoD ?_)
            | (go_at_call 34; (with_reducible refine (P1.out _).mono ?_); rintro e w3 ⟨rfl, hb3⟩; have HB3 := Lib.hid (HB2.out.trans (hb3.mono HB2.out.size)); have HR3 := Lib.hid (RBox.below HR2.out hb3); have HZ3 := Lib.hid (RowAt.below HZ2.out hb3); have HI3 := Lib.hid (HI.out.below HB3.out); clear hb3)
            | (go_at_call 35; (with_reducible refine (refCopy_any V S _ HI3.out HIV.out HFC.out).mono ?_); rintro e w4 ⟨V5, rfl, hm5, hq5, ho5, hb5⟩; have HB4 := Lib.hid (HB3.out.trans (hb5.mono HB3.out.size)); have HR4 := Lib.hid (RBox.below HR3.out hb5); have HZ4 := Lib.hid (RowAt.below HZ3.out hb5); have HO4 := Lib.hid ho5; have HM5 := Lib.hid hm5; have HQ5 := Lib.hid hq5; have HS4 := Lib.hid hb5.size; have HL3 := Lib.hid (show w.heap.size < w3.heap.size ∧ w1.heap.size < w3.heap.size from ⟨HR3.out.lt, HZ3.out.lt⟩); clear ho5 hb5 hm5 hq5)
            | (refine store_row rfl 31 _ _ rfl w.heap.size _ (refL V S) (refL V5 S) rfl rfl HR4.out rfl infoD (refL_one _ _) ?_; intro w5 hr5 hg5 hs5; have HB5 := Lib.hid (HB4.out.grown hg5 HB4.out.size (fun k hk => by cases hk; exact Nat.le_refl _)); have HR5 := Lib.hid (show RBox w5 w.heap.size V5 S from hr5); have HZ5 := Lib.hid (RowAt.grown HZ4.out hg5 (fun e => HNE.out (Option.some.inj e))); have HO5 := Lib.hid (show RefOwn w5 w3.heap.size V5 S from (by obtain ⟨R, h1, h2⟩ := HO4.out; exact ⟨R, h1.grownLow HL3.out.1 hg5, h2⟩)); have HS5 := Lib.hid (show w3.heap.size ≤ w5.heap.size by rw [hs5]; exact HS4.out); clear hr5 hg5 hs5))
          have HQQ := Lib.hid (HQ5.out.trans HQ.out)
          refine wp_region_held_drew (S := fun W => RBox W w.heap.size V5 S ∧ RowAt W w1.heap.size 31 zeroD ∧ RefOwn W w3.heap.size V5 S ∧ Below w.heap.size w W ∧ w3.heap.size ≤ W.heap.size) (by kernel_rfl) ⟨HR5.out, HZ5.out, HO5.out.below (Below.refl _ _).drew, HB5.out.drew, HS5.out⟩ (fun hHeld => ?_)
          refine wpAnyH_take (i := 0) (oi := ⟨some 22, .move (.tmp 2), _, _, _, _⟩) (v := (.slice a n c)) rfl (by kernel_rfl) (by kernel_rfl) (by kernel_rfl) (fun _ _ _ h => h) (Or.inl ⟨by rfl, fun W hW => by go_simp⟩) (by assumption) ?_
          simp only [Act.put, List.setIfInBounds_toArray, List.set_cons_zero, List.set_cons_succ]
          refine wpAnyH_take (i := 1) (oi := ⟨some 23, .call { callee := .builtin .len, args := #[(.tmp 22)], argTypes := #[35] }, _, _, _, _⟩) (v := (.int .i64 (n : Nat))) rfl (by kernel_rfl) (by kernel_rfl) (by kernel_rfl) (fun _ _ _ h => h) (Or.inl ⟨by rfl, fun W hW => by have h1 := HWR.out; have h2 := HWR2.out; have h3 := HQD.out; go_simp⟩) (by assumption) ?_
          simp only [Act.put, List.setIfInBounds_toArray, List.set_cons_zero, List.set_cons_succ]
          refine wpAnyH_take (i := 2) (oi := ⟨some 24, .fieldAddr 31 (.tmp 3) 1, _, _, _, _⟩) (v := (.pointer (some ⟨w.heap.size, 0 + 1, none⟩))) rfl (by kernel_rfl) (by kernel_rfl) (by kernel_rfl) (fun _ _ _ h => h) (Or.inl ⟨by rfl, fun W hW => by go_simp⟩) (by assumption) ?_
          simp only [Act.put, List.setIfInBounds_toArray, List.set_cons_zero, List.set_cons_succ]
          refine wpAnyH_take (i := 3) (oi := ⟨some 25, .load 3 (.tmp 24), _, _, _, _⟩) (v := (.int .i64 (S.quota : Int))) rfl (by kernel_rfl) (by kernel_rfl) (by kernel_rfl) (fun _ _ _ h => h) (Or.inl ⟨by rfl, fun W hW => by have hcell := (show W.cell? ⟨w.heap.size, 1, none⟩ = some (.int .i64 (S.quota : Int)) by rw [← HQQ.out]; exact (RBox.cells hW.1).2.1); go_simp⟩) (by assumption) ?_
          simp only [Act.put, List.setIfInBounds_toArray, List.set_cons_zero, List.set_cons_succ]
          refine wpAnyH_take (i := 4) (oi := ⟨some 26, .load 31 (.tmp 3), _, _, _, _⟩) (v := (.agg (refC V5 S))) rfl (by kernel_rfl) (by kernel_rfl) (by kernel_rfl) (fun _ _ _ h => h) (Or.inl ⟨by rfl, fun W hW => exec_loadD _ rfl _ V5 S rfl hW.1⟩) (by assumption) ?_
          simp only [Act.put, List.setIfInBounds_toArray, List.set_cons_zero, List.set_cons_succ]
          refine wpAnyH_ready (rs := [5]) (by kernel_rfl) (by simp) ?_
          refine AllReadyH.cons (o := ⟨some 27, .call { callee := .value (.func 8), args := #[(.tmp 26)], argTypes := #[31] }, _, _, _, _⟩) rfl (fun K hK => ?_) AllReadyH.nil
          go_simp
          go_wp2_with (go_at_call 8; (refine (refUsed_any V5 S w5.drew (HO5.out.below (Below.refl _ _).drew).inn HIV.out HFW.out).mono ?_); rintro e w6 ⟨rfl, hb6⟩; have hb7 : Below w5.heap.size w5 w6 := (Below.refl w5.heap.size w5).drew.trans hb6; have H6 := Lib.hid (show RBox w6 w.heap.size V5 S ∧ RowAt w6 w1.heap.size 31 zeroD ∧ RefOwn w6 w3.heap.size V5 S ∧ Below w.heap.size w w6 ∧ w3.heap.size ≤ w6.heap.size from ⟨RBox.below HR5.out hb7, RowAt.below HZ5.out hb7, HO5.out.below hb7, HB5.out.trans (hb7.mono HB5.out.size), Nat.le_trans HS5.out hb7.size⟩); clear hb6 hb7)
          refine hK.out _ _ H6.out (fun hHeld => ?_)
          clear hK K
          refine wpAnyH_take (i := 6) (oi := ⟨some 28, .binOp .sub 3 (.tmp 25) (.tmp 27) 3, _, _, _, _⟩) (v := (.int .i64 ((S.quota : Int) - (usedS S : Nat)))) rfl (by kernel_rfl) (by kernel_rfl) (by kernel_rfl) (fun _ _ _ h => h) (Or.inl ⟨by rfl, fun W hW => by have h1 := HWR.out; have h2 := HWR2.out; have h3 := HQD.out; go_simp⟩) (by assumption) ?_
          simp only [Act.put, List.setIfInBounds_toArray, List.set_cons_zero, List.set_cons_succ]
          refine wpAnyH_take (i := 7) (oi := ⟨some 29, .binOp .gtr 3 (.tmp 23) (.tmp 28) 3, _, _, _, _⟩) (v := (.bool qd)) rfl (by kernel_rfl) (by kernel_rfl) (by kernel_rfl) (fun _ _ _ h => h) (Or.inl ⟨by rfl, fun W hW => by have h1 := HWR.out; have h2 := HWR2.out; have h3 := HQD.out; go_simp⟩) (by assumption) ?_
          simp only [Act.put, List.setIfInBounds_toArray, List.set_cons_zero, List.set_cons_succ]
          refine wpAnyH_done (by kernel_rfl) ?_ _
          subst hqv
          go_wp2_with (first
            | (refine load_row rfl 31 _ rfl w.heap.size _ (refL V5 S) _ rfl H6.out.1 Try.underlying31 rfl infoD ?_)
            | (go_at_call 36; (with_reducible refine (refArmed_any V5 S w6 HDN.out HAR.out).mono ?_); rintro e w7 ⟨rfl, hb7⟩; rw [hA2]; have H7 := Lib.hid (show RBox w7 w.heap.size V5 S ∧ RowAt w7 w1.heap.size 31 zeroD ∧ RefOwn w7 w3.heap.size V5 (armS S) ∧ Below w.heap.size w w7 ∧ w3.heap.size ≤ w7.heap.size from ⟨RBox.below H6.out.1 hb7, RowAt.below H6.out.2.1 hb7, (by obtain ⟨R, h1, h2⟩ := H6.out.2.2.1; exact ⟨R, h1.below hb7, h2⟩), H6.out.2.2.2.1.trans (hb7.mono H6.out.2.2.2.1.size), Nat.le_trans H6.out.2.2.2.2 hb7.size⟩); clear hb7)
            | (refine store_row rfl 31 _ _ rfl w.heap.size _ (refL V5 S) (refL V5 (armS S)) rfl rfl H7.out.1 rfl infoD (refL_one _ _) ?_; intro w8 hr8 hg8 hs8; have HB8 := Lib.hid (H7.out.2.2.2.1.grown hg8 H7.out.2.2.2.1.size (fun k hk => by cases hk; exact Nat.le_refl _)); have HR8 := Lib.hid (show RBox w8 w.heap.size V5 (armS S) from hr8); have HZ8 := Lib.hid (RowAt.grown H7.out.2.1 hg8 (fun e => HNE.out (Option.some.inj e))); have HO8 := Lib.hid (show RefOwn w8 w3.heap.size V5 (armS S) from (by obtain ⟨R, h1, h2⟩ := H7.out.2.2.1; exact ⟨R, h1.grownLow HL3.out.1 hg8, h2⟩)); have HS8 := Lib.hid (show w3.heap.size ≤ w8.heap.size by rw [hs8]; exact H7.out.2.2.2.2); have k4 := (RBox.cells HR8.out).2.2.2.2.1; have HNOW := Lib.hid (show ∀ W, Below w8.heap.size w8 W → AtG entK W V5.an V5.nn V5.cn S.now from fun W hb => HO8.out.inn.now.below hb); clear hr8 hg8 hs8)
            | (go_at_call 37; have Q9 := HB9; (with_reducible refine (refLook_any V5.an V5.nn V5.cn S.now s w9 (HNOW.out _ HBk9.out)).mono ?_); rw [e9]; rintro e w10 ⟨rfl, hb10⟩; have HB10 := Lib.hid (HB9.out.trans (hb10.mono HB9.out.size)); have H10 := Lib.hid (show RBox w10 w.heap.size V5 (armS S) ∧ RowAt w10 w1.heap.size 31 zeroD ∧ RefOwn w10 w3.heap.size V5 (armS S) ∧ w3.heap.size ≤ w10.heap.size from ⟨RBox.below HR9.out hb10, RowAt.below HZ9.out hb10, HO9.out.below hb10, Nat.le_trans HS9.out hb10.size⟩); clear hb10)
            | (go_at_call 37; (with_reducible refine (refLook_any V5.an V5.nn V5.cn S.now s w8 (HNOW.out _ (Below.refl _ _))).mono ?_); rw [e9]; rintro e w9 ⟨rfl, hb9⟩; have HB9 := Lib.hid (HB8.out.trans (hb9.mono HB8.out.size)); have HR9 := Lib.hid (RBox.below HR8.out hb9); have HZ9 := Lib.hid (RowAt.below HZ8.out hb9); have HO9 := Lib.hid (HO8.out.below hb9); have HS9 := Lib.hid (Nat.le_trans HS8.out hb9.size); have HBk9 := Lib.hid hb9; have r4 := (RBox.cells HR9.out).2.2.2.2.1; clear hb9))

          obtain ⟨R, HH, HRE⟩ := H10.out.2.2.1
          replace HH : Holds w10 w3.heap.size (partsH V5 S R) := HH
          replace HRE : R.map (·.l) = S.files.map (·.1) := HRE
          have hrow : OwnG rowK 35 w10 w3.heap.size (.slice V5.af V5.nf V5.cf) R := HH.gG (fun _ => trivial) (by simp)
          have hRl : R.length = S.files.length := by have := congrArg List.length HRE; simpa using this
          have hkl := HKL.out
          obtain ⟨R1, x, R2, hR, hR1⟩ := split_at (show k < R.length by omega)
          have hnf := hrow.len
          obtain ⟨gF, hgF, hbF, hlF, hfF⟩ := hrow.row (by omega)
          rw [hgF] at hrow
          have hgx : gd R k = x := by unfold gd; rw [hR, ← hR1]; simp
          have cf := hrow.atG.cell k (by omega) 0 (.slice x.a x.n x.c) (by rw [hgx]; rfl)
          have hk1 : rowK.k = 1 := rfl
          rw [hk1, Nat.mul_one, Nat.add_zero, Nat.zero_add] at cf
          have hown : Own w10 w3.heap.size x.v x.l := HH.own (hB x) (by rw [hR]; simp)
          have hxl : x.l = (S.files.getD k ([], 0)).1 := by
            have h1 := congrArg (fun l => l.getD k []) HRE
            rw [files_get _ _ hkl, hR, ← hR1] at h1
            rw [← hR1, ← h1]
            simp
          have hln : x.l.length ≤ 1073741824 := by rw [hxl]; exact HLK.out
          have hxa : ∀ q, x.v.ownBlock = some q → q ≠ gF := fun q hq e => by
            have h1 := HH.two
            have h2 : (hG rowK 35 (.slice V5.af V5.nf V5.cf) R :: R.map hB).Sublist (partsH V5 S R) := .cons _ (.cons _ (.cons _ (.cons _ (List.Sublist.refl _))))
            have h3 := (List.pairwise_cons.1 (h1.sublist h2)).1 (hB x) (by rw [hR]; simp)
            refine h3 gF (by show (Value.slice V5.af V5.nf V5.cf).ownBlock = some gF; rw [hgF]; rfl) ?_
            show x.v.ownBlock = some gF
            rw [hq, e]
          have hxg : ∀ q, x.v.ownBlock = some q → w3.heap.size ≤ q := fun q hq => (World.ownsRow.lt hown q hq).1
          have HOX := Lib.hid (Own.mono hown (Nat.zero_le _))
          have HBB := Lib.hid (HBS.out.below HB10.out)
          obtain ⟨r, hr⟩ : ∃ r, r = x.l.length + n := ⟨_, rfl⟩
          have HR9' := Lib.hid hr
          have H48 := Lib.hid (show x.l.length + n ≤ 140737488355328 by have := HBM.out; omega)
          have HG3 := Lib.hid HL3.out
          obtain ⟨k0, k1, k2, k3, k4, k5, k6, k7, k8, k9⟩ := RBox.cells H10.out.1
          rw [hgF] at k2
          have ff := hfF k
          have hkn : (k : Int) < (V5.nf : Int) := by omega
          have HXA := Lib.hid hxa
          have HXG := Lib.hid hxg
          have HHH := Lib.hid HH
          have HXL := Lib.hid hxl
          have HBF := Lib.hid hbF
          have HRE2 := Lib.hid HRE
          have HKP := Lib.hid (show ∀ W, w10.grownBy W x.v.ownBlock → RBox W w.heap.size V5 (armS S) ∧ RowAt W w1.heap.size 31 zeroD ∧ W.cell? ⟨gF, k, none⟩ = some (.slice x.a x.n x.c) ∧ W.frozen? ⟨gF, k, none⟩ = false ∧ Below w.heap.size w W from fun W hg => by
            have hb : W.heap[gF]? = w10.heap[gF]? := hg.block gF hlF (fun e => hxa gF e.symm rfl)
            refine ⟨H10.out.1.grown hg (fun e => ?_), H10.out.2.1.grown hg (fun e => ?_), (by unfold World.cell? at cf ⊢; rw [hb]; exact cf), (by unfold World.frozen? at ff ⊢; rw [hb]; exact ff), HB10.out.grown hg HB10.out.size (fun q hq => by have := hxg q hq; have := HG3.out.1; omega)⟩
            · have := hxg _ e.symm; have := HG3.out.1; omega
            · have := hxg _ e.symm; have := HG3.out.2; omega)
          clear hrow hRl hkl hnf hgx hown hln hxa hxg hxl hr HRE hbF HH k0 k1 k3 k4 k5 k6 k7 k8 k9
          go_wp2
          go_region_law ((refine step_app rfl _ _ rfl (.slice x.a x.n x.c) _ rfl HOX.out a n c b rfl HBB.out H48.out r HR9'.out ?_); intro a' c' w11 ho2 hg2 ht2; have KQ := Lib.hid (HKP.out w11 (grown_drew hg2)); have d2 := (RBox.cells KQ.out.1).2.2.1; rw [hgF] at d2; have d3 := KQ.out.2.2.1; have d4 := KQ.out.2.2.2.1; have HO2 := Lib.hid ho2; have HG2 := Lib.hid (grown_drew hg2); have HT2 := Lib.hid (told_drew ht2); clear ho2 hg2 ht2)
          all_goals
            have HH12 := Lib.hid (show Holds (w11.setCell ⟨gF, k, none⟩ (.slice a' r c')) w3.heap.size ([hG actK 81 (.slice V5.aa V5.na V5.ca) S.acts, hG entK 67 (.slice V5.ak V5.nk V5.ck) S.kept, hG entK 67 (.slice V5.an V5.nn V5.cn) S.now, hG numK 3 (.slice V5.ay V5.ny V5.cy) (S.files.map (fun x : FileD => x.2))] ++ hG rowK 35 (.slice (some ⟨gF, 0, none⟩) V5.nf V5.cf) (R1 ++ ⟨a', r, c', x.l ++ b⟩ :: R2) :: (R1 ++ ⟨a', r, c', x.l ++ b⟩ :: R2).map hB) by
              have h1 := HHH.out
              unfold partsH at h1
              rw [hgF, hR] at h1
              have h2 := put_rows (A := [hG actK 81 (.slice V5.aa V5.na V5.ca) S.acts, hG entK 67 (.slice V5.ak V5.nk V5.ck) S.kept, hG entK 67 (.slice V5.an V5.nn V5.cn) S.now, hG numK 3 (.slice V5.ay V5.ny V5.cy) (S.files.map (fun x : FileD => x.2))]) (x' := ⟨a', r, c', x.l ++ b⟩) h1 HG2.out HO2.out HT2.out H10.out.2.2.2
              rw [hR1] at h2
              exact h2)
            have HR12 := Lib.hid (show RBox (w11.setCell ⟨gF, k, none⟩ (.slice a' r c')) w.heap.size V5 { armS S with files := S.files.modify k fun x => (x.1 ++ b, x.2) } from RowAt.other KQ.out.1 (show w.heap.size ≠ gF by have := HBF.out; have := HG3.out.1; omega) _)
            have HZ12 := Lib.hid (show RowAt (w11.setCell ⟨gF, k, none⟩ (.slice a' r c')) w1.heap.size 31 zeroD from RowAt.other KQ.out.2.1 (show w1.heap.size ≠ gF by have := HBF.out; have := HG3.out.2; omega) _)
            have HB12 := Lib.hid (show Below w.heap.size w (w11.setCell ⟨gF, k, none⟩ (.slice a' r c')) from KQ.out.2.2.2.2.setCell (show w.heap.size ≤ (⟨gF, k, none⟩ : Addr).block from (by show w.heap.size ≤ gF; have := HBF.out; have := HG3.out.1; omega)) _)
            clear d2 d3 d4
            generalize w11.setCell ⟨gF, k, none⟩ (.slice a' r c') = w12 at HH12 HR12 HZ12 HB12 ⊢
            go_wp2_with (first
              | (refine load_row rfl 31 _ rfl w.heap.size _ (refL V5 { armS S with files := S.files.modify k fun x => (x.1 ++ b, x.2) }) _ rfl HR12.out Try.underlying31 rfl infoD ?_)
              | (refine store_row rfl 31 _ _ rfl w1.heap.size _ zeroD (refL V5 { armS S with files := S.files.modify k fun x => (x.1 ++ b, x.2) }) rfl rfl HZ12.out rfl infoD (refL_one _ _) ?_; intro w20 hr20 hg20 _))
            have HFI := Lib.hid (HH12.out.grownLow HG3.out.2 hg20)
            have hfst : (R1 ++ ⟨a', r, c', x.l ++ b⟩ :: R2).map (·.l) = ({ armS S with files := S.files.modify k fun x => (x.1 ++ b, x.2) } : DS).files.map (·.1) := by
              have h1 := HRE2.out
              rw [hR] at h1
              show _ = (S.files.modify k _).map _
              rw [put_fst _ _ _ HKL.out, ← h1, ← HXL.out, ← hR1]
              simp
            have hsnd : ({ armS S with files := S.files.modify k fun x => (x.1 ++ b, x.2) } : DS).files.map (fun x : FileD => x.2) = S.files.map (fun x : FileD => x.2) := put_snd _ _ _
            have hfil : RowsR w20 V5.af V5.nf V5.cf (({ armS S with files := S.files.modify k fun x => (x.1 ++ b, x.2) } : DS).files.map (fun x : FileD => x.1)) := by
              rw [hgF]
              exact rows_in HFI.out (by simp) (fun y hy => List.mem_append_right _ (List.mem_cons_of_mem _ (List.mem_map_of_mem hy))) hfst
            have hsyn : AtG numK w20 V5.ay V5.ny V5.cy (({ armS S with files := S.files.modify k fun x => (x.1 ++ b, x.2) } : DS).files.map (fun x : FileD => x.2)) := by
              rw [hsnd]
              exact (HFI.out.gG (E := 3) (K := numK) (v := .slice V5.ay V5.ny V5.cy) (M := S.files.map (fun x : FileD => x.2)) (fun _ => trivial) (by simp)).atG
            exact bodyPost_ret (results_ref2 rfl _ _ w1.heap.size V5 ({ armS S with files := S.files.modify k fun x => (x.1 ++ b, x.2) } : DS) rfl hr20) rfl ⟨V5, by rw [HE.out]; rfl, HM5.out, HQ5.out, by rw [HE.out]; exact .inl (holds_far HFI.out (Nat.le_of_lt HL3.out.1) (fun W'' HFJ => ⟨(by rw [hgF]; exact rows_in HFJ (by simp) (fun y hy => List.mem_append_right _ (List.mem_cons_of_mem _ (List.mem_map_of_mem hy))) hfst), (by rw [hsnd]; exact (HFJ.gG (E := 3) (K := numK) (v := .slice V5.ay V5.ny V5.cy) (M := S.files.map (fun x : FileD => x.2)) (fun _ => trivial) (by simp)).atG), (HFJ.gG (E := 67) (K := entK) (v := .slice V5.an V5.nn V5.cn) (M := S.now) (fun _ => trivial) (by simp)).atG, (HFJ.gG (E := 67) (K := entK) (v := .slice V5.ak V5.nk V5.ck) (M := S.kept) (fun _ => trivial) (by simp)).atG, (HFJ.gG (E := 81) (K := actK) (v := .slice V5.aa V5.na V5.ca) (M := S.acts) (fun _ => trivial) (by simp)).atG⟩)), HB12.out.grown hg20 HB12.out.size (fun k hk => by cases hk; exact HW1.out)⟩
        | none =>
          have HE := Lib.hid (show appendS S s b = ({ freshS (armS S) s with files := (freshS (armS S) s).files.modify S.files.length fun x => (x.1 ++ b, x.2) }, 0) by rw [appS_ok (b := b) hz HQN.out ha, putS_none (show look (armS S).now s = none from hk)]; rfl)
          have e9 : lookZ S.now s = -1 := by unfold lookZ; rw [hk]
          have e19 : lookZ (turnD S.now (newAct S s)) s = (S.files.length : Int) := by
            unfold lookZ
            rw [look_turn, if_pos ⟨may_ne (ready_may hz).2.1, rfl⟩]
            rfl
          obtain ⟨k, hk9⟩ : ∃ k, S.files.length = k := ⟨_, rfl⟩
          obtain ⟨S6, hS6⟩ : ∃ S6, freshS (armS S) s = S6 := ⟨_, rfl⟩
          have HE : Hid (appendS S s b = ({ S6 with files := S6.files.modify k fun x => (x.1 ++ b, x.2) }, 0)) := by rw [← hS6, ← hk9]; exact HE
          rw [hk9] at e19
          have hS6f : S6.files = S.files ++ [([], 0)] := by rw [← hS6]; rfl
          have HKL := Lib.hid (show k < S6.files.length by rw [hS6f, List.length_append, hk9]; simp)
          have HLK := Lib.hid (show (S6.files.getD k ([], 0)).1.length ≤ 1073741824 by rw [hS6f, ← hk9]; simp)
          have hk0 : (0 : Int) ≤ (k : Int) := by omega
          have HS6 := Lib.hid hS6
          have HS6F := Lib.hid hS6f
          have HFL := Lib.hid hfew.files
          have HDL := Lib.hid hfew.dirs
          have HNL := Lib.hid (hok.nowLen hfew)
          clear h hm hok hfew hz har hqd ha hk hk9 hS6 hS6f
          go_enter Try.func17, Try.ntmps17
          go_wp2_with (first
            | (refine box_row rfl 31 (.tmp 0) (refL V S) rfl rfl ?_; intro w1 hr1 hb1 hs1; have HB1 := Lib.hid hb1; have HR1 := Lib.hid hr1; have HS1 := Lib.hid hs1; clear hb1 hr1 hs1)
            | (refine alloc_row rfl 31 zeroD rfl zero_disk ?_; intro w2 hr2 hb2 hs2; have HB2 := Lib.hid (HB1.out.trans (hb2.mono HB1.out.size)); have HR2 := Lib.hid (RBox.below HR1.out hb2); have HZ2 := Lib.hid hr2; have HNE := Lib.hid (show w1.heap.size ≠ w.heap.size by have := HS1.out; omega); have HW1 := Lib.hid HB1.out.size; clear hr2 hb2 hs2)
            | (refine load_row rfl 31 _ rfl w.heap.size _ (refL V S) _ rfl HR3.out Try.underlying31 rfl infoD ?_)
            | (refine load_row rfl 31 _ rfl w.heap.size _ (refL V S) _ rfl HR2.out Try.underlying31 rfl infoD ?_)
            | (go_at_call 34; (with_reducible refine (P1.out _).mono ?_); rintro e w3 ⟨rfl, hb3⟩; have HB3 := Lib.hid (HB2.out.trans (hb3.mono HB2.out.size)); have HR3 := Lib.hid (RBox.below HR2.out hb3); have HZ3 := Lib.hid (RowAt.below HZ2.out hb3); have HI3 := Lib.hid (HI.out.below HB3.out); clear hb3)
            | (go_at_call 35; (with_reducible refine (refCopy_any V S _ HI3.out HIV.out HFC.out).mono ?_); rintro e w4 ⟨V5, rfl, hm5, hq5, ho5, hb5⟩; have HB4 := Lib.hid (HB3.out.trans (hb5.mono HB3.out.size)); have HR4 := Lib.hid (RBox.below HR3.out hb5); have HZ4 := Lib.hid (RowAt.below HZ3.out hb5); have HO4 := Lib.hid ho5; have HM5 := Lib.hid hm5; have HQ5 := Lib.hid hq5; have HS4 := Lib.hid hb5.size; have HL3 := Lib.hid (show w.heap.size < w3.heap.size ∧ w1.heap.size < w3.heap.size from ⟨HR3.out.lt, HZ3.out.lt⟩); clear ho5 hb5 hm5 hq5)
            | (refine store_row rfl 31 _ _ rfl w.heap.size _ (refL V S) (refL V5 S) rfl rfl HR4.out rfl infoD (refL_one _ _) ?_; intro w5 hr5 hg5 hs5; have HB5 := Lib.hid (HB4.out.grown hg5 HB4.out.size (fun k hk => by cases hk; exact Nat.le_refl _)); have HR5 := Lib.hid (show RBox w5 w.heap.size V5 S from hr5); have HZ5 := Lib.hid (RowAt.grown HZ4.out hg5 (fun e => HNE.out (Option.some.inj e))); have HO5 := Lib.hid (show RefOwn w5 w3.heap.size V5 S from (by obtain ⟨R, h1, h2⟩ := HO4.out; exact ⟨R, h1.grownLow HL3.out.1 hg5, h2⟩)); have HS5 := Lib.hid (show w3.heap.size ≤ w5.heap.size by rw [hs5]; exact HS4.out); clear hr5 hg5 hs5))
          have HQQ := Lib.hid (HQ5.out.trans HQ.out)
          refine wp_region_held_drew (S := fun W => RBox W w.heap.size V5 S ∧ RowAt W w1.heap.size 31 zeroD ∧ RefOwn W w3.heap.size V5 S ∧ Below w.heap.size w W ∧ w3.heap.size ≤ W.heap.size) (by kernel_rfl) ⟨HR5.out, HZ5.out, HO5.out.below (Below.refl _ _).drew, HB5.out.drew, HS5.out⟩ (fun hHeld => ?_)
          refine wpAnyH_take (i := 0) (oi := ⟨some 22, .move (.tmp 2), _, _, _, _⟩) (v := (.slice a n c)) rfl (by kernel_rfl) (by kernel_rfl) (by kernel_rfl) (fun _ _ _ h => h) (Or.inl ⟨by rfl, fun W hW => by go_simp⟩) (by assumption) ?_
          simp only [Act.put, List.setIfInBounds_toArray, List.set_cons_zero, List.set_cons_succ]
          refine wpAnyH_take (i := 1) (oi := ⟨some 23, .call { callee := .builtin .len, args := #[(.tmp 22)], argTypes := #[35] }, _, _, _, _⟩) (v := (.int .i64 (n : Nat))) rfl (by kernel_rfl) (by kernel_rfl) (by kernel_rfl) (fun _ _ _ h => h) (Or.inl ⟨by rfl, fun W hW => by have h1 := HWR.out; have h2 := HWR2.out; have h3 := HQD.out; go_simp⟩) (by assumption) ?_
          simp only [Act.put, List.setIfInBounds_toArray, List.set_cons_zero, List.set_cons_succ]
          refine wpAnyH_take (i := 2) (oi := ⟨some 24, .fieldAddr 31 (.tmp 3) 1, _, _, _, _⟩) (v := (.pointer (some ⟨w.heap.size, 0 + 1, none⟩))) rfl (by kernel_rfl) (by kernel_rfl) (by kernel_rfl) (fun _ _ _ h => h) (Or.inl ⟨by rfl, fun W hW => by go_simp⟩) (by assumption) ?_
          simp only [Act.put, List.setIfInBounds_toArray, List.set_cons_zero, List.set_cons_succ]
          refine wpAnyH_take (i := 3) (oi := ⟨some 25, .load 3 (.tmp 24), _, _, _, _⟩) (v := (.int .i64 (S.quota : Int))) rfl (by kernel_rfl) (by kernel_rfl) (by kernel_rfl) (fun _ _ _ h => h) (Or.inl ⟨by rfl, fun W hW => by have hcell := (show W.cell? ⟨w.heap.size, 1, none⟩ = some (.int .i64 (S.quota : Int)) by rw [← HQQ.out]; exact (RBox.cells hW.1).2.1); go_simp⟩) (by assumption) ?_
          simp only [Act.put, List.setIfInBounds_toArray, List.set_cons_zero, List.set_cons_succ]
          refine wpAnyH_take (i := 4) (oi := ⟨some 26, .load 31 (.tmp 3), _, _, _, _⟩) (v := (.agg (refC V5 S))) rfl (by kernel_rfl) (by kernel_rfl) (by kernel_rfl) (fun _ _ _ h => h) (Or.inl ⟨by rfl, fun W hW => exec_loadD _ rfl _ V5 S rfl hW.1⟩) (by assumption) ?_
          simp only [Act.put, List.setIfInBounds_toArray, List.set_cons_zero, List.set_cons_succ]
          refine wpAnyH_ready (rs := [5]) (by kernel_rfl) (by simp) ?_
          refine AllReadyH.cons (o := ⟨some 27, .call { callee := .value (.func 8), args := #[(.tmp 26)], argTypes := #[31] }, _, _, _, _⟩) rfl (fun K hK => ?_) AllReadyH.nil
          go_simp
          go_wp2_with (go_at_call 8; (refine (refUsed_any V5 S w5.drew (HO5.out.below (Below.refl _ _).drew).inn HIV.out HFW.out).mono ?_); rintro e w6 ⟨rfl, hb6⟩; have hb7 : Below w5.heap.size w5 w6 := (Below.refl w5.heap.size w5).drew.trans hb6; have H6 := Lib.hid (show RBox w6 w.heap.size V5 S ∧ RowAt w6 w1.heap.size 31 zeroD ∧ RefOwn w6 w3.heap.size V5 S ∧ Below w.heap.size w w6 ∧ w3.heap.size ≤ w6.heap.size from ⟨RBox.below HR5.out hb7, RowAt.below HZ5.out hb7, HO5.out.below hb7, HB5.out.trans (hb7.mono HB5.out.size), Nat.le_trans HS5.out hb7.size⟩); clear hb6 hb7)
          refine hK.out _ _ H6.out (fun hHeld => ?_)
          clear hK K
          refine wpAnyH_take (i := 6) (oi := ⟨some 28, .binOp .sub 3 (.tmp 25) (.tmp 27) 3, _, _, _, _⟩) (v := (.int .i64 ((S.quota : Int) - (usedS S : Nat)))) rfl (by kernel_rfl) (by kernel_rfl) (by kernel_rfl) (fun _ _ _ h => h) (Or.inl ⟨by rfl, fun W hW => by have h1 := HWR.out; have h2 := HWR2.out; have h3 := HQD.out; go_simp⟩) (by assumption) ?_
          simp only [Act.put, List.setIfInBounds_toArray, List.set_cons_zero, List.set_cons_succ]
          refine wpAnyH_take (i := 7) (oi := ⟨some 29, .binOp .gtr 3 (.tmp 23) (.tmp 28) 3, _, _, _, _⟩) (v := (.bool qd)) rfl (by kernel_rfl) (by kernel_rfl) (by kernel_rfl) (fun _ _ _ h => h) (Or.inl ⟨by rfl, fun W hW => by have h1 := HWR.out; have h2 := HWR2.out; have h3 := HQD.out; go_simp⟩) (by assumption) ?_
          simp only [Act.put, List.setIfInBounds_toArray, List.set_cons_zero, List.set_cons_succ]
          refine wpAnyH_done (by kernel_rfl) ?_ _
          subst hqv
          go_wp2_with (first
            | (refine load_row rfl 31 _ rfl w.heap.size _ (refL V5 S) _ rfl H6.out.1 Try.underlying31 rfl infoD ?_)
            | (go_at_call 36; (with_reducible refine (refArmed_any V5 S w6 HDN.out HAR.out).mono ?_); rintro e w7 ⟨rfl, hb7⟩; rw [hA2]; have H7 := Lib.hid (show RBox w7 w.heap.size V5 S ∧ RowAt w7 w1.heap.size 31 zeroD ∧ RefOwn w7 w3.heap.size V5 (armS S) ∧ Below w.heap.size w w7 ∧ w3.heap.size ≤ w7.heap.size from ⟨RBox.below H6.out.1 hb7, RowAt.below H6.out.2.1 hb7, (by obtain ⟨R, h1, h2⟩ := H6.out.2.2.1; exact ⟨R, h1.below hb7, h2⟩), H6.out.2.2.2.1.trans (hb7.mono H6.out.2.2.2.1.size), Nat.le_trans H6.out.2.2.2.2 hb7.size⟩); clear hb7)
            | (refine store_row rfl 31 _ _ rfl w.heap.size _ (refL V5 S) (refL V5 (armS S)) rfl rfl H7.out.1 rfl infoD (refL_one _ _) ?_; intro w8 hr8 hg8 hs8; have HB8 := Lib.hid (H7.out.2.2.2.1.grown hg8 H7.out.2.2.2.1.size (fun k hk => by cases hk; exact Nat.le_refl _)); have HR8 := Lib.hid (show RBox w8 w.heap.size V5 (armS S) from hr8); have HZ8 := Lib.hid (RowAt.grown H7.out.2.1 hg8 (fun e => HNE.out (Option.some.inj e))); have HO8 := Lib.hid (show RefOwn w8 w3.heap.size V5 (armS S) from (by obtain ⟨R, h1, h2⟩ := H7.out.2.2.1; exact ⟨R, h1.grownLow HL3.out.1 hg8, h2⟩)); have HS8 := Lib.hid (show w3.heap.size ≤ w8.heap.size by rw [hs8]; exact H7.out.2.2.2.2); have k4 := (RBox.cells HR8.out).2.2.2.2.1; have HNOW := Lib.hid (show ∀ W, Below w8.heap.size w8 W → AtG entK W V5.an V5.nn V5.cn S.now from fun W hb => HO8.out.inn.now.below hb); clear hr8 hg8 hs8)
            | (go_at_call 37; (with_reducible refine (refLook_any V5.an V5.nn V5.cn S.now s w8 (HNOW.out _ (Below.refl _ _))).mono ?_); rw [e9]; rintro e w9 ⟨rfl, hb9⟩; have HB9 := Lib.hid (HB8.out.trans (hb9.mono HB8.out.size)); have HR9 := Lib.hid (RBox.below HR8.out hb9); have HZ9 := Lib.hid (RowAt.below HZ8.out hb9); have HO9 := Lib.hid (HO8.out.below hb9); have HS9 := Lib.hid (Nat.le_trans HS8.out hb9.size); have HBk9 := Lib.hid hb9; have r4 := (RBox.cells HR9.out).2.2.2.2.1; clear hb9
               obtain ⟨R, HH, HRE⟩ := HO9.out
               replace HH : Holds w9 w3.heap.size (partsH V5 S R) := HH
               replace HRE : R.map (·.l) = S.files.map (·.1) := HRE
               have HRR := Lib.hid HRE
               have HH9 := Lib.hid (show Holds w9 w3.heap.size ([hG actK 81 (.slice V5.aa V5.na V5.ca) S.acts, hG entK 67 (.slice V5.ak V5.nk V5.ck) S.kept, hG entK 67 (.slice V5.an V5.nn V5.cn) S.now, hG numK 3 (.slice V5.ay V5.ny V5.cy) (S.files.map (fun x : FileD => x.2))] ++ hG rowK 35 (.slice V5.af V5.nf V5.cf) R :: R.map hB) from HH)
               have hOR : OwnG rowK 35 w9 w3.heap.size (.slice V5.af V5.nf V5.cf) R := HH.gG (fun _ => trivial) (by simp)
               have hRl : R.length = S.files.length := (by have := congrArg List.length HRE; simpa using this)
               have hOY : OwnG numK 3 w9 w3.heap.size (.slice V5.ay V5.ny V5.cy) (S.files.map (fun x : FileD => x.2)) := HH.gG (fun _ => trivial) (by simp)
               have hOA : OwnG actK 81 w9 w3.heap.size (.slice V5.aa V5.na V5.ca) S.acts := HH.gG (fun _ => trivial) (by simp)
               have HNF := Lib.hid (show V5.nf = S.files.length by rw [← hRl, hOR.len])
               have HNF1 := Lib.hid (show V5.nf + 1 = R.length + 1 by rw [hOR.len])
               have HNY1 := Lib.hid (show V5.ny + 1 = (S.files.map (fun x : FileD => x.2)).length + 1 by rw [hOY.len])
               have HNA1 := Lib.hid (show V5.na + 1 = S.acts.length + 1 by rw [hOA.len])
               have H48a := Lib.hid (show (R.length + 1) * (24 + 1) ≤ 140737488355328 by rw [hRl]; have := HFL.out; omega)
               have H48b := Lib.hid (show ((S.files.map (fun x : FileD => x.2)).length + 1) * (8 + 1) ≤ 140737488355328 by have := HFL.out; simp; omega)
               have H48c := Lib.hid (show (S.acts.length + 1) * (40 + 1) ≤ 140737488355328 by have := HDL.out; omega)
               have HNOW9 := Lib.hid (HNOW.out _ HBk9.out)
               have HOR := Lib.hid hOR; have HOY := Lib.hid hOY
               have k2 := (RBox.cells HR9.out).2.2.1
               clear HH HRE hOR hRl hOY hOA)
            | (refine alloc_row rfl 81 zeroA rfl zero_act ?_; intro w12 hr12 hb12 hs12; have HB12 := Lib.hid hb12; have HA12 := Lib.hid hr12; clear hr12 hb12 hs12)
            | (refine store_row rfl 81 _ _ rfl w9.heap.size _ zeroA (ractC (⟨[], s, V5.nf⟩ : DAct)).toList rfl rfl HA12.out rfl infoA (ract_one _) ?_; intro w13 hr13 hg13 hs13
               have HB13 := Lib.hid (HB12.out.grown hg13 HB12.out.size (fun k hk => by cases hk; exact Nat.le_refl _))
               have HA13 := Lib.hid (show RowAt w13 w9.heap.size 81 (ractC (newAct S s)).toList by rw [HNF.out] at hr13; exact hr13)
               have HR13 := Lib.hid (RBox.below HR9.out HB13.out)
               have HZ13 := Lib.hid (RowAt.below HZ9.out HB13.out)
               have HW13 := Lib.hid (HB9.out.trans (HB13.out.mono HB9.out.size))
               have HH13 := Lib.hid (HH9.out.below HB13.out)
               have HO13 := Lib.hid (HOR.out.below HB13.out)
               have HS13 := Lib.hid (Nat.le_trans HS9.out HB13.out.size)
               have q2 := (RBox.cells HR13.out).2.2.1
               have L13 := Lib.hid ((Below.refl w13.heap.size w13).alloc (Nat.le_refl _) (.cells (rowK.cells (⟨none, 0, 0, []⟩ : BRow)).toArray 35))
               clear hr13 hg13 hs13)
            | ((with_reducible show wpList _ _ _ (⟨some 55, _, _, _, _, _⟩ :: _) _ _); go_must (refine appG_told rowK Try.underlying26 rowInfo rfl rfl _ _ rfl w3.heap.size (.slice V5.af V5.nf V5.cf) R rfl (HO13.out.alloc _) _ 1 1 [(⟨none, 0, 0, []⟩ : BRow)] rfl (oneG _ (⟨none, 0, 0, []⟩ : BRow) trivial _ _ rfl) H48a.out (Nat.le_trans HS13.out (by simp)) (V5.nf + 1) HNF1.out ?_); intro a14 c14 w14 ho14 hg14 ht14
               obtain ⟨W14, hW14⟩ : ∃ W, w14.setCell ⟨w.heap.size, 2, none⟩ (.slice a14 (V5.nf + 1) c14) = W := ⟨_, rfl⟩
               have hr14 := (RBox.below HR13.out L13.out).grown hg14 (fun e => by have := (HO13.out.lt w.heap.size e.symm).1; have := HL3.out.1; omega)
               have hz14 := (HZ13.out.below L13.out).grown hg14 (fun e => by have := (HO13.out.lt w1.heap.size e.symm).1; have := HL3.out.2; omega)
               have ha14 := (HA13.out.below L13.out).grown hg14 (fun e => by have h1 := (HO13.out.lt w9.heap.size e.symm); have h2 := (HOR.out.lt w9.heap.size e.symm).2; omega)
               have hb14 := (HW13.out.trans (L13.out.mono HW13.out.size)).grown hg14 (HW13.out.trans (L13.out.mono HW13.out.size)).size (fun q hq => by have := (HO13.out.lt q hq).1; have := HL3.out.1; omega)
               have hh14 := (HH13.out.below L13.out).putAt [hG actK 81 (.slice V5.aa V5.na V5.ca) S.acts, hG entK 67 (.slice V5.ak V5.nk V5.ck) S.kept, hG entK 67 (.slice V5.an V5.nn V5.cn) S.now, hG numK 3 (.slice V5.ay V5.ny V5.cy) (S.files.map (fun x : FileD => x.2))] (h' := hG rowK 35 (.slice a14 (V5.nf + 1) c14) (R ++ [(⟨none, 0, 0, []⟩ : BRow)])) hg14 ho14.1 ht14
               have f2 := hr14.free 2; have d2 := hr14.cell 2 (v := .slice V5.af V5.nf V5.cf) rfl
               have HR14 := Lib.hid (show RBox W14 w.heap.size ({ V5 with af := a14, nf := V5.nf + 1, cf := c14 } : RVal) (armS S) by rw [← hW14]; exact hr14.set 2 _)
               have HZ14 := Lib.hid (show RowAt W14 w1.heap.size 31 zeroD by rw [← hW14]; exact hz14.other (show w1.heap.size ≠ w.heap.size from HNE.out) _)
               have HA14 := Lib.hid (show RowAt W14 w9.heap.size 81 (ractC (newAct S s)).toList by rw [← hW14]; exact ha14.other (show w9.heap.size ≠ w.heap.size by have := HS9.out; have := HL3.out.1; omega) _)
               have HB14 := Lib.hid (show Below w.heap.size w W14 by rw [← hW14]; exact hb14.setCell (Nat.le_refl _) _)
               have HH14 := Lib.hid (show Holds W14 w3.heap.size _ by rw [← hW14]; exact hh14.setLow HL3.out.1 2 _)
               have HS14 := Lib.hid (show w3.heap.size ≤ W14.heap.size by have e : W14.heap.size = w14.heap.size := (by rw [← hW14]; simp [World.setCell]); rw [e]; exact Nat.le_trans HS13.out (Nat.le_trans L13.out.size hg14.size))
               have HO14 := Lib.hid (show OwnG numK 3 W14 w3.heap.size (.slice V5.ay V5.ny V5.cy) (S.files.map (fun x : FileD => x.2)) from HH14.out.gG (fun _ => trivial) (by simp))
               have L14 := Lib.hid ((Below.refl W14.heap.size W14).alloc (Nat.le_refl _) (.cells (numK.cells 0).toArray 3))
               have k3 := (RBox.cells HR14.out).2.2.2.1
               clear hr14 hz14 ha14 hb14 hh14 ho14 hg14 ht14)
            | ((with_reducible show wpList _ _ _ (⟨some 60, _, _, _, _, _⟩ :: _) _ _); go_must (refine appG_told numK Try.underlying27 numInfo rfl rfl _ _ rfl w3.heap.size (.slice V5.ay V5.ny V5.cy) (S.files.map (fun x : FileD => x.2)) rfl (HO14.out.alloc _) _ 1 1 [0] rfl (oneG _ 0 trivial _ _ rfl) H48b.out (Nat.le_trans HS14.out (by simp)) (V5.ny + 1) HNY1.out ?_); intro a15 c15 w15 ho15 hg15 ht15
               have hr15 := (RBox.below HR14.out L14.out).grown hg15 (fun e => by have := (HO14.out.lt w.heap.size e.symm).1; have := HL3.out.1; omega)
               have hz15 := (HZ14.out.below L14.out).grown hg15 (fun e => by have := (HO14.out.lt w1.heap.size e.symm).1; have := HL3.out.2; omega)
               have hb15 := (HB14.out.trans (L14.out.mono HB14.out.size)).grown hg15 (HB14.out.trans (L14.out.mono HB14.out.size)).size (fun q hq => by have := (HO14.out.lt q hq).1; have := HL3.out.1; omega)
               have hh15 := (HH14.out.below L14.out).putAt [hG actK 81 (.slice V5.aa V5.na V5.ca) S.acts, hG entK 67 (.slice V5.ak V5.nk V5.ck) S.kept, hG entK 67 (.slice V5.an V5.nn V5.cn) S.now] (h' := hG numK 3 (.slice a15 (V5.ny + 1) c15) (S.files.map (fun x : FileD => x.2) ++ [0])) hg15 ho15.1 ht15
               have f3 := hr15.free 3; have d3 := hr15.cell 3 (v := .slice V5.ay V5.ny V5.cy) rfl
               obtain ⟨W15, hW15⟩ : ∃ W, w15.setCell ⟨w.heap.size, 3, none⟩ (.slice a15 (V5.ny + 1) c15) = W := ⟨_, rfl⟩
               have HR15 := Lib.hid (show RBox W15 w.heap.size ({ V5 with af := a14, nf := V5.nf + 1, cf := c14, ay := a15, ny := V5.ny + 1, cy := c15 } : RVal) (armS S) by rw [← hW15]; exact hr15.set 3 _)
               have HZ15 := Lib.hid (show RowAt W15 w1.heap.size 31 zeroD by rw [← hW15]; exact hz15.other (show w1.heap.size ≠ w.heap.size from HNE.out) _)
               have HB15 := Lib.hid (show Below w.heap.size w W15 by rw [← hW15]; exact hb15.setCell (Nat.le_refl _) _)
               have HH15 := Lib.hid (show Holds W15 w3.heap.size _ by rw [← hW15]; exact hh15.setLow HL3.out.1 3 _)
               have HS15 := Lib.hid (show w3.heap.size ≤ W15.heap.size by have e : W15.heap.size = w15.heap.size := (by rw [← hW15]; simp [World.setCell]); rw [e]; exact Nat.le_trans HS14.out (Nat.le_trans L14.out.size hg15.size))
               have HA15 := Lib.hid (show RowAt W15 w9.heap.size 81 (ractC (newAct S s)).toList by rw [← hW15]; exact ((HA14.out.below L14.out).grown hg15 (fun e => by have h1 := (HOY.out.lt w9.heap.size e.symm).2; omega)).other (show w9.heap.size ≠ w.heap.size by have := HS9.out; have := HL3.out.1; omega) _)
               have HNW15 := Lib.hid (show AtG entK W15 V5.an V5.nn V5.cn S.now from (HH15.out.gG (E := 67) (K := entK) (v := .slice V5.an V5.nn V5.cn) (M := S.now) (fun _ => trivial) (by simp)).atG)
               have HPT := Lib.hid (refTurned_any V5.an V5.nn V5.cn S.now (newAct S s) W15 _ rfl (HNW15.out.below ((Below.refl _ _).alloc (Nat.le_refl _) _)) (by have := HNW15.out.1; have := HNL.out; omega))
               have k4 := (RBox.cells HR15.out).2.2.2.2.1
               clear hr15 hz15 hb15 hh15 ho15 hg15 ht15)
            | (refine load_row rfl 81 _ rfl w9.heap.size _ (ractC (newAct S s)).toList _ rfl HA16.out Try.underlying81 rfl infoA ?_)
            | (refine load_row rfl 81 _ rfl w9.heap.size _ (ractC (newAct S s)).toList _ rfl HA15.out Try.underlying81 rfl infoA ?_)
            | (go_at_call 38; (with_reducible refine HPT.out.mono ?_); rintro e w16 ⟨a16, m16, c16, rfl, ho16, hb16⟩
               obtain ⟨W16, hW16⟩ : ∃ W, w16.setCell ⟨w.heap.size, 4, none⟩ (.slice a16 m16 c16) = W := ⟨_, rfl⟩
               have HR16a := Lib.hid (RBox.below HR15.out hb16)
               have f4 := HR16a.out.free 4; have d4 := (RBox.cells HR16a.out).2.2.2.2.1
               have HR16 := Lib.hid (show RBox W16 w.heap.size ({ V5 with af := a14, nf := V5.nf + 1, cf := c14, ay := a15, ny := V5.ny + 1, cy := c15, an := a16, nn := m16, cn := c16 } : RVal) { armS S with now := turnD S.now (newAct S s) } by rw [← hW16]; exact HR16a.out.set 4 _)
               have HZ16 := Lib.hid (show RowAt W16 w1.heap.size 31 zeroD by rw [← hW16]; exact (HZ15.out.below hb16).other (show w1.heap.size ≠ w.heap.size from HNE.out) _)
               have HB16 := Lib.hid (show Below w.heap.size w W16 by rw [← hW16]; exact (HB15.out.trans (hb16.mono HB15.out.size)).setCell (Nat.le_refl _) _)
               have HA16 := Lib.hid (show RowAt W16 w9.heap.size 81 (ractC (newAct S s)).toList by rw [← hW16]; exact (HA15.out.below hb16).other (show w9.heap.size ≠ w.heap.size by have := HS9.out; have := HL3.out.1; omega) _)
               have HH16 := Lib.hid (show Holds W16 w3.heap.size ([hG entK 67 (.slice a16 m16 c16) (turnD S.now (newAct S s))] ++ _ :: _) by rw [← hW16]; exact (HH15.out.add (h := hG entK 67 (.slice a16 m16 c16) (turnD S.now (newAct S s))) ho16.1 hb16 HS15.out).setLow HL3.out.1 4 _)
               have HO16 := Lib.hid (show OwnG actK 81 W16 w3.heap.size (.slice V5.aa V5.na V5.ca) S.acts from HH16.out.gG (fun _ => trivial) (by simp))
               have HS16 := Lib.hid (show w3.heap.size ≤ W16.heap.size by have e : W16.heap.size = w16.heap.size := (by rw [← hW16]; simp [World.setCell]); rw [e]; exact Nat.le_trans HS15.out hb16.size)
               have L16 := Lib.hid ((Below.refl W16.heap.size W16).alloc (Nat.le_refl _) (.cells (actK.cells (newAct S s)).toArray 81))
               have k6 := (RBox.cells HR16.out).2.2.2.2.2.2.1
               clear ho16 hb16)
            | (refine wpList_plain rfl (fun K hK => wp_sl_act _ rfl (newAct S s) rfl (hK _ _ ?_)))
            | ((with_reducible show wpList _ _ _ (⟨some 71, _, _, _, _, _⟩ :: _) _ _); go_must (refine appG_told actK Try.underlying29 actInfo rfl rfl _ _ rfl w3.heap.size (.slice V5.aa V5.na V5.ca) S.acts rfl (HO16.out.alloc _) _ 1 1 [(newAct S s)] rfl (oneG _ (newAct S s) trivial _ _ rfl) H48c.out (Nat.le_trans HS16.out (by simp)) (V5.na + 1) HNA1.out ?_); intro a17 c17 w17 ho17 hg17 ht17
               have hr17 := (RBox.below HR16.out L16.out).grown hg17 (fun e => by have := (HO16.out.lt w.heap.size e.symm).1; have := HL3.out.1; omega)
               have hz17 := (HZ16.out.below L16.out).grown hg17 (fun e => by have := (HO16.out.lt w1.heap.size e.symm).1; have := HL3.out.2; omega)
               have hb17 := (HB16.out.trans (L16.out.mono HB16.out.size)).grown hg17 (HB16.out.trans (L16.out.mono HB16.out.size)).size (fun q hq => by have := (HO16.out.lt q hq).1; have := HL3.out.1; omega)
               have hh17 := (HH16.out.below L16.out).putAt [hG entK 67 (.slice a16 m16 c16) (turnD S.now (newAct S s))] (h' := hG actK 81 (.slice a17 (V5.na + 1) c17) (S.acts ++ [(newAct S s)])) hg17 ho17.1 ht17
               have f6 := hr17.free 6; have d6 := hr17.cell 6 (v := .slice V5.aa V5.na V5.ca) rfl
               obtain ⟨W17, hW17⟩ : ∃ W, w17.setCell ⟨w.heap.size, 6, none⟩ (.slice a17 (V5.na + 1) c17) = W := ⟨_, rfl⟩
               have HR17 := Lib.hid (show RBox W17 w.heap.size ({ V5 with af := a14, nf := V5.nf + 1, cf := c14, ay := a15, ny := V5.ny + 1, cy := c15, an := a16, nn := m16, cn := c16, aa := a17, na := V5.na + 1, ca := c17 } : RVal) (freshS (armS S) s) by rw [← hW17]; exact hr17.set 6 _)
               have HZ17 := Lib.hid (show RowAt W17 w1.heap.size 31 zeroD by rw [← hW17]; exact hz17.other (show w1.heap.size ≠ w.heap.size from HNE.out) _)
               have HB17 := Lib.hid (show Below w.heap.size w W17 by rw [← hW17]; exact hb17.setCell (Nat.le_refl _) _)
               have HH17 := Lib.hid (show Holds W17 w3.heap.size _ by rw [← hW17]; exact hh17.setLow HL3.out.1 6 _)
               have HS17 := Lib.hid (show w3.heap.size ≤ W17.heap.size by have e : W17.heap.size = w17.heap.size := (by rw [← hW17]; simp [World.setCell]); rw [e]; exact Nat.le_trans HS16.out (Nat.le_trans L16.out.size hg17.size))
               have HNOW17 := Lib.hid (show AtG entK W17 a16 m16 c16 (turnD S.now (newAct S s)) from (HH17.out.gG (E := 67) (K := entK) (v := .slice a16 m16 c16) (M := turnD S.now (newAct S s)) (fun _ => trivial) (by simp)).atG)
               have k4 := (RBox.cells HR17.out).2.2.2.2.1
               clear hr17 hz17 hb17 hh17 ho17 hg17 ht17)
            | (go_at_call 37; (with_reducible refine (refLook_any a16 m16 c16 (turnD S.now (newAct S s)) s W17 HNOW17.out).mono ?_); rw [e19]; rintro e w10 ⟨rfl, hb10⟩
               have HB10 := Lib.hid (HB17.out.trans (hb10.mono HB17.out.size))
               obtain ⟨V6, hV6⟩ : ∃ V6, ({ V5 with af := a14, nf := V5.nf + 1, cf := c14, ay := a15, ny := V5.ny + 1, cy := c15, an := a16, nn := m16, cn := c16, aa := a17, na := V5.na + 1, ca := c17 } : RVal) = V6 := ⟨_, rfl⟩
               have HM6 := Lib.hid (show V6.made = V.made by rw [← hV6]; exact HM5.out)
               have HQ6 := Lib.hid (show V6.q = V.q by rw [← hV6]; exact HQ5.out)
               have H10 := Lib.hid (show RBox w10 w.heap.size V6 S6 ∧ RowAt w10 w1.heap.size 31 zeroD ∧ RefOwn w10 w3.heap.size V6 S6 ∧ w3.heap.size ≤ w10.heap.size from by
                 refine ⟨by rw [← hV6, ← HS6.out]; exact RBox.below HR17.out hb10, RowAt.below HZ17.out hb10, ⟨R ++ [(⟨none, 0, 0, []⟩ : BRow)], ?_, ?_⟩, Nat.le_trans HS17.out hb10.size⟩
                 · rw [← hV6, ← HS6.out]
                   have h1 := ((HH17.out.below hb10).addNil)
                   have h2 := h1.sub (L1 := hB (⟨none, 0, 0, []⟩ : BRow) :: hG entK 67 (.slice a16 m16 c16) (turnD S.now (newAct S s)) :: hG actK 81 (.slice a17 (V5.na + 1) c17) (S.acts ++ [(newAct S s)]) :: hG entK 67 (.slice V5.ak V5.nk V5.ck) S.kept :: hG numK 3 (.slice a15 (V5.ny + 1) c15) (S.files.map (fun x : FileD => x.2) ++ [0]) :: hG rowK 35 (.slice a14 (V5.nf + 1) c14) (R ++ [(⟨none, 0, 0, []⟩ : BRow)]) :: R.map hB) (.cons_cons _ (.cons_cons _ (.cons_cons _ (.cons_cons _ (.cons _ (.cons_cons _ (.cons_cons _ (List.Sublist.refl _))))))))
                   have h3 := permN h2
                   have e1 : (freshS (armS S) s).files.map (fun x : FileD => x.2) = S.files.map (fun x : FileD => x.2) ++ [0] := (by show (S.files ++ [([], 0)]).map _ = _; simp)
                   unfold partsH
                   rw [e1, List.map_append]
                   exact h3
                 · rw [HS6F.out, List.map_append, List.map_append, HRR.out]; rfl)
               clear hb10 hV6))
          obtain ⟨R', HH, HRE⟩ := H10.out.2.2.1
          replace HH : Holds w10 w3.heap.size (partsH V6 S6 R') := HH
          replace HRE : R'.map (·.l) = S6.files.map (·.1) := HRE
          have hrow : OwnG rowK 35 w10 w3.heap.size (.slice V6.af V6.nf V6.cf) R' := HH.gG (fun _ => trivial) (by simp)
          have hRl : R'.length = S6.files.length := by have := congrArg List.length HRE; simpa using this
          have hkl := HKL.out
          obtain ⟨R1, x, R2, hR, hR1⟩ := split_at (show k < R'.length by omega)
          have hnf := hrow.len
          obtain ⟨gF, hgF, hbF, hlF, hfF⟩ := hrow.row (by omega)
          rw [hgF] at hrow
          have hgx : gd R' k = x := by unfold gd; rw [hR, ← hR1]; simp
          have cf := hrow.atG.cell k (by omega) 0 (.slice x.a x.n x.c) (by rw [hgx]; rfl)
          have hk1 : rowK.k = 1 := rfl
          rw [hk1, Nat.mul_one, Nat.add_zero, Nat.zero_add] at cf
          have hown : Own w10 w3.heap.size x.v x.l := HH.own (hB x) (by rw [hR]; simp)
          have hxl : x.l = (S6.files.getD k ([], 0)).1 := by
            have h1 := congrArg (fun l => l.getD k []) HRE
            rw [files_get _ _ hkl, hR, ← hR1] at h1
            rw [← hR1, ← h1]
            simp
          have hln : x.l.length ≤ 1073741824 := by rw [hxl]; exact HLK.out
          have hxa : ∀ q, x.v.ownBlock = some q → q ≠ gF := fun q hq e => by
            have h1 := HH.two
            have h2 : (hG rowK 35 (.slice V6.af V6.nf V6.cf) R' :: R'.map hB).Sublist (partsH V6 S6 R') := .cons _ (.cons _ (.cons _ (.cons _ (List.Sublist.refl _))))
            have h3 := (List.pairwise_cons.1 (h1.sublist h2)).1 (hB x) (by rw [hR]; simp)
            refine h3 gF (by show (Value.slice V6.af V6.nf V6.cf).ownBlock = some gF; rw [hgF]; rfl) ?_
            show x.v.ownBlock = some gF
            rw [hq, e]
          have hxg : ∀ q, x.v.ownBlock = some q → w3.heap.size ≤ q := fun q hq => (World.ownsRow.lt hown q hq).1
          have HOX := Lib.hid (Own.mono hown (Nat.zero_le _))
          have HBB := Lib.hid (HBS.out.below HB10.out)
          obtain ⟨r, hr⟩ : ∃ r, r = x.l.length + n := ⟨_, rfl⟩
          have HR9' := Lib.hid hr
          have H48 := Lib.hid (show x.l.length + n ≤ 140737488355328 by have := HBM.out; omega)
          have HG3 := Lib.hid HL3.out
          obtain ⟨k0, k1, k2, k3, k4, k5, k6, k7, k8, k9⟩ := RBox.cells H10.out.1
          rw [hgF] at k2
          have ff := hfF k
          have hkn : (k : Int) < (V6.nf : Int) := by omega
          have HXA := Lib.hid hxa
          have HXG := Lib.hid hxg
          have HHH := Lib.hid HH
          have HXL := Lib.hid hxl
          have HBF := Lib.hid hbF
          have HRE2 := Lib.hid HRE
          have HKP := Lib.hid (show ∀ W, w10.grownBy W x.v.ownBlock → RBox W w.heap.size V6 (S6) ∧ RowAt W w1.heap.size 31 zeroD ∧ W.cell? ⟨gF, k, none⟩ = some (.slice x.a x.n x.c) ∧ W.frozen? ⟨gF, k, none⟩ = false ∧ Below w.heap.size w W from fun W hg => by
            have hb : W.heap[gF]? = w10.heap[gF]? := hg.block gF hlF (fun e => hxa gF e.symm rfl)
            refine ⟨H10.out.1.grown hg (fun e => ?_), H10.out.2.1.grown hg (fun e => ?_), (by unfold World.cell? at cf ⊢; rw [hb]; exact cf), (by unfold World.frozen? at ff ⊢; rw [hb]; exact ff), HB10.out.grown hg HB10.out.size (fun q hq => by have := hxg q hq; have := HG3.out.1; omega)⟩
            · have := hxg _ e.symm; have := HG3.out.1; omega
            · have := hxg _ e.symm; have := HG3.out.2; omega)
          clear hrow hRl hkl hnf hgx hown hln hxa hxg hxl hr HRE hbF HH k0 k1 k3 k4 k5 k6 k7 k8 k9
          go_wp2
          go_region_law ((refine step_app rfl _ _ rfl (.slice x.a x.n x.c) _ rfl HOX.out a n c b rfl HBB.out H48.out r HR9'.out ?_); intro a' c' w11 ho2 hg2 ht2; have KQ := Lib.hid (HKP.out w11 (grown_drew hg2)); have d2 := (RBox.cells KQ.out.1).2.2.1; rw [hgF] at d2; have d3 := KQ.out.2.2.1; have d4 := KQ.out.2.2.2.1; have HO2 := Lib.hid ho2; have HG2 := Lib.hid (grown_drew hg2); have HT2 := Lib.hid (told_drew ht2); clear ho2 hg2 ht2)
          all_goals
            have HH12 := Lib.hid (show Holds (w11.setCell ⟨gF, k, none⟩ (.slice a' r c')) w3.heap.size ([hG actK 81 (.slice V6.aa V6.na V6.ca) S6.acts, hG entK 67 (.slice V6.ak V6.nk V6.ck) S6.kept, hG entK 67 (.slice V6.an V6.nn V6.cn) S6.now, hG numK 3 (.slice V6.ay V6.ny V6.cy) (S6.files.map (fun x : FileD => x.2))] ++ hG rowK 35 (.slice (some ⟨gF, 0, none⟩) V6.nf V6.cf) (R1 ++ ⟨a', r, c', x.l ++ b⟩ :: R2) :: (R1 ++ ⟨a', r, c', x.l ++ b⟩ :: R2).map hB) by
              have h1 := HHH.out
              unfold partsH at h1
              rw [hgF, hR] at h1
              have h2 := put_rows (A := [hG actK 81 (.slice V6.aa V6.na V6.ca) S6.acts, hG entK 67 (.slice V6.ak V6.nk V6.ck) S6.kept, hG entK 67 (.slice V6.an V6.nn V6.cn) S6.now, hG numK 3 (.slice V6.ay V6.ny V6.cy) (S6.files.map (fun x : FileD => x.2))]) (x' := ⟨a', r, c', x.l ++ b⟩) h1 HG2.out HO2.out HT2.out H10.out.2.2.2
              rw [hR1] at h2
              exact h2)
            have HR12 := Lib.hid (show RBox (w11.setCell ⟨gF, k, none⟩ (.slice a' r c')) w.heap.size V6 { S6 with files := S6.files.modify k fun x => (x.1 ++ b, x.2) } from RowAt.other KQ.out.1 (show w.heap.size ≠ gF by have := HBF.out; have := HG3.out.1; omega) _)
            have HZ12 := Lib.hid (show RowAt (w11.setCell ⟨gF, k, none⟩ (.slice a' r c')) w1.heap.size 31 zeroD from RowAt.other KQ.out.2.1 (show w1.heap.size ≠ gF by have := HBF.out; have := HG3.out.2; omega) _)
            have HB12 := Lib.hid (show Below w.heap.size w (w11.setCell ⟨gF, k, none⟩ (.slice a' r c')) from KQ.out.2.2.2.2.setCell (show w.heap.size ≤ (⟨gF, k, none⟩ : Addr).block from (by show w.heap.size ≤ gF; have := HBF.out; have := HG3.out.1; omega)) _)
            clear d2 d3 d4
            generalize w11.setCell ⟨gF, k, none⟩ (.slice a' r c') = w12 at HH12 HR12 HZ12 HB12 ⊢
            go_wp2_with (first
              | (refine load_row rfl 31 _ rfl w.heap.size _ (refL V6 { S6 with files := S6.files.modify k fun x => (x.1 ++ b, x.2) }) _ rfl HR12.out Try.underlying31 rfl infoD ?_)
              | (refine store_row rfl 31 _ _ rfl w1.heap.size _ zeroD (refL V6 { S6 with files := S6.files.modify k fun x => (x.1 ++ b, x.2) }) rfl rfl HZ12.out rfl infoD (refL_one _ _) ?_; intro w20 hr20 hg20 _))
            have HFI := Lib.hid (HH12.out.grownLow HG3.out.2 hg20)
            have hfst : (R1 ++ ⟨a', r, c', x.l ++ b⟩ :: R2).map (·.l) = ({ S6 with files := S6.files.modify k fun x => (x.1 ++ b, x.2) } : DS).files.map (·.1) := by
              have h1 := HRE2.out
              rw [hR] at h1
              show _ = (S6.files.modify k _).map _
              rw [put_fst _ _ _ HKL.out, ← h1, ← HXL.out, ← hR1]
              simp
            have hsnd : ({ S6 with files := S6.files.modify k fun x => (x.1 ++ b, x.2) } : DS).files.map (fun x : FileD => x.2) = S6.files.map (fun x : FileD => x.2) := put_snd _ _ _
            have hfil : RowsR w20 V6.af V6.nf V6.cf (({ S6 with files := S6.files.modify k fun x => (x.1 ++ b, x.2) } : DS).files.map (fun x : FileD => x.1)) := by
              rw [hgF]
              exact rows_in HFI.out (by simp) (fun y hy => List.mem_append_right _ (List.mem_cons_of_mem _ (List.mem_map_of_mem hy))) hfst
            have hsyn : AtG numK w20 V6.ay V6.ny V6.cy (({ S6 with files := S6.files.modify k fun x => (x.1 ++ b, x.2) } : DS).files.map (fun x : FileD => x.2)) := by
              rw [hsnd]
              exact (HFI.out.gG (E := 3) (K := numK) (v := .slice V6.ay V6.ny V6.cy) (M := S6.files.map (fun x : FileD => x.2)) (fun _ => trivial) (by simp)).atG
            exact bodyPost_ret (results_ref2 rfl _ _ w1.heap.size V6 ({ S6 with files := S6.files.modify k fun x => (x.1 ++ b, x.2) } : DS) rfl hr20) rfl ⟨V6, by rw [HE.out]; rfl, HM6.out, HQ6.out, by rw [HE.out]; exact .inl (holds_far HFI.out (Nat.le_of_lt HL3.out.1) (fun W'' HFJ => ⟨(by rw [hgF]; exact rows_in HFJ (by simp) (fun y hy => List.mem_append_right _ (List.mem_cons_of_mem _ (List.mem_map_of_mem hy))) hfst), (by rw [hsnd]; exact (HFJ.gG (E := 3) (K := numK) (v := .slice V6.ay V6.ny V6.cy) (M := S6.files.map (fun x : FileD => x.2)) (fun _ => trivial) (by simp)).atG), (HFJ.gG (E := 67) (K := entK) (v := .slice V6.an V6.nn V6.cn) (M := S6.now) (fun _ => trivial) (by simp)).atG, (HFJ.gG (E := 67) (K := entK) (v := .slice V6.ak V6.nk V6.ck) (M := S6.kept) (fun _ => trivial) (by simp)).atG, (HFJ.gG (E := 81) (K := actK) (v := .slice V6.aa V6.na V6.ca) (M := S6.acts) (fun _ => trivial) (by simp)).atG⟩)), HB12.out.grown hg20 HB12.out.size (fun k hk => by cases hk; exact HW1.out)⟩
  · have HE := Lib.hid (appS_bad (b := b) hz h0)
    have hz0 : ((z : Int) == 0) = false := by simp; omega
    have hz1 : ((z : Int) != 0) = true := by simp; omega
    clear h hm hok hfew hz h0 har
    go_enter Try.func17, Try.ntmps17
    go_wp2_with (first
      | (refine box_row rfl 31 (.tmp 0) (refL V S) rfl rfl ?_; intro w1 hr1 hb1 hs1; have HB1 := Lib.hid hb1; have HR1 := Lib.hid hr1; have HS1 := Lib.hid hs1; clear hb1 hr1 hs1)
      | (refine alloc_row rfl 31 zeroD rfl zero_disk ?_; intro w2 hr2 hb2 hs2; have HB2 := Lib.hid (HB1.out.trans (hb2.mono HB1.out.size)); have HR2 := Lib.hid (RBox.below HR1.out hb2); have HZ2 := Lib.hid hr2; have HNE := Lib.hid (show w1.heap.size ≠ w.heap.size by have := HS1.out; omega); have HW1 := Lib.hid HB1.out.size; clear hr2 hb2 hs2)
      | (refine load_row rfl 31 _ rfl w.heap.size _ (refL V S) _ rfl HR3.out Try.underlying31 rfl infoD ?_)
      | (refine load_row rfl 31 _ rfl w.heap.size _ (refL V S) _ rfl HR2.out Try.underlying31 rfl infoD ?_)
      | (go_at_call 34; (with_reducible refine (P1.out _).mono ?_); rintro e w3 ⟨rfl, hb3⟩; have HB3 := Lib.hid (HB2.out.trans (hb3.mono HB2.out.size)); have HR3 := Lib.hid (RBox.below HR2.out hb3); have HZ3 := Lib.hid (RowAt.below HZ2.out hb3); have HI3 := Lib.hid (HI.out.below HB3.out); clear hb3)
      | (refine store_row rfl 31 _ _ rfl w1.heap.size _ zeroD (refL V S) rfl rfl HZ3.out rfl infoD (refL_one _ _) ?_; intro w9 hr9 hg9 _; have HB9 := Lib.hid (HB3.out.grown hg9 HB3.out.size (fun k hk => by cases hk; exact HW1.out))))
    exact bodyPost_ret (results_ref2 rfl _ _ w1.heap.size V S rfl hr9) rfl ⟨V, by rw [HE.out]; rfl, rfl, rfl, by rw [HE.out]; exact .inr ⟨rfl, fun _ h => h⟩, HB9.out⟩
#print axioms refAppend_any
end Go.Proofs.Ytemphljkfpkgmaa
