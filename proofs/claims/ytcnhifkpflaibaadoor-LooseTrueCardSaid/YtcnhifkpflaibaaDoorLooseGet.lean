/-
  The walks of Get, Has and Drop.
-/
import Derived.Test.YtcnhifkpflaibaaDoorLooseFns
namespace Go.Proofs.YtcnhifkpflaibaaDoor
open Go.RowKit Go.Maps

section
variable {w W : World} {F : Nat → Prop} {db : Nat} {S : DS}
/-- What Get answers. -/
def GetEnd (w W : World) (F : Nat → Prop) (db : Nat) (S : DS) (r : List UInt8 × Nat) (e : Ending) (W' : World) : Prop :=
  ∃ a n c, e = .returned (.tuple #[.slice a n c, .int .i64 (r.2 : Int)]) ∧ Safe F W' a n c r.1 ∧ Run w W' F db S ∧ Below W.heap.size W W'

set_option maxRecDepth 100000 in
set_option maxHeartbeats 2000000 in
theorem get_any (id : List UInt8) (hid : id.length = 32) (R : Run w W F db S) (hT : Tables w) {r : List UInt8 × Nat} (hr : getL sumF S id = r) :
    Calls Tryd.prog 14 #[Pt db, .agg (idCells id)] W (GetEnd w W F db S r) := by
  obtain ⟨s, hs⟩ : ∃ s, strB (fileN id) = s := ⟨_, rfl⟩
  have hb0 : Below W.heap.size W (W.alloc (.cells (idCells id) 35)) := (Below.refl _ _).alloc (Nat.le_refl _) _
  have hi0 := idAt_box W id hid
  have FA := Lib.hid (fun W' => file_any id hid W' hs)
  have R0 := Lib.hid (R.below hb0)
  have HT := Lib.hid hT
  have HB0 := Lib.hid hb0
  have HI := Lib.hid hid
  have HI0 := Lib.hid hi0
  have hsl : s.data.toList = fileN id := by rw [← hs, strB_list]
  obtain ⟨rr, hrr⟩ : ∃ rr, readS S (fileN id) = rr := ⟨_, rfl⟩
  have RD := Lib.hid (fun W' (R' : Run w W' F db S) => lo_read R' s (r := rr) (by rw [hsl]; exact hrr))
  have HLE := Lib.hid (show rr.1.length ≤ 1073741824 from by
    rw [← hrr]
    exact Nat.le_trans (read_le R.1.1 _) R.1.1.most)
  unfold getL at hr
  rw [hrr] at hr
  obtain ⟨b, z⟩ := rr
  simp only at hr RD HLE
  have HR := Lib.hid hr
  clear R hT hid hs hb0 hsl hrr hr
  by_cases h4 : z = 4
  · subst h4
    have HE := Lib.hid (show r = ([], 12) by have := HR.out; rw [if_pos rfl] at this; exact this.symm)
    go_enter Tryd.func14, Tryd.ntmps14
    go_wp2_with (first
      | (refine load_id rfl (.tmp 3) rfl _ _ rfl hi0 ?_)
      | (go_at_call 31; (with_reducible refine (FA.out _).mono ?_); rintro e w1 ⟨rfl, hb1⟩; have HB1 := Lib.hid hb1; have R1 := Lib.hid (R0.out.below hb1); clear hb1)
      | (go_at_call 30; (with_reducible refine (RD.out _ R1.out).mono ?_); rintro e w2 ⟨a2, n2, c2, rfl, hsf, hr2, hb2⟩; have HSF := Lib.hid hsf; have R2 := Lib.hid hr2; have HB2 := Lib.hid hb2; clear hsf hr2 hb2))
    go_ret2
    rw [HE.out]
    exact ⟨none, 0, 0, rfl, Safe.nil, R2.out, (HB0.out.trans (HB1.out.mono HB0.out.size)).trans (HB2.out.mono (Nat.le_trans HB0.out.size HB1.out.size))⟩
  by_cases h0 : z = 0
  · subst h0
    have HE := Lib.hid (show r = if sumF b = id then (b, 0) else ([], 12) by have := HR.out; rw [if_neg h4, if_neg (fun h => h rfl)] at this; exact this.symm)
    have SM := Lib.hid (fun (W' : World) (hb : Below w.heap.size w W') a n c (h : Bytes W' a n c b) => sum_box h (HT.out.below hb) (by have := HLE.out; omega) (id := sumF b) rfl)
    have HSL := Lib.hid (sumF_length b)
    clear h4
    go_enter Tryd.func14, Tryd.ntmps14
    go_wp2_with (first
      | (refine load_id rfl (.tmp 3) rfl _ _ rfl hi0 ?_)
      | (go_at_call 31; (with_reducible refine (FA.out _).mono ?_); rintro e w1 ⟨rfl, hb1⟩; have HB1 := Lib.hid hb1; have R1 := Lib.hid (R0.out.below hb1); clear hb1)
      | (go_at_call 30; (with_reducible refine (RD.out _ R1.out).mono ?_); rintro e w2 ⟨a2, n2, c2, rfl, hsf, hr2, hb2⟩; have HSF := Lib.hid hsf; have R2 := Lib.hid hr2; have HB2 := Lib.hid hb2; clear hsf hr2 hb2))
    have HI2 := Lib.hid ((HI0.out.below HB1.out).below HB2.out)
    obtain ⟨q, hq⟩ : ∃ q, decide (sumF b = id) = q := ⟨_, rfl⟩
    have HQ := Lib.hid hq
    clear hq
    refine wp_region_held_drew (S := fun W => Below w2.heap.size w2 W) (by kernel_rfl) (Below.refl _ _).drew (fun hHeld => ?_)
    refine wpAnyH_take (i := 0) (oi := ⟨some 18, .move (.tmp 7), _, _, _, _⟩) (v := (.int .i64 0)) rfl (by kernel_rfl) (by kernel_rfl) (by kernel_rfl) (fun _ _ _ h => h) (Or.inl ⟨by rfl, fun W hW => by go_simp⟩) (by assumption) ?_
    simp only [Act.put, List.setIfInBounds_toArray, List.set_cons_zero, List.set_cons_succ]
    refine wpAnyH_take (i := 1) (oi := ⟨some 19, .binOp .eql 36 (.tmp 18) (.const (.int .i64 0)) 36, _, _, _, _⟩) (v := (.bool true)) rfl (by kernel_rfl) (by kernel_rfl) (by kernel_rfl) (fun _ _ _ h => h) (Or.inl ⟨by rfl, fun W hW => by go_simp⟩) (by assumption) ?_
    simp only [Act.put, List.setIfInBounds_toArray, List.set_cons_zero, List.set_cons_succ]
    refine wpAnyH_take (i := 2) (oi := ⟨some 20, .move (.tmp 19), _, _, _, _⟩) (v := (.bool true)) rfl (by kernel_rfl) (by kernel_rfl) (by kernel_rfl) (fun _ _ _ h => h) (Or.inl ⟨by rfl, fun W hW => by go_simp⟩) (by assumption) ?_
    simp only [Act.put, List.setIfInBounds_toArray, List.set_cons_zero, List.set_cons_succ]
    refine wpAnyH_take (i := 3) (oi := ⟨some 21, .move (.tmp 6), _, _, _, _⟩) (v := (.slice a2 n2 c2)) rfl (by kernel_rfl) (by kernel_rfl) (by kernel_rfl) (fun _ _ _ h => h) (Or.inl ⟨by rfl, fun W hW => by go_simp⟩) (by assumption) ?_
    simp only [Act.put, List.setIfInBounds_toArray, List.set_cons_zero, List.set_cons_succ]
    refine wpAnyH_take (i := 6) (oi := ⟨some 24, .load 35 (.tmp 3), _, _, _, _⟩) (v := (.agg (idCells id))) rfl (by kernel_rfl) (by kernel_rfl) (by kernel_rfl) (fun _ _ _ h => h) (Or.inl ⟨by rfl, fun W hW => exec_loadId _ rfl _ _ _ HI.out rfl (HI2.out.below hW).range⟩) (by assumption) ?_
    simp only [Act.put, List.setIfInBounds_toArray, List.set_cons_zero, List.set_cons_succ]
    refine wpAnyH_ready (rs := [4]) (by kernel_rfl) (by simp) ?_
    refine AllReadyH.cons (o := ⟨some 22, .buildSlice 65 1 #[(0, (.tmp 21))], _, _, _, _⟩) rfl (fun K hK => ?_) AllReadyH.nil
    go_simp
    have HS2 := Lib.hid ((Below.refl w2.heap.size w2).drew.alloc (Nat.le_refl _) (.cells #[.slice a2 n2 c2] 23))
    refine hK.out _ _ HS2.out (fun hHeld => ?_)
    clear hK K
    refine wpAnyH_ready (rs := [5]) (by kernel_rfl) (by simp) ?_
    refine AllReadyH.cons (o := ⟨some 23, .call { callee := .value (.func 13), args := #[(.tmp 22)], argTypes := #[65] }, _, _, _, _⟩) rfl (fun K hK => ?_) AllReadyH.nil
    go_simp
    go_wp2_with (go_at_call 13; (refine (SM.out w2.drew R2.out.2.2.drew a2 n2 c2 HSF.out.1).mono ?_); rintro e w3 ⟨rfl, hb3⟩; have HB3 : Hid (Below w2.heap.size w2 w3) := Lib.hid ((Below.refl w2.heap.size w2).drew.trans hb3); clear hb3)
    refine hK.out _ _ HB3.out (fun hHeld => ?_)
    clear hK K
    refine wpAnyH_take (i := 7) (oi := ⟨some 25, .binOp .neq 35 (.tmp 23) (.tmp 24) 35, _, _, _, _⟩) (v := (.bool (!q))) rfl (by kernel_rfl) (by kernel_rfl) (by kernel_rfl) (fun _ _ _ h => h) (Or.inl ⟨by rfl, fun W hW => by rw [← HQ.out]; exact exec_neqId _ _ _ rfl _ _ HSL.out HI.out rfl rfl⟩) (by assumption) ?_
    simp only [Act.put, List.setIfInBounds_toArray, List.set_cons_zero, List.set_cons_succ]
    refine wpAnyH_take (i := 8) (oi := ⟨some 26, .pick (.tmp 20) (.tmp 25) (.const (.bool false)), _, _, _, _⟩) (v := (.bool (!q))) rfl (by kernel_rfl) (by kernel_rfl) (by kernel_rfl) (fun _ _ _ h => h) (Or.inl ⟨by rfl, fun W hW => by go_simp⟩) (by assumption) ?_
    simp only [Act.put, List.setIfInBounds_toArray, List.set_cons_zero, List.set_cons_succ]
    refine wpAnyH_take (i := 9) (oi := ⟨some 15, .assign (.tmp 26), _, _, _, _⟩) (v := (.bool (!q))) rfl (by kernel_rfl) (by kernel_rfl) (by kernel_rfl) (fun _ _ _ h => h) (Or.inl ⟨by rfl, fun W hW => by go_simp⟩) (by assumption) ?_
    simp only [Act.put, List.setIfInBounds_toArray, List.set_cons_zero, List.set_cons_succ]
    refine wpAnyH_done (by kernel_rfl) ?_ _
    have HBT := Lib.hid (((HB0.out.trans (HB1.out.mono HB0.out.size)).trans (HB2.out.mono (Nat.le_trans HB0.out.size HB1.out.size))).trans (HB3.out.mono (Nat.le_trans (Nat.le_trans HB0.out.size HB1.out.size) HB2.out.size)))
    cases q with
    | true =>
      go_wp2
      go_ret2
      rw [HE.out, if_pos (of_decide_eq_true HQ.out)]
      exact ⟨a2, n2, c2, rfl, HSF.out.below HB3.out, R2.out.below HB3.out, HBT.out⟩
    | false =>
      go_wp2
      go_ret2
      rw [HE.out, if_neg (of_decide_eq_false HQ.out)]
      exact ⟨none, 0, 0, rfl, Safe.nil, R2.out.below HB3.out, HBT.out⟩
  · have HE := Lib.hid (show r = ([], z) by have := HR.out; rw [if_neg h4, if_pos h0] at this; exact this.symm)
    have g4 : ((z : Int) == 4) = false := by simp; omega
    have g0 : ((z : Int) == 0) = false := by simp; omega
    have g1 : ((z : Int) != 0) = true := by simp; omega
    clear h4 h0
    go_enter Tryd.func14, Tryd.ntmps14
    go_wp2_with (first
      | (refine load_id rfl (.tmp 3) rfl _ _ rfl hi0 ?_)
      | (go_at_call 31; (with_reducible refine (FA.out _).mono ?_); rintro e w1 ⟨rfl, hb1⟩; have HB1 := Lib.hid hb1; have R1 := Lib.hid (R0.out.below hb1); clear hb1)
      | (go_at_call 30; (with_reducible refine (RD.out _ R1.out).mono ?_); rintro e w2 ⟨a2, n2, c2, rfl, hsf, hr2, hb2⟩; have HSF := Lib.hid hsf; have R2 := Lib.hid hr2; have HB2 := Lib.hid hb2; clear hsf hr2 hb2))
    go_quiet (fail)
    go_wp2
    go_ret2
    rw [HE.out]
    have hbq : Below w2.heap.size w2 (w2.drewN nq) := ⟨rfl, rfl, rfl, Nat.le_refl _, fun _ _ => rfl⟩
    exact ⟨none, 0, 0, rfl, Safe.nil, R2.out.below hbq, ((HB0.out.trans (HB1.out.mono HB0.out.size)).trans (HB2.out.mono (Nat.le_trans HB0.out.size HB1.out.size))).trans (hbq.mono (Nat.le_trans (Nat.le_trans HB0.out.size HB1.out.size) HB2.out.size))⟩
#print axioms get_any
end
end Go.Proofs.YtcnhifkpflaibaaDoor
