/-
  The law DeltaMakes, walked.
-/
import Derived.Test.YtheigemfbcgjcaaDlLaws
import Derived.Deep.RegionHeld3
namespace Go.Proofs.Ytheigemfbcgjcaa
open Go.RowKit Go.Lib

set_option maxRecDepth 100000 in
set_option maxHeartbeats 2000000 in
theorem deltaMakes_any (a a' : Option Addr) (n c n' c' : Nat) (b t : List UInt8) (w : World) (h : Bytes w a n c b) (h' : Bytes w a' n' c' t) :
    Calls Try.prog 3 #[.slice a n c, .slice a' n' c'] w fun e w' => e = .returned (.bool true) ∧ Below w.heap.size w w' := by
  have HA := Lib.hid h
  have HT := Lib.hid h'
  have HL : Hid (b.length = n ∧ t.length = n') := Lib.hid ⟨h.1, h'.1⟩
  clear h h'
  by_cases hbig : (300 : Int) < (n : Int)
  · have d1 : decide ((300 : Int) < (n : Int)) = true := decide_eq_true hbig
    go_enter Try.func3, Try.ntmps3
    go_wp2
    go_ret
    exact ⟨rfl, Below.refl _ _⟩
  · have d1 : decide ((300 : Int) < (n : Int)) = false := decide_eq_false hbig
    have d1n : decide (300 < n) = false := decide_eq_false (by omega)
    by_cases hbig2 : (300 : Int) < (n' : Int)
    · have d2 : decide ((300 : Int) < (n' : Int)) = true := decide_eq_true hbig2
      go_enter Try.func3, Try.ntmps3
      go_wp2
      go_ret
      exact ⟨rfl, Below.refl _ _⟩
    · have d2 : decide ((300 : Int) < (n' : Int)) = false := decide_eq_false hbig2
      have d2n : decide (300 < n') = false := decide_eq_false (by omega)
      have HN : Hid (n ≤ 300 ∧ n' ≤ 300) := Lib.hid ⟨by omega, by omega⟩
      obtain ⟨D, hD⟩ : ∃ D, makeF b t = D := ⟨_, rfl⟩
      have HDE := Lib.hid hD
      have hsq := strB_self D
      clear hD hbig hbig2
      go_enter Try.func3, Try.ntmps3
      go_wp2_with fail
      have HB0 : Hid (Below w.heap.size w w.drew) := Lib.hid (Below.refl _ _).drew
      have HA0 := Lib.hid (HA.out.below HB0.out)
      refine wp_region_held_drew (S := fun _ => True) (by kernel_rfl) trivial (fun hHeld => ?_)
      generalize w.drew = w0 at HB0 HA0 hHeld ⊢
      refine wpAnyH_take (i := 0) (oi := ⟨some 13, .move (.tmp 0), _, _, _, _⟩) (v := (.slice a n c)) rfl (by kernel_rfl) (by kernel_rfl) (by kernel_rfl) (fun _ _ _ h => h) (Or.inl ⟨by rfl, fun W hW => by go_simp⟩) (by assumption) ?_
      simp only [Act.put, List.setIfInBounds_toArray, List.set_cons_zero, List.set_cons_succ]
      refine wpAnyH_take (i := 2) (oi := ⟨some 15, .move (.tmp 1), _, _, _, _⟩) (v := (.slice a' n' c')) rfl (by kernel_rfl) (by kernel_rfl) (by kernel_rfl) (fun _ _ _ h => h) (Or.inl ⟨by rfl, fun W hW => by go_simp⟩) (by assumption) ?_
      simp only [Act.put, List.setIfInBounds_toArray, List.set_cons_zero, List.set_cons_succ]
      refine wpAnyH_take (i := 6) (oi := ⟨some 19, .move (.tmp 0), _, _, _, _⟩) (v := (.slice a n c)) rfl (by kernel_rfl) (by kernel_rfl) (by kernel_rfl) (fun _ _ _ h => h) (Or.inl ⟨by rfl, fun W hW => by go_simp⟩) (by assumption) ?_
      simp only [Act.put, List.setIfInBounds_toArray, List.set_cons_zero, List.set_cons_succ]
      refine wpAnyH_take (i := 7) (oi := ⟨some 20, .move (.tmp 1), _, _, _, _⟩) (v := (.slice a' n' c')) rfl (by kernel_rfl) (by kernel_rfl) (by kernel_rfl) (fun _ _ _ h => h) (Or.inl ⟨by rfl, fun W hW => by go_simp⟩) (by assumption) ?_
      simp only [Act.put, List.setIfInBounds_toArray, List.set_cons_zero, List.set_cons_succ]
      refine wpAnyH_ready (rs := [1]) (by kernel_rfl) (by simp) ?_
      refine AllReadyH.cons (o := ⟨some 14, .call { callee := .value (.func 9), args := #[(.tmp 13)], argTypes := #[22] }, _, _, _, _⟩) rfl (fun K hK => ?_) AllReadyH.nil
      go_simp
      refine (copy_any a n c b w0 HA0.out (by have h1 := HL.out; have h2 := HN.out; omega)).mono ?_
      rintro e w1 ⟨a1, n1, c1, rfl, ho, hb⟩
      have HO1 := Lib.hid ho.isBytes
      have HB1 := Lib.hid (HB0.out.trans (hb.mono HB0.out.size))
      clear ho hb
      refine hK.out _ _ trivial (fun hHeld => ?_)
      clear hK K
      refine wpAnyH_ready (rs := [3]) (by kernel_rfl) (by simp) ?_
      refine AllReadyH.cons (o := ⟨some 16, .call { callee := .value (.func 9), args := #[(.tmp 15)], argTypes := #[22] }, _, _, _, _⟩) rfl (fun K hK => ?_) AllReadyH.nil
      go_simp
      refine (copy_any a' n' c' t w1 (HT.out.below HB1.out) (by have h1 := HL.out; have h2 := HN.out; omega)).mono ?_
      rintro e w2 ⟨a2, n2, c2, rfl, ho, hb⟩
      have HO2 := Lib.hid ho.isBytes
      have HP2 := Lib.hid (HO1.out.below hb)
      have HB2 := Lib.hid (HB1.out.trans (hb.mono HB1.out.size))
      clear ho hb
      refine hK.out _ _ trivial (fun hHeld => ?_)
      clear hK K
      refine wpAnyH_ready (rs := [4]) (by kernel_rfl) (by simp) ?_
      refine AllReadyH.cons (o := ⟨some 17, .call { callee := .value (.func 8), args := #[(.tmp 14), (.tmp 16)], argTypes := #[22, 22] }, _, _, _, _⟩) rfl (fun K hK => ?_) AllReadyH.nil
      go_simp
      refine (make_any _ _ _ _ _ _ b t w2 HP2.out HO2.out (by have h1 := HP2.out.1; have h2 := HL.out; have h3 := HN.out; omega) (by have h1 := HO2.out.1; have h2 := HL.out; have h3 := HN.out; omega)).mono ?_
      rintro e w3 ⟨a3, n3, c3, rfl, ho, hb⟩
      rw [HDE.out] at ho
      have HO3 := Lib.hid ho.isBytes
      have HB3 := Lib.hid (HB2.out.trans (hb.mono HB2.out.size))
      clear ho hb
      refine hK.out _ _ trivial (fun hHeld => ?_)
      clear hK K
      refine wpAnyH_ready (rs := [5, 8]) (by kernel_rfl) (by simp) ?_
      refine AllReadyH.cons (o := ⟨some 18, .convert 22 9 (.tmp 17), _, _, _, _⟩) rfl (fun K hK => ?_) (AllReadyH.cons (o := ⟨some 21, .call { callee := .value (.func 10), args := #[(.tmp 19), (.tmp 20)], argTypes := #[22, 22] }, _, _, _, _⟩) rfl (fun K hK => ?_) AllReadyH.nil)
      · have hs := run_str (HO3.out) 9 Try.underlying9
        refine wready ?_
        go_simp
        clear hs
        refine hK.out _ _ trivial (fun hHeld => ?_)
        clear hK K
        refine wpAnyH_ready (rs := [8]) (by kernel_rfl) (by simp) ?_
        refine AllReadyH.cons (o := ⟨some 21, .call { callee := .value (.func 10), args := #[(.tmp 19), (.tmp 20)], argTypes := #[22, 22] }, _, _, _, _⟩) rfl (fun K hK => ?_) AllReadyH.nil
        go_simp
        refine (refMake_any _ _ _ _ _ _ b t w3 (HA.out.below HB3.out) (HT.out.below HB3.out) (by have := HN.out; omega) (by have := HN.out; omega)).mono ?_
        rintro e w4 ⟨a4, n4, c4, rfl, ho, hb⟩
        rw [HDE.out] at ho
        have HO4 := Lib.hid ho.isBytes
        have HP4 := Lib.hid (HO3.out.below hb)
        have HB4 := Lib.hid (HB3.out.trans (hb.mono HB3.out.size))
        clear ho hb
        refine hK.out _ _ trivial (fun hHeld => ?_)
        clear hK K
        refine wpAnyH_ready (rs := [9]) (by kernel_rfl) (by simp) ?_
        refine AllReadyH.cons (o := ⟨some 22, .convert 22 9 (.tmp 21), _, _, _, _⟩) rfl (fun K hK => ?_) AllReadyH.nil
        have hs := run_str (HO4.out) 9 Try.underlying9
        refine wready ?_
        go_simp
        clear hs
        refine hK.out _ _ trivial (fun hHeld => ?_)
        clear hK K
        refine wpAnyH_take (i := 10) (oi := ⟨some 23, .binOp .eql 9 (.tmp 18) (.tmp 22) 9, _, _, _, _⟩) (v := (.bool true)) rfl (by kernel_rfl) (by kernel_rfl) (by kernel_rfl) (fun _ _ _ h => h) (Or.inl ⟨by rfl, fun W hW => by go_simp⟩) (by assumption) ?_
        simp only [Act.put, List.setIfInBounds_toArray, List.set_cons_zero, List.set_cons_succ]
        refine wpAnyH_take (i := 11) (oi := ⟨some 24, .move (.tmp 23), _, _, _, _⟩) (v := (.bool true)) rfl (by kernel_rfl) (by kernel_rfl) (by kernel_rfl) (fun _ _ _ h => h) (Or.inl ⟨by rfl, fun W hW => by go_simp⟩) (by assumption) ?_
        simp only [Act.put, List.setIfInBounds_toArray, List.set_cons_zero, List.set_cons_succ]
        refine wpAnyH_ready (rs := [12]) (by kernel_rfl) (by simp) ?_
        refine AllReadyH.cons (o := ⟨some 25, .call { callee := .value (.func 11), args := #[], argTypes := #[] }, _, _, _, _⟩) rfl (fun K hK => ?_) AllReadyH.nil
        go_simp
        refine (aw_below HB4.out).mono ?_
        rintro e w5 ⟨rfl, hb⟩
        have HB5 := Lib.hid hb
        clear hb
        refine hK.out _ _ trivial (fun hHeld => ?_)
        clear hK K
        refine wpAnyH_take (i := 13) (oi := ⟨some 26, .pick (.tmp 24) (.tmp 25) (.const (.bool false)), _, _, _, _⟩) (v := (.bool true)) rfl (by kernel_rfl) (by kernel_rfl) (by kernel_rfl) (fun _ _ _ h => h) (Or.inl ⟨by rfl, fun W hW => by go_simp⟩) (by assumption) ?_
        simp only [Act.put, List.setIfInBounds_toArray, List.set_cons_zero, List.set_cons_succ]
        refine wpAnyH_take (i := 14) (oi := ⟨some 4, .assign (.tmp 26), _, _, _, _⟩) (v := (.bool true)) rfl (by kernel_rfl) (by kernel_rfl) (by kernel_rfl) (fun _ _ _ h => h) (Or.inl ⟨by rfl, fun W hW => by go_simp⟩) (by assumption) ?_
        simp only [Act.put, List.setIfInBounds_toArray, List.set_cons_zero, List.set_cons_succ]
        refine wpAnyH_done (by kernel_rfl) ?_ _
        clear hHeld
        go_wp2
        go_ret
        exact ⟨rfl, HB5.out⟩
      · go_simp
        refine (refMake_any _ _ _ _ _ _ b t w3 (HA.out.below HB3.out) (HT.out.below HB3.out) (by have := HN.out; omega) (by have := HN.out; omega)).mono ?_
        rintro e w4 ⟨a4, n4, c4, rfl, ho, hb⟩
        rw [HDE.out] at ho
        have HO4 := Lib.hid ho.isBytes
        have HP4 := Lib.hid (HO3.out.below hb)
        have HB4 := Lib.hid (HB3.out.trans (hb.mono HB3.out.size))
        clear ho hb
        refine hK.out _ _ trivial (fun hHeld => ?_)
        clear hK K
        refine wpAnyH_ready (rs := [5, 9]) (by kernel_rfl) (by simp) ?_
        refine AllReadyH.cons (o := ⟨some 18, .convert 22 9 (.tmp 17), _, _, _, _⟩) rfl (fun K hK => ?_) (AllReadyH.cons (o := ⟨some 22, .convert 22 9 (.tmp 21), _, _, _, _⟩) rfl (fun K hK => ?_) AllReadyH.nil)
        · have hs := run_str (HP4.out) 9 Try.underlying9
          refine wready ?_
          go_simp
          clear hs
          refine hK.out _ _ trivial (fun hHeld => ?_)
          clear hK K
          refine wpAnyH_ready (rs := [9]) (by kernel_rfl) (by simp) ?_
          refine AllReadyH.cons (o := ⟨some 22, .convert 22 9 (.tmp 21), _, _, _, _⟩) rfl (fun K hK => ?_) AllReadyH.nil
          have hs := run_str (HO4.out) 9 Try.underlying9
          refine wready ?_
          go_simp
          clear hs
          refine hK.out _ _ trivial (fun hHeld => ?_)
          clear hK K
          refine wpAnyH_take (i := 10) (oi := ⟨some 23, .binOp .eql 9 (.tmp 18) (.tmp 22) 9, _, _, _, _⟩) (v := (.bool true)) rfl (by kernel_rfl) (by kernel_rfl) (by kernel_rfl) (fun _ _ _ h => h) (Or.inl ⟨by rfl, fun W hW => by go_simp⟩) (by assumption) ?_
          simp only [Act.put, List.setIfInBounds_toArray, List.set_cons_zero, List.set_cons_succ]
          refine wpAnyH_take (i := 11) (oi := ⟨some 24, .move (.tmp 23), _, _, _, _⟩) (v := (.bool true)) rfl (by kernel_rfl) (by kernel_rfl) (by kernel_rfl) (fun _ _ _ h => h) (Or.inl ⟨by rfl, fun W hW => by go_simp⟩) (by assumption) ?_
          simp only [Act.put, List.setIfInBounds_toArray, List.set_cons_zero, List.set_cons_succ]
          refine wpAnyH_ready (rs := [12]) (by kernel_rfl) (by simp) ?_
          refine AllReadyH.cons (o := ⟨some 25, .call { callee := .value (.func 11), args := #[], argTypes := #[] }, _, _, _, _⟩) rfl (fun K hK => ?_) AllReadyH.nil
          go_simp
          refine (aw_below HB4.out).mono ?_
          rintro e w5 ⟨rfl, hb⟩
          have HB5 := Lib.hid hb
          clear hb
          refine hK.out _ _ trivial (fun hHeld => ?_)
          clear hK K
          refine wpAnyH_take (i := 13) (oi := ⟨some 26, .pick (.tmp 24) (.tmp 25) (.const (.bool false)), _, _, _, _⟩) (v := (.bool true)) rfl (by kernel_rfl) (by kernel_rfl) (by kernel_rfl) (fun _ _ _ h => h) (Or.inl ⟨by rfl, fun W hW => by go_simp⟩) (by assumption) ?_
          simp only [Act.put, List.setIfInBounds_toArray, List.set_cons_zero, List.set_cons_succ]
          refine wpAnyH_take (i := 14) (oi := ⟨some 4, .assign (.tmp 26), _, _, _, _⟩) (v := (.bool true)) rfl (by kernel_rfl) (by kernel_rfl) (by kernel_rfl) (fun _ _ _ h => h) (Or.inl ⟨by rfl, fun W hW => by go_simp⟩) (by assumption) ?_
          simp only [Act.put, List.setIfInBounds_toArray, List.set_cons_zero, List.set_cons_succ]
          refine wpAnyH_done (by kernel_rfl) ?_ _
          clear hHeld
          go_wp2
          go_ret
          exact ⟨rfl, HB5.out⟩
        · have hs := run_str (HO4.out) 9 Try.underlying9
          refine wready ?_
          go_simp
          clear hs
          refine hK.out _ _ trivial (fun hHeld => ?_)
          clear hK K
          refine wpAnyH_ready (rs := [5]) (by kernel_rfl) (by simp) ?_
          refine AllReadyH.cons (o := ⟨some 18, .convert 22 9 (.tmp 17), _, _, _, _⟩) rfl (fun K hK => ?_) AllReadyH.nil
          have hs := run_str (HP4.out) 9 Try.underlying9
          refine wready ?_
          go_simp
          clear hs
          refine hK.out _ _ trivial (fun hHeld => ?_)
          clear hK K
          refine wpAnyH_take (i := 10) (oi := ⟨some 23, .binOp .eql 9 (.tmp 18) (.tmp 22) 9, _, _, _, _⟩) (v := (.bool true)) rfl (by kernel_rfl) (by kernel_rfl) (by kernel_rfl) (fun _ _ _ h => h) (Or.inl ⟨by rfl, fun W hW => by go_simp⟩) (by assumption) ?_
          simp only [Act.put, List.setIfInBounds_toArray, List.set_cons_zero, List.set_cons_succ]
          refine wpAnyH_take (i := 11) (oi := ⟨some 24, .move (.tmp 23), _, _, _, _⟩) (v := (.bool true)) rfl (by kernel_rfl) (by kernel_rfl) (by kernel_rfl) (fun _ _ _ h => h) (Or.inl ⟨by rfl, fun W hW => by go_simp⟩) (by assumption) ?_
          simp only [Act.put, List.setIfInBounds_toArray, List.set_cons_zero, List.set_cons_succ]
          refine wpAnyH_ready (rs := [12]) (by kernel_rfl) (by simp) ?_
          refine AllReadyH.cons (o := ⟨some 25, .call { callee := .value (.func 11), args := #[], argTypes := #[] }, _, _, _, _⟩) rfl (fun K hK => ?_) AllReadyH.nil
          go_simp
          refine (aw_below HB4.out).mono ?_
          rintro e w5 ⟨rfl, hb⟩
          have HB5 := Lib.hid hb
          clear hb
          refine hK.out _ _ trivial (fun hHeld => ?_)
          clear hK K
          refine wpAnyH_take (i := 13) (oi := ⟨some 26, .pick (.tmp 24) (.tmp 25) (.const (.bool false)), _, _, _, _⟩) (v := (.bool true)) rfl (by kernel_rfl) (by kernel_rfl) (by kernel_rfl) (fun _ _ _ h => h) (Or.inl ⟨by rfl, fun W hW => by go_simp⟩) (by assumption) ?_
          simp only [Act.put, List.setIfInBounds_toArray, List.set_cons_zero, List.set_cons_succ]
          refine wpAnyH_take (i := 14) (oi := ⟨some 4, .assign (.tmp 26), _, _, _, _⟩) (v := (.bool true)) rfl (by kernel_rfl) (by kernel_rfl) (by kernel_rfl) (fun _ _ _ h => h) (Or.inl ⟨by rfl, fun W hW => by go_simp⟩) (by assumption) ?_
          simp only [Act.put, List.setIfInBounds_toArray, List.set_cons_zero, List.set_cons_succ]
          refine wpAnyH_done (by kernel_rfl) ?_ _
          clear hHeld
          go_wp2
          go_ret
          exact ⟨rfl, HB5.out⟩
#print axioms deltaMakes_any
end Go.Proofs.Ytheigemfbcgjcaa
