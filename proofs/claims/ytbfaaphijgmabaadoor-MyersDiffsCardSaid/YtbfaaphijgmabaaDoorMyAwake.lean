/-
  What the chapter's examples say.
-/
import Derived.Test.YtbfaaphijgmabaaDoorMySame
namespace Go.Proofs.YtbfaaphijgmabaaDoor
open Go.RowKit My

theorem scr_ex1 : scr [97, 98, 99] [97, 120, 99] = [1, 2, 3, 1] := by
  simp [scr_nn, scr_nil, dist_nn, dist_l, dist_r]
theorem scr_ex2 : scr [97, 97, 98] [97, 98] = [1, 2, 1] := by
  simp [scr_nn, scr_nil, dist_nn, dist_r]
theorem diff_ex1 : diffF [97, 98, 99] [97, 120, 99] = ([⟨1, 1, [120]⟩, ⟨1, 0, []⟩], 0) := by
  have h1 : runesF [97, 98, 99] = (some [97, 98, 99], 3) := by decide +kernel
  have h2 : runesF [97, 120, 99] = (some [97, 120, 99], 3) := by decide +kernel
  unfold diffF
  rw [h1, h2]
  have e1 : zs [97, 98, 99] = [97, 98, 99] := rfl
  have e2 : zs [97, 120, 99] = [97, 120, 99] := rfl
  show (if 4096 < 3 ∨ 4096 < 3 then (([], 2) : List EdV × Nat) else ((edits (scr (zs [97, 98, 99]) (zs [97, 120, 99])) (zs [97, 120, 99])).map ev, 0)) = _
  rw [if_neg (by decide), e1, e2, scr_ex1]
  rfl
theorem diff_ex2 : diffF [97, 97, 98] [97, 98] = ([⟨1, 1, []⟩, ⟨1, 0, []⟩], 0) := by
  have h1 : runesF [97, 97, 98] = (some [97, 97, 98], 3) := by decide +kernel
  have h2 : runesF [97, 98] = (some [97, 98], 2) := by decide +kernel
  unfold diffF
  rw [h1, h2]
  have e1 : zs [97, 97, 98] = [97, 97, 98] := rfl
  have e2 : zs [97, 98] = [97, 98] := rfl
  show (if 4096 < 3 ∨ 4096 < 2 then (([], 2) : List EdV × Nat) else ((edits (scr (zs [97, 97, 98]) (zs [97, 98])) (zs [97, 98])).map ev, 0)) = _
  rw [if_neg (by decide), e1, e2, scr_ex2]
  rfl
theorem mild_two (x y : EdV) (hx : x.d ≤ 1099511627776 ∧ x.s.length ≤ 20000000) (hy : y.d ≤ 1099511627776 ∧ y.s.length ≤ 20000000) : Mild [x, y] := ⟨by simp, fun z hz => by
  simp only [List.mem_cons, List.not_mem_nil, or_false] at hz
  rcases hz with rfl | rfl
  · exact hx.1
  · exact hy.1, fun z hz => by
  simp only [List.mem_cons, List.not_mem_nil, or_false] at hz
  rcases hz with rfl | rfl
  · exact hx.2
  · exact hy.2⟩
/-- Two edits in a block of their own. -/
theorem two_ed (w : World) (x y : EdV) : AtG edK (w.alloc (.cells (edC x ++ edC y).toArray 39)) (some ⟨w.heap.size, 0, none⟩) 2 2 [x, y] := by
  refine ⟨rfl, Nat.le_refl _, by omega, fun _ _ => trivial, .inr ⟨_, _, rfl, fun j hj i v hv => ?_⟩⟩
  have hr := RowAt.new w 39 (edC x ++ edC y)
  have hk : edK.k = 3 := rfl
  rw [Nat.zero_add, hk]
  have h2 : j = 0 ∨ j = 1 := by omega
  rcases h2 with rfl | rfl
  · have e : gd [x, y] 0 = x := rfl
    rw [e] at hv
    replace hv : (edC x)[i]? = some v := hv
    refine hr.cell _ ?_
    rw [List.getElem?_append_left (by have := (List.getElem?_eq_some_iff.1 hv).1; simpa using this)]
    rw [Nat.zero_mul, Nat.zero_add]; exact hv
  · have e : gd [x, y] 1 = y := rfl
    rw [e] at hv
    replace hv : (edC y)[i]? = some v := hv
    refine hr.cell _ ?_
    rw [List.getElem?_append_right (by simp)]
    simpa using hv
set_option maxRecDepth 100000 in
set_option maxHeartbeats 4000000 in
theorem awake_any (w : World) (hT : Tabs w) : Calls Tryd.prog 12 #[] w (BoolIs true w) := by
  have HT := Lib.hid hT
  have D1 := Lib.hid (diff_any ⟨#[97, 98, 99]⟩ ⟨#[97, 120, 99]⟩ w (by decide) (by decide) hT)
  have D2 := Lib.hid (fun W (hb : Below w.heap.size w W) => diff_any ⟨#[97, 97, 98]⟩ ⟨#[97, 98]⟩ W (by decide) (by decide) (hT.below hb))
  have x1 : diffF (ByteArray.mk #[97, 98, 99]).data.toList (ByteArray.mk #[97, 120, 99]).data.toList = ([⟨1, 1, [120]⟩, ⟨1, 0, []⟩], 0) := diff_ex1
  have x2 : diffF (ByteArray.mk #[97, 97, 98]).data.toList (ByteArray.mk #[97, 98]).data.toList = ([⟨1, 1, []⟩, ⟨1, 0, []⟩], 0) := diff_ex2
  rw [x1] at D1
  rw [x2] at D2
  have hcost : costV [⟨1, 1, [120]⟩, ⟨1, 0, []⟩] = 2 := by decide +kernel
  have HCO := Lib.hid hcost
  clear hT x1 x2 hcost
  go_enter Tryd.func12, Tryd.ntmps12
  go_wp2_with (first
    | (go_at_call 13; have Q1 := Q0; (refine (D2.out _ HB1.out).mono ?_); rintro en w2 ⟨a2, c2, rfl, ho2, hb2⟩; have HB2 := Lib.hid (HB1.out.trans (hb2.mono HB1.out.size)); have HO2 := Lib.hid ho2; have HO1b := Lib.hid (HO1.out.below hb2); clear ho2 hb2)
    | (go_at_call 13; (refine D1.out.mono ?_); rintro en w1 ⟨a1, c1, rfl, ho1, hb1⟩; have HB1 := Lib.hid hb1; have HO1 := Lib.hid ho1; have Q0 := trivial; clear ho1 hb1)
    | (go_at_call 15; have Q3 := Q2; (refine (same_yes16 a2 (some ⟨w3.heap.size, 0, none⟩) 2 c2 2 [⟨1, 1, []⟩, ⟨1, 0, []⟩] _ (HO2c.out.below ((Below.refl _ _).alloc (Nat.le_refl _) _)) (two_ed w3 ⟨1, 1, []⟩ ⟨1, 0, []⟩) (by decide)).mono ?_); rintro en w4 ⟨rfl, hb4⟩; have HB4 := Lib.hid (HB3.out.trans ((((Below.refl w3.heap.size w3).alloc (Nat.le_refl _) _).trans (hb4.mono (by simp))).mono HB3.out.size)); have HO1d := Lib.hid (HO1c.out.below (((Below.refl w3.heap.size w3).alloc (Nat.le_refl _) _).trans (hb4.mono (by simp)))); clear hb4)
    | (go_at_call 15; (refine (same_yes16 a1 (some ⟨w2.heap.size, 0, none⟩) 2 c1 2 [⟨1, 1, [120]⟩, ⟨1, 0, []⟩] _ (HO1b.out.below ((Below.refl _ _).alloc (Nat.le_refl _) _)) (two_ed w2 ⟨1, 1, [120]⟩ ⟨1, 0, []⟩) (by decide)).mono ?_); rintro en w3 ⟨rfl, hb3⟩; have HB3 := Lib.hid (HB2.out.trans ((((Below.refl w2.heap.size w2).alloc (Nat.le_refl _) _).trans (hb3.mono (by simp))).mono HB2.out.size)); have HO1c := Lib.hid (HO1b.out.below (((Below.refl w2.heap.size w2).alloc (Nat.le_refl _) _).trans (hb3.mono (by simp)))); have HO2c := Lib.hid (HO2.out.below (((Below.refl w2.heap.size w2).alloc (Nat.le_refl _) _).trans (hb3.mono (by simp)))); have Q2 := trivial; clear hb3)
    | (go_at_call 18; (refine (cost_any a1 2 c1 [⟨1, 1, [120]⟩, ⟨1, 0, []⟩] _ HO1d.out (mild_two _ _ (by decide) (by decide)) (HT.out.below HB4.out)).mono ?_); rintro en w5 ⟨he5, hb5⟩; rw [HCO.out] at he5; subst he5; have HB5 := Lib.hid (HB4.out.trans (hb5.mono HB4.out.size)); clear hb5))
  go_ret
  exact ⟨rfl, HB5.out⟩
#print axioms awake_any
end Go.Proofs.YtbfaaphijgmabaaDoor
