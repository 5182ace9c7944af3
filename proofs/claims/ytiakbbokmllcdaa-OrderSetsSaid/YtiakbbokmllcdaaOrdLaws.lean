/-
  The walks of the laws OrderSorts and OrderMixes.
-/
import Derived.Test.YtiakbbokmllcdaaIdPart
namespace Go.Proofs.Ytiakbbokmllcdaa
open Go.RowKit

/-- What a call answers: a slice of ids. -/
def Ids1 (q : Nat) (L : List (List UInt8)) (w : World) (e : Ending) (w' : World) : Prop := ∃ a1 c1, e = .returned (.slice a1 q c1) ∧ IdsAt w' a1 q c1 L ∧ Below w.heap.size w w'
theorem MadeI.to {w w' : World} {L : List (List UInt8)} {e : Ending} {q : Nat} (h : MadeI w L e w') (hq : q = L.length) : Ids1 q L w e w' := by
  obtain ⟨a, n, c, rfl, ho, hb⟩ := h
  have h1 := ho.isIds
  obtain rfl : q = n := hq.trans h1.1
  exact ⟨a, c, rfl, h1, hb⟩

theorem sort_to (a : Option Addr) (n c : Nat) (l L : List (List UInt8)) (q : Nat) (w : World) (ha : IdsAt w a n c l) (hn : n ≤ 1000000) (hL : L = sortF l) (hq : q = L.length) : Calls Try.prog 17 #[.slice a n c] w (Ids1 q L w) := by
  subst hL hq
  refine (sort_any a n c l w ha (by omega)).mono ?_
  rintro e w' ⟨a1, c1, rfl, h1, h2, _⟩
  exact ⟨a1, c1, rfl, h1, h2⟩
theorem set_to (a : Option Addr) (n c : Nat) (l L : List (List UInt8)) (q : Nat) (w : World) (ha : IdsAt w a n c l) (hn : n ≤ 1000000) (hL : L = setF l) (hq : q = L.length) : Calls Try.prog 20 #[.slice a n c] w (Ids1 q L w) :=
  set_of a n c q l L w w ha (by omega) hL hq (Below.refl _ _)
theorem copy_to (a : Option Addr) (n c : Nat) (l : List (List UInt8)) (w : World) (ha : IdsAt w a n c l) (hn : n ≤ 1000000) : Calls Try.prog 18 #[.slice a n c] w (Ids1 n l w) := copy_at a n c l w ha (by omega)
theorem refSort_to (a : Option Addr) (n c : Nat) (l L : List (List UInt8)) (q : Nat) (w : World) (ha : IdsAt w a n c l) (hn : n ≤ 1000000) (hL : L = sortF l) (hq : q = L.length) : Calls Try.prog 19 #[.slice a n c] w (Ids1 q L w) := by
  subst hL
  exact (refSort_any a n c l w ha (by omega)).mono fun e w' h => h.to hq
theorem refSet_to (a : Option Addr) (n c : Nat) (l L : List (List UInt8)) (q : Nat) (w : World) (ha : IdsAt w a n c l) (hn : n ≤ 1000000) (hL : L = setF l) (hq : q = L.length) : Calls Try.prog 21 #[.slice a n c] w (Ids1 q L w) := by
  subst hL
  exact (refSet_any a n c l w ha (by omega)).mono fun e w' h => h.to hq
theorem union_to (a : Option Addr) (n c : Nat) (l : List (List UInt8)) (b : Option Addr) (m d : Nat) (k L : List (List UInt8)) (q : Nat) (w : World) (ha : IdsAt w a n c l) (hb : IdsAt w b m d k) (hn : n ≤ 100000) (hm : m ≤ 100000) (hL : L = setF (l ++ k)) (hq : q = L.length) : Calls Try.prog 29 #[.slice a n c, .slice b m d] w (Ids1 q L w) := by
  subst hL
  exact union_any a n c l b m d k q w ha hb hn hm hq
theorem refUnion_to (a : Option Addr) (n c : Nat) (l : List (List UInt8)) (b : Option Addr) (m d : Nat) (k L : List (List UInt8)) (q : Nat) (w : World) (ha : IdsAt w a n c l) (hb : IdsAt w b m d k) (hn : n ≤ 100000) (hm : m ≤ 100000) (hL : L = setF (l ++ k)) (hq : q = L.length) : Calls Try.prog 30 #[.slice a n c, .slice b m d] w (Ids1 q L w) := by
  subst hL
  exact (refUnion_any a n c l b m d k w ha hb hn hm).mono fun e w' h => h.to hq
theorem minus_to (a : Option Addr) (n c : Nat) (l : List (List UInt8)) (b : Option Addr) (m d : Nat) (k L : List (List UInt8)) (q : Nat) (w : World) (ha : IdsAt w a n c l) (hb : IdsAt w b m d k) (hn : n ≤ 100000) (hm : m ≤ 100000) (hL : L = setF (inF k false l)) (hq : q = L.length) : Calls Try.prog 31 #[.slice a n c, .slice b m d] w (Ids1 q L w) :=
  minus_any a n c l b m d k L q w ha hb (by omega) (by omega) hL hq
theorem refMinus_to (a : Option Addr) (n c : Nat) (l : List (List UInt8)) (b : Option Addr) (m d : Nat) (k L : List (List UInt8)) (q : Nat) (w : World) (ha : IdsAt w a n c l) (hb : IdsAt w b m d k) (hn : n ≤ 100000) (hm : m ≤ 100000) (hL : L = setF (inF k false l)) (hq : q = L.length) : Calls Try.prog 32 #[.slice a n c, .slice b m d] w (Ids1 q L w) := by
  subst hL
  exact (refMinus_any a n c l b m d k w ha hb (by omega) (by omega)).mono fun e w' h => h.to hq
theorem both_to (a : Option Addr) (n c : Nat) (l : List (List UInt8)) (b : Option Addr) (m d : Nat) (k L : List (List UInt8)) (q : Nat) (w : World) (ha : IdsAt w a n c l) (hb : IdsAt w b m d k) (hn : n ≤ 100000) (hm : m ≤ 100000) (hL : L = setF (inF k true l)) (hq : q = L.length) : Calls Try.prog 33 #[.slice a n c, .slice b m d] w (Ids1 q L w) :=
  both_any a n c l b m d k L q w ha hb (by omega) (by omega) hL hq
theorem refBoth_to (a : Option Addr) (n c : Nat) (l : List (List UInt8)) (b : Option Addr) (m d : Nat) (k L : List (List UInt8)) (q : Nat) (w : World) (ha : IdsAt w a n c l) (hb : IdsAt w b m d k) (hn : n ≤ 100000) (hm : m ≤ 100000) (hL : L = setF (inF k true l)) (hq : q = L.length) : Calls Try.prog 34 #[.slice a n c, .slice b m d] w (Ids1 q L w) := by
  subst hL
  exact (refBoth_any a n c l b m d k w ha hb (by omega) (by omega)).mono fun e w' h => h.to hq

/-- What a call answers: yes. -/
def Yes (w : World) (e : Ending) (w' : World) : Prop := e = .returned (.bool true) ∧ Below w.heap.size w w'
theorem same_yes (a : Option Addr) (n c : Nat) (l : List (List UInt8)) (b : Option Addr) (m d : Nat) (k : List (List UInt8)) (w : World) (ha : IdsAt w a n c l) (hb : IdsAt w b m d k) (h : l = k) (hn : n ≤ 1000000) : Calls Try.prog 16 #[.slice a n c, .slice b m d] w (Yes w) := by
  refine (same_any a n c l b m d k w ha hb (by omega)).mono ?_
  rintro e w' ⟨rfl, h1⟩
  rw [decide_eq_true h]
  exact ⟨rfl, h1⟩
theorem isSet_of (a : Option Addr) (n c : Nat) (l : List (List UInt8)) (s : Bool) (w : World) (ha : IdsAt w a n c l) (hn : n ≤ 1000000) (hs : s = isSetF l) : Calls Try.prog 22 #[.slice a n c] w fun e w' => e = .returned (.bool s) ∧ Below w.heap.size w w' := by
  subst hs
  exact isSet_any a n c l w ha (by omega)
theorem refIsSet_of (a : Option Addr) (n c : Nat) (l : List (List UInt8)) (s : Bool) (w : World) (ha : IdsAt w a n c l) (hn : n ≤ 1000000) (hs : s = isSetF l) : Calls Try.prog 23 #[.slice a n c] w fun e w' => e = .returned (.bool s) ∧ Below w.heap.size w w' := by
  subst hs
  exact refIsSet_any a n c l w ha (by omega)

set_option maxRecDepth 100000 in
set_option maxHeartbeats 2000000 in
theorem ordSorts_any (a : Option Addr) (n c : Nat) (l : List (List UInt8)) (w : World) (ha : IdsAt w a n c l) :
    Calls Try.prog 4 #[.slice a n c] w fun e w' => e = .returned (.bool true) ∧ Below w.heap.size w w' := by
  have HA := Lib.hid ha
  have HLN := Lib.hid ha.1
  by_cases hn : (n : Int) ≤ 300
  · obtain ⟨L, hL⟩ : ∃ L, L = sortF l := ⟨_, rfl⟩
    obtain ⟨M, hM⟩ : ∃ M, M = setF l := ⟨_, rfl⟩
    obtain ⟨q, hq⟩ : ∃ q, q = L.length := ⟨_, rfl⟩
    obtain ⟨r, hr⟩ : ∃ r, r = M.length := ⟨_, rfl⟩
    obtain ⟨s, hs⟩ : ∃ s, s = isSetF l := ⟨_, rfl⟩
    have HL := Lib.hid hL
    have HM := Lib.hid hM
    have HQ := Lib.hid hq
    have HR := Lib.hid hr
    have HS := Lib.hid hs
    have HN := Lib.hid (show n ≤ 1000000 by omega)
    have HQN := Lib.hid (show q ≤ 1000000 by rw [hq, hL, sortF_length, ha.1]; omega)
    have HRN := Lib.hid (show r ≤ 1000000 by have := setF_length_le l; rw [hr, hM]; have := ha.1; omega)
    have hS : Below w.heap.size w w := Below.refl _ _
    clear ha hL hM hq hr hs
    rcases s with _ | _
    all_goals
      go_enter Try.func4, Try.ntmps4
      go_wp2_with (first
        | (go_at_call 18; (with_reducible refine (copy_to a n c l _ (HA.out.below hS) HN.out).mono ?_); rintro e wC ⟨aC, cC, rfl, hC, hbC⟩; have HC := Lib.hid hC; have hS := hS.trans (hbC.mono hS.size); clear hC hbC)
        | (go_at_call 17; (with_reducible refine (sort_to aC n cC l L q _ HC.out HN.out HL.out HQ.out).mono ?_); rintro e wP ⟨aP, cP, rfl, hP, hbP⟩; have HP := Lib.hid hP; have hS := hS.trans (hbP.mono hS.size); clear hP hbP)
        | (go_at_call 19; (with_reducible refine (refSort_to a n c l L q _ (HA.out.below hS) HN.out HL.out HQ.out).mono ?_); rintro e wR ⟨aR, cR, rfl, hR, hbR⟩; have HRR := Lib.hid hR; have HP := Lib.hid (HP.out.below hbR); have hS := hS.trans (hbR.mono hS.size); clear hR hbR)
        | (go_at_call 16; (with_reducible refine (same_yes aP q cP L aR q cR L _ HP.out HRR.out rfl HQN.out).mono ?_); rintro e wE ⟨rfl, hbE⟩; have hS := hS.trans (hbE.mono hS.size); clear hbE)
        | (go_at_call 20; (with_reducible refine (set_to aC n cC l M r _ HC.out HN.out HM.out HR.out).mono ?_); rintro e wT ⟨aT, cT, rfl, hT, hbT⟩; have HT := Lib.hid hT; have hS := hS.trans (hbT.mono hS.size); clear hT hbT)
        | (go_at_call 21; (with_reducible refine (refSet_to a n c l M r _ (HA.out.below hS) HN.out HM.out HR.out).mono ?_); rintro e wU ⟨aU, cU, rfl, hU, hbU⟩; have HU := Lib.hid hU; have HT := Lib.hid (HT.out.below hbU); have hS := hS.trans (hbU.mono hS.size); clear hU hbU)
        | (go_at_call 16; (with_reducible refine (same_yes aT r cT M aU r cU M _ HT.out HU.out rfl HRN.out).mono ?_); rintro e wE ⟨rfl, hbE⟩; have hS := hS.trans (hbE.mono hS.size); clear hbE)
        | (go_at_call 22; (with_reducible refine (isSet_of aC n cC l _ _ HC.out HN.out HS.out).mono ?_); rintro e wI ⟨rfl, hbI⟩; have hS := hS.trans (hbI.mono hS.size); clear hbI)
        | (go_at_call 23; (with_reducible refine (refIsSet_of a n c l _ _ (HA.out.below hS) HN.out HS.out).mono ?_); rintro e wJ ⟨rfl, hbJ⟩; have hS := hS.trans (hbJ.mono hS.size); clear hbJ)
        | (go_at_call 15; (with_reducible refine (awake_any _).mono ?_); rintro e wK ⟨rfl, hbK⟩; have hS := hS.trans (hbK.mono hS.size); clear hbK))
      go_ret
      exact ⟨rfl, hS⟩
  · clear ha
    go_enter Try.func4, Try.ntmps4
    go_wp2
    go_ret
    exact ⟨rfl, Below.refl _ _⟩
#print axioms ordSorts_any

set_option maxRecDepth 100000 in
set_option maxHeartbeats 2000000 in
theorem ordMixes_any (a : Option Addr) (n c : Nat) (l : List (List UInt8)) (b : Option Addr) (m d : Nat) (k : List (List UInt8)) (w : World) (ha : IdsAt w a n c l) (hb : IdsAt w b m d k) :
    Calls Try.prog 7 #[.slice a n c, .slice b m d] w fun e w' => e = .returned (.bool true) ∧ Below w.heap.size w w' := by
  have HA := Lib.hid ha
  have HB := Lib.hid hb
  by_cases hn : (n : Int) ≤ 200
  · by_cases hm : (m : Int) ≤ 200
    · obtain ⟨L, hL⟩ : ∃ L, L = setF (l ++ k) := ⟨_, rfl⟩
      obtain ⟨M, hM⟩ : ∃ M, M = setF (inF k false l) := ⟨_, rfl⟩
      obtain ⟨K, hK⟩ : ∃ K, K = setF (inF k true l) := ⟨_, rfl⟩
      obtain ⟨q, hq⟩ : ∃ q, q = L.length := ⟨_, rfl⟩
      obtain ⟨r, hr⟩ : ∃ r, r = M.length := ⟨_, rfl⟩
      obtain ⟨s, hs⟩ : ∃ s, s = K.length := ⟨_, rfl⟩
      have HL := Lib.hid hL
      have HM := Lib.hid hM
      have HK := Lib.hid hK
      have HQ := Lib.hid hq
      have HR := Lib.hid hr
      have HS := Lib.hid hs
      have HN := Lib.hid (show n ≤ 100000 by omega)
      have HN6 := Lib.hid (show n ≤ 1000000 by omega)
      have HM2 := Lib.hid (show m ≤ 100000 by omega)
      have HM6 := Lib.hid (show m ≤ 1000000 by omega)
      have HQN := Lib.hid (show q ≤ 1000000 by have := setF_length_le (l ++ k); rw [hq, hL]; have := ha.1; have := hb.1; rw [List.length_append] at *; omega)
      have HRN := Lib.hid (show r ≤ 1000000 by have := setF_length_le (inF k false l); have := inF_length k false l; rw [hr, hM]; have := ha.1; omega)
      have HSN := Lib.hid (show s ≤ 1000000 by have := setF_length_le (inF k true l); have := inF_length k true l; rw [hs, hK]; have := ha.1; omega)
      have hS : Below w.heap.size w w := Below.refl _ _
      clear ha hb hL hM hK hq hr hs
      go_enter Try.func7, Try.ntmps7
      go_wp2_with (first
        | (go_at_call 18; (with_reducible refine (copy_to a n c l _ (HA.out.below hS) HN6.out).mono ?_); rintro e wC ⟨aX, cX, rfl, hC, hbC⟩; have HX := Lib.hid hC; have hS := hS.trans (hbC.mono hS.size); clear hC hbC)
        | (go_at_call 18; (with_reducible refine (copy_to b m d k _ (HB.out.below hS) HM6.out).mono ?_); rintro e wC ⟨aY, cY, rfl, hC, hbC⟩; have HY := Lib.hid hC; have HX := Lib.hid (HX.out.below hbC); have hS := hS.trans (hbC.mono hS.size); clear hC hbC)
        | (go_at_call 29; (with_reducible refine (union_to aX n cX l aY m cY k L q _ HX.out HY.out HN.out HM2.out HL.out HQ.out).mono ?_); rintro e wP ⟨aP, cP, rfl, hP, hbP⟩; have HP := Lib.hid hP; have HX := Lib.hid (HX.out.below hbP); have HY := Lib.hid (HY.out.below hbP); have hS := hS.trans (hbP.mono hS.size); clear hP hbP)
        | (go_at_call 31; (with_reducible refine (minus_to aX n cX l aY m cY k M r _ HX.out HY.out HN.out HM2.out HM.out HR.out).mono ?_); rintro e wP ⟨aP, cP, rfl, hP, hbP⟩; have HP := Lib.hid hP; have HX := Lib.hid (HX.out.below hbP); have HY := Lib.hid (HY.out.below hbP); have hS := hS.trans (hbP.mono hS.size); clear hP hbP)
        | (go_at_call 33; (with_reducible refine (both_to aX n cX l aY m cY k K s _ HX.out HY.out HN.out HM2.out HK.out HS.out).mono ?_); rintro e wP ⟨aP, cP, rfl, hP, hbP⟩; have HP := Lib.hid hP; have HX := Lib.hid (HX.out.below hbP); have HY := Lib.hid (HY.out.below hbP); have hS := hS.trans (hbP.mono hS.size); clear hP hbP)
        | (go_at_call 30; (with_reducible refine (refUnion_to a n c l b m d k L q _ (HA.out.below hS) (HB.out.below hS) HN.out HM2.out HL.out HQ.out).mono ?_); rintro e wR ⟨aR, cR, rfl, hR, hbR⟩; have HRR := Lib.hid hR; have HP := Lib.hid (HP.out.below hbR); have HX := Lib.hid (HX.out.below hbR); have HY := Lib.hid (HY.out.below hbR); have hS := hS.trans (hbR.mono hS.size); clear hR hbR)
        | (go_at_call 32; (with_reducible refine (refMinus_to a n c l b m d k M r _ (HA.out.below hS) (HB.out.below hS) HN.out HM2.out HM.out HR.out).mono ?_); rintro e wR ⟨aR, cR, rfl, hR, hbR⟩; have HRR := Lib.hid hR; have HP := Lib.hid (HP.out.below hbR); have HX := Lib.hid (HX.out.below hbR); have HY := Lib.hid (HY.out.below hbR); have hS := hS.trans (hbR.mono hS.size); clear hR hbR)
        | (go_at_call 34; (with_reducible refine (refBoth_to a n c l b m d k K s _ (HA.out.below hS) (HB.out.below hS) HN.out HM2.out HK.out HS.out).mono ?_); rintro e wR ⟨aR, cR, rfl, hR, hbR⟩; have HRR := Lib.hid hR; have HP := Lib.hid (HP.out.below hbR); have HX := Lib.hid (HX.out.below hbR); have HY := Lib.hid (HY.out.below hbR); have hS := hS.trans (hbR.mono hS.size); clear hR hbR)
        | (go_at_call 16; (first | (with_reducible refine (same_yes aP q cP L aR q cR L _ HP.out HRR.out rfl HQN.out).mono ?_) | (with_reducible refine (same_yes aP r cP M aR r cR M _ HP.out HRR.out rfl HRN.out).mono ?_) | (with_reducible refine (same_yes aP s cP K aR s cR K _ HP.out HRR.out rfl HSN.out).mono ?_)); rintro e wE ⟨rfl, hbE⟩; have HX := Lib.hid (HX.out.below hbE); have HY := Lib.hid (HY.out.below hbE); have hS := hS.trans (hbE.mono hS.size); clear hbE)
        | (go_at_call 15; (with_reducible refine (awake_any _).mono ?_); rintro e wK ⟨rfl, hbK⟩; have hS := hS.trans (hbK.mono hS.size); clear hbK))
      go_ret
      exact ⟨rfl, hS⟩
    · clear ha hb
      go_enter Try.func7, Try.ntmps7
      go_wp2
      go_ret
      exact ⟨rfl, Below.refl _ _⟩
  · clear ha hb
    go_enter Try.func7, Try.ntmps7
    go_wp2
    go_ret
    exact ⟨rfl, Below.refl _ _⟩
#print axioms ordMixes_any
end Go.Proofs.Ytiakbbokmllcdaa
