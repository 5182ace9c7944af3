/-
  The walk of text and of Hunks.
-/
import Derived.Test.YtfoalaoanpbmeaaDoorHkGo
import Derived.Test.YtfoalaoanpbmeaaDoorGrp8
namespace Go.Proofs.YtfoalaoanpbmeaaDoor
open Go.RowKit Go.Lib

/-- Are these bytes a text? -/
def txtF (l : List UInt8) : Bool := (chkE l).2 == 0
set_option maxRecDepth 100000 in
theorem htext_any (s : ByteArray) (w : World) (hs : s.size ≤ 4000000000) (hT : Tabs w) (q : Bool) (hq : txtF s.data.toList = q) :
    Calls Tryd.prog 19 #[.string s] w fun e w' => e = .returned (.bool q) ∧ Below w.heap.size w w' := by
  have HC := Lib.hid (check_any s w (by omega) hT)
  obtain ⟨p, r, hpr⟩ : ∃ p r, chkE s.data.toList = (p, r) := ⟨_, _, rfl⟩
  rw [hpr] at HC
  have hr : (r == 0) = q := by rw [← hq]; unfold txtF; rw [hpr]
  have hrI : ((r : Int) == 0) = q := by
    rw [← hr]
    by_cases h : r = 0
    · subst h; rfl
    · rw [beq_eq_false_iff_ne.2 h, beq_eq_false_iff_ne]; omega
  clear hs hT hpr hq hr
  go_enter Tryd.func19, Tryd.ntmps19
  go_wp2_with (go_at_call 38; go_must (refine HC.out.mono ?_); rintro e w1 ⟨rfl, hb⟩; have HB := Lib.hid hb; clear hb)
  go_ret
  exact ⟨rfl, HB.out⟩
/-- What Hunks answers. -/
def topF (a b : List UInt8) : List HkV × Nat :=
  if txtF a && txtF b then
    if max (linesF a).length (linesF b).length > 4096 then ([], 2) else (hunksF (linesF a) (linesF b), 0)
  else ([], 5)
def TopIs (R : List HkV × Nat) (w : World) (e : Ending) (w' : World) : Prop := ∃ a c base V, e = .returned (.tuple #[.slice a V.length c, .int .i64 (R.2 : Nat)]) ∧ V.map (·.1) = R.1 ∧ HkH w' base a c V ∧ w.heap.size ≤ base ∧ Below w.heap.size w w'
theorem hkH_nil (W : World) (base : Nat) : HkH W base none 0 [] := by
  refine ⟨⟨fun h hm => ?_, List.pairwise_singleton _ _⟩, (fun x hx => by cases hx)⟩
  obtain rfl : h = rowH none 0 [] := by simpa using hm
  exact World.ownsRow_nil _ _ _ _
theorem top_none (e : Nat) (w w' : World) (hb : Below w.heap.size w w') : TopIs ([], e) w (.returned (.tuple #[.slice none 0 0, .int .i64 (e : Nat)])) w' := ⟨none, 0, w.heap.size, [], rfl, rfl, hkH_nil _ _, Nat.le_refl _, hb⟩
theorem lines_small (l : List UInt8) : ∀ s ∈ linesF l, s.length ≤ l.length := fun s hs => by
  have h := lines_flat l
  have h2 : s.length ≤ (linesF l).flatten.length := (List.sublist_flatten_of_mem hs).length_le
  rw [h] at h2; exact h2
set_option maxRecDepth 100000 in
set_option maxHeartbeats 4000000 in
theorem top_any (s t : ByteArray) (w : World) (hs : s.size ≤ 4000000000) (ht : t.size ≤ 4000000000) (hT : Tabs w) :
    Calls Tryd.prog 8 #[.string s, .string t] w (TopIs (topF s.data.toList t.data.toList) w) := by
  obtain ⟨qa, hqa⟩ : ∃ q, txtF s.data.toList = q := ⟨_, rfl⟩
  obtain ⟨qb, hqb⟩ : ∃ q, txtF t.data.toList = q := ⟨_, rfl⟩
  have H1 := Lib.hid (htext_any s w hs hT qa hqa)
  have HT := Lib.hid hT
  have HZ : Hid (s.size ≤ 4000000000 ∧ t.size ≤ 4000000000) := Lib.hid ⟨hs, ht⟩
  have HQ := Lib.hid hqb
  cases qa with
  | false =>
    have e : topF s.data.toList t.data.toList = ([], 5) := by unfold topF; rw [hqa]; rfl
    rw [e]
    clear hs ht hT hqa hqb e
    go_enter Tryd.func8, Tryd.ntmps8
    go_wp2_with (go_at_call 19; go_must (refine H1.out.mono ?_); rintro e w1 ⟨rfl, hb⟩; have HB1 := Lib.hid hb; clear hb)
    go_ret2
    exact top_none 5 _ _ HB1.out
  | true =>
    cases qb with
    | false =>
      have e : topF s.data.toList t.data.toList = ([], 5) := by unfold topF; rw [hqa, hqb]; rfl
      rw [e]
      clear hs ht hT hqa hqb e
      go_enter Tryd.func8, Tryd.ntmps8
      go_wp2_with (first
        | (go_at_call 19; (with_reducible refine H1.out.mono ?_); rintro e w1 ⟨rfl, hb⟩; have HB1 := Lib.hid hb; clear hb)
        | (go_at_call 19; (with_reducible refine (htext_any t w1 HZ.out.2 (HT.out.below HB1.out) false HQ.out).mono ?_); rintro e w2 ⟨rfl, hb⟩; have HB2 := Lib.hid (HB1.out.trans (hb.mono HB1.out.size)); clear hb))
      go_ret2
      exact top_none 5 _ _ HB2.out
    | true =>
      obtain ⟨A, hA⟩ : ∃ A, linesF s.data.toList = A := ⟨_, rfl⟩
      obtain ⟨B, hB⟩ : ∃ B, linesF t.data.toList = B := ⟨_, rfl⟩
      have HLA : Hid (∀ x ∈ A, x.length ≤ 4000000000) := Lib.hid (fun x hx => by have h1 := lines_small s.data.toList x (hA ▸ hx); rw [← Lib.size_eq] at h1; omega)
      have HLB : Hid (∀ x ∈ B, x.length ≤ 4000000000) := Lib.hid (fun x hx => by have h1 := lines_small t.data.toList x (hB ▸ hx); rw [← Lib.size_eq] at h1; omega)
      have HA := Lib.hid hA
      have HB := Lib.hid hB
      obtain ⟨n, hn⟩ : ∃ n, A.length = n := ⟨_, rfl⟩
      obtain ⟨m, hm⟩ : ∃ m, B.length = m := ⟨_, rfl⟩
      obtain ⟨mx, hmx⟩ : ∃ mx, max n m = mx := ⟨_, rfl⟩
      have HMX : Hid ((mx : Int) = if (n : Int) < (m : Int) then (m : Int) else (n : Int)) := Lib.hid (by split <;> omega)
      have HNM : Hid (A.length = n ∧ B.length = m ∧ max n m = mx) := Lib.hid ⟨hn, hm, hmx⟩
      by_cases hbig : (4096 : Int) < (mx : Int)
      · have d1 : decide ((4096 : Int) < (mx : Int)) = true := decide_eq_true hbig
        have e : topF s.data.toList t.data.toList = ([], 2) := by unfold topF; rw [hqa, hqb, hA, hB]; simp only [Bool.and_self, if_true]; rw [if_pos (by omega)]
        rw [e]
        clear hs ht hT hqa hqb e hA hB hn hm hmx
        go_enter Tryd.func8, Tryd.ntmps8
        go_wp2_with (first
          | (go_at_call 19; (with_reducible refine H1.out.mono ?_); rintro e w1 ⟨rfl, hb⟩; have HB1 := Lib.hid hb; clear hb)
          | (go_at_call 19; (with_reducible refine (htext_any t w1 HZ.out.2 (HT.out.below HB1.out) true HQ.out).mono ?_); rintro e w2 ⟨rfl, hb⟩; have HB2 := Lib.hid (HB1.out.trans (hb.mono HB1.out.size)); clear hb)
          | (go_at_call 13; (with_reducible refine (split_any s w2 HZ.out.1).mono ?_); rintro e w3 ⟨a3, n3, c3, rfl, ho, hb⟩; rw [HA.out] at ho; obtain rfl : n3 = n := ho.1.symm.trans HNM.out.1; have HO3 := Lib.hid ho; have HB3 := Lib.hid (HB2.out.trans (hb.mono HB2.out.size)); clear ho hb)
          | (go_at_call 13; (with_reducible refine (split_any t w3 HZ.out.2).mono ?_); rintro e w4 ⟨a4, n4, c4, rfl, ho, hb⟩; rw [HB.out] at ho; obtain rfl : n4 = m := ho.1.symm.trans HNM.out.2.1; have HO4 := Lib.hid ho; have HP4 := Lib.hid (HO3.out.below hb); have HB4 := Lib.hid (HB3.out.trans (hb.mono HB3.out.size)); clear ho hb)
          | (refine wl_maxH rfl _ _ _ rfl (n3 : Int) (n4 : Int) (mx : Int) rfl rfl HMX.out ?_))
        go_ret2
        exact top_none 2 _ _ HB4.out
      · have d1 : decide ((4096 : Int) < (mx : Int)) = false := decide_eq_false hbig
        have d1n : decide (4096 < mx) = false := decide_eq_false (by omega)
        have HL : Hid (n ≤ 4096 ∧ m ≤ 4096) := Lib.hid ⟨by omega, by omega⟩
        have e : topF s.data.toList t.data.toList = (hunksF A B, 0) := by unfold topF; rw [hqa, hqb, hA, hB]; simp only [Bool.and_self, if_true]; rw [if_neg (by omega)]
        rw [e]
        clear hs ht hT hqa hqb e hA hB hn hm hmx
        go_enter Tryd.func8, Tryd.ntmps8
        go_wp2_with (first
          | (go_at_call 19; (with_reducible refine H1.out.mono ?_); rintro e w1 ⟨rfl, hb⟩; have HB1 := Lib.hid hb; clear hb)
          | (go_at_call 19; (with_reducible refine (htext_any t w1 HZ.out.2 (HT.out.below HB1.out) true HQ.out).mono ?_); rintro e w2 ⟨rfl, hb⟩; have HB2 := Lib.hid (HB1.out.trans (hb.mono HB1.out.size)); clear hb)
          | (go_at_call 13; (with_reducible refine (split_any s w2 HZ.out.1).mono ?_); rintro e w3 ⟨a3, n3, c3, rfl, ho, hb⟩; rw [HA.out] at ho; obtain rfl : n3 = n := ho.1.symm.trans HNM.out.1; have HO3 := Lib.hid ho; have HB3 := Lib.hid (HB2.out.trans (hb.mono HB2.out.size)); clear ho hb)
          | (go_at_call 13; (with_reducible refine (split_any t w3 HZ.out.2).mono ?_); rintro e w4 ⟨a4, n4, c4, rfl, ho, hb⟩; rw [HB.out] at ho; obtain rfl : n4 = m := ho.1.symm.trans HNM.out.2.1; have HO4 := Lib.hid ho; have HP4 := Lib.hid (HO3.out.below hb); have HB4 := Lib.hid (HB3.out.trans (hb.mono HB3.out.size)); clear ho hb)
          | (refine wl_maxH rfl _ _ _ rfl (n3 : Int) (n4 : Int) (mx : Int) rfl rfl HMX.out ?_)
          | (go_at_call 20; go_must (refine (hunks_any a3 a4 n3 c3 n4 c4 A B w4 HP4.out HO4.out HLA.out HLB.out HL.out.1 HL.out.2).mono ?_); rintro e w5 ⟨a5, c5, base, V, rfl, hv, hh, hbs, hb⟩; have HV := Lib.hid hv; have HH := Lib.hid hh; have HBS := Lib.hid hbs; have HB5 := Lib.hid (HB4.out.trans (hb.mono HB4.out.size)); clear hv hh hbs hb))
        go_ret2
        exact ⟨a5, c5, base, V, rfl, HV.out, HH.out, Nat.le_trans HB4.out.size HBS.out, HB5.out⟩
#print axioms top_any
end Go.Proofs.YtfoalaoanpbmeaaDoor
