/-
  Diff walked.
-/
import Derived.Test.YtbfaaphijgmabaaDoorMyEdits
import Derived.Test.YtbfaaphijgmabaaDoorUtfRunes
namespace Go.Proofs.YtbfaaphijgmabaaDoor
open Go.RowKit My

theorem scr_facts (N : Nat) : ∀ a b : List Int, a.length + b.length ≤ N → (∀ i, i < (scr a b).length → (scr a b).getD i 0 = 1 ∨ (scr a b).getD i 0 = 2 ∨ (scr a b).getD i 0 = 3) ∧ notDrop (scr a b) = b.length := by
  have one : ∀ (z : Int) (l : List Int), (z = 1 ∨ z = 2 ∨ z = 3) → (∀ i, i < l.length → l.getD i 0 = 1 ∨ l.getD i 0 = 2 ∨ l.getD i 0 = 3) → ∀ i, i < (z :: l).length → (z :: l).getD i 0 = 1 ∨ (z :: l).getD i 0 = 2 ∨ (z :: l).getD i 0 = 3 := by
    intro z l hz hl i hi
    cases i with
    | zero => exact hz
    | succ i => exact hl i (by simpa using hi)
  induction N with
  | zero =>
    intro a b h
    obtain rfl : a = [] := List.length_eq_zero_iff.1 (by omega)
    obtain rfl : b = [] := List.length_eq_zero_iff.1 (by omega)
    rw [scr_nil]; exact ⟨fun i hi => by simp at hi, rfl⟩
  | succ N ih =>
    intro a b h
    cases a with
    | nil => cases b with
      | nil => rw [scr_nil]; exact ⟨fun i hi => by simp at hi, rfl⟩
      | cons q b =>
        simp only [List.length_cons, List.length_nil] at h
        obtain ⟨h1, h2⟩ := ih [] b (by simp only [List.length_nil]; omega)
        rw [scr_l]; exact ⟨one _ _ (by simp) h1, by simp [notDrop, h2]; omega⟩
    | cons p a => cases b with
      | nil =>
        simp only [List.length_cons, List.length_nil] at h
        obtain ⟨h1, h2⟩ := ih a [] (by simp only [List.length_nil]; omega)
        rw [scr_r]; exact ⟨one _ _ (by simp) h1, by simp [notDrop, h2]⟩
      | cons q b =>
        simp only [List.length_cons] at h
        rw [scr_nn]
        split
        · obtain ⟨h1, h2⟩ := ih a b (by omega)
          exact ⟨one _ _ (by simp) h1, by simp [notDrop, h2]; omega⟩
        · split
          · obtain ⟨h1, h2⟩ := ih a (q :: b) (by simp only [List.length_cons]; omega)
            exact ⟨one _ _ (by simp) h1, by simp [notDrop, h2]⟩
          · obtain ⟨h1, h2⟩ := ih (p :: a) b (by simp only [List.length_cons]; omega)
            exact ⟨one _ _ (by simp) h1, by simp [notDrop, h2]; omega⟩
theorem ok_zs {x : List Nat} (h : ∀ n, n ∈ x → mayF n = true) : OkTo (zs x) (zs x).length := fun i hi => by
  rw [zs_length] at hi
  have e : (zs x).getD i 0 = ((x[i] : Nat) : Int) := by simp [zs, hi]
  rw [e, valid_nat]
  exact h _ (List.getElem_mem hi)
/-- What Diff answers. -/
def diffF (a b : List UInt8) : List EdV × Nat :=
  match runesF a, runesF b with
  | (some x, _), (some y, _) => if 4096 < x.length ∨ 4096 < y.length then ([], 2) else ((edits (scr (zs x) (zs y)) (zs y)).map ev, 0)
  | _, _ => ([], 5)
def DiffIs (r : List EdV × Nat) (w : World) (e : Ending) (w' : World) : Prop := ∃ a c, e = .returned (.tuple #[.slice a r.1.length c, .int .i64 r.2]) ∧ AtG edK w' a r.1.length c r.1 ∧ Below w.heap.size w w'
set_option maxRecDepth 100000 in
set_option maxHeartbeats 2000000 in
theorem diff_bad (s t : ByteArray) (w : World) (hs : s.size ≤ 20000000) (ht : t.size ≤ 20000000) (hT : Tabs w) (h : (cntE s.data.toList).2 = 5 ∨ (cntE t.data.toList).2 = 5) :
    Calls Tryd.prog 13 #[.string s, .string t] w (DiffIs ([], 5) w) := by
  have C1 := Lib.hid (count_any s w (by omega) hT)
  have C2 := Lib.hid (fun W (hb : Below w.heap.size w W) => count_any t W (by omega) (hT.below hb))
  obtain ⟨c1, hc1⟩ : ∃ c, cntE s.data.toList = c := ⟨_, rfl⟩
  obtain ⟨c2, hc2⟩ : ∃ c, cntE t.data.toList = c := ⟨_, rfl⟩
  have k1 : c1.2 = 0 ∨ c1.2 = 5 := by
    rw [← hc1]; unfold cntE; split <;> simp
  rw [hc1] at C1 h
  rw [hc2] at C2 h
  obtain ⟨n1, e1⟩ := c1
  obtain ⟨n2, e2⟩ := c2
  simp only at h k1
  clear hc1 hc2 hT hs ht
  rcases k1 with rfl | rfl
  · obtain rfl : e2 = 5 := by simpa using h
    clear h
    go_enter Tryd.func13, Tryd.ntmps13
    go_wp2_with (first
      | (go_at_call 22; have Q1 := Q0; (refine (C2.out _ HB1.out).mono ?_); rintro en w2 ⟨rfl, hb2⟩; have HB2 := Lib.hid (HB1.out.trans (hb2.mono HB1.out.size)); clear hb2)
      | (go_at_call 22; (refine C1.out.mono ?_); rintro en w1 ⟨rfl, hb1⟩; have HB1 := Lib.hid hb1; have Q0 := trivial; clear hb1))
    go_ret2
    exact ⟨none, 0, rfl, AtG.nil, HB2.out⟩
  · clear h
    go_enter Tryd.func13, Tryd.ntmps13
    go_wp2_with (first
      | (go_at_call 22; have Q1 := Q0; (refine (C2.out _ HB1.out).mono ?_); rintro en w2 ⟨rfl, hb2⟩; have HB2 := Lib.hid (HB1.out.trans (hb2.mono HB1.out.size)); clear hb2)
      | (go_at_call 22; (refine C1.out.mono ?_); rintro en w1 ⟨rfl, hb1⟩; have HB1 := Lib.hid hb1; have Q0 := trivial; clear hb1))
    go_ret2
    exact ⟨none, 0, rfl, AtG.nil, HB2.out⟩
set_option maxRecDepth 100000 in
set_option maxHeartbeats 2000000 in
theorem diff_good (s t : ByteArray) (w : World) (hs : s.size ≤ 20000000) (ht : t.size ≤ 20000000) (hT : Tabs w) (x y : List Nat) (p q : Nat) (hx : runesF s.data.toList = (some x, p)) (hy : runesF t.data.toList = (some y, q)) :
    Calls Tryd.prog 13 #[.string s, .string t] w (DiffIs (diffF s.data.toList t.data.toList) w) := by
  have hD : diffF s.data.toList t.data.toList = if 4096 < x.length ∨ 4096 < y.length then ([], 2) else ((edits (scr (zs x) (zs y)) (zs y)).map ev, 0) := by unfold diffF; rw [hx, hy]
  have C1 := Lib.hid (count_any s w (by omega) hT)
  have C2 := Lib.hid (fun W (hb : Below w.heap.size w W) => count_any t W (by omega) (hT.below hb))
  have R1 := Lib.hid (fun W (hb : Below w.heap.size w W) => runes_any s W (by omega) (hT.below hb))
  have R2 := Lib.hid (fun W (hb : Below w.heap.size w W) => runes_any t W (by omega) (hT.below hb))
  rw [cntE_some hx] at C1
  rw [cntE_some hy] at C2
  rw [runE_some hx] at R1
  rw [runE_some hy] at R2
  rw [hD]
  have hxl := runesF_len hx
  have hyl := runesF_len hy
  have hOK := Lib.hid (ok_zs (runesF_some hy).1)
  have bx : (x.length : Int) ≤ 20000000 := by
    have : s.data.toList.length = s.size := by rw [Array.length_toList]; rfl
    omega
  have by_ : (y.length : Int) ≤ 20000000 := by
    have : t.data.toList.length = t.size := by rw [Array.length_toList]; rfl
    omega
  obtain ⟨n, hn⟩ : ∃ n, x.length = n := ⟨_, rfl⟩
  obtain ⟨m, hm⟩ : ∃ m, y.length = m := ⟨_, rfl⟩
  have HN := Lib.hid hn
  have HM := Lib.hid hm
  rw [hn] at C1 bx ⊢
  rw [hm] at C2 by_ ⊢
  obtain ⟨mx, hmx⟩ : ∃ z : Int, (if (n : Int) < (m : Int) then (m : Int) else (n : Int)) = z := ⟨_, rfl⟩
  have HMX := Lib.hid hmx.symm
  have bmx : 0 ≤ mx ∧ mx ≤ 20000000 := by rw [← hmx]; split <;> omega
  clear hs ht hT hx hy hD hxl hyl hn hm
  by_cases hc : 4096 < n ∨ 4096 < m
  · have z1 : decide (4096 < mx) = true := by simp only [decide_eq_true_eq]; rw [← hmx]; split <;> omega
    rw [if_pos hc]
    clear hc hmx
    go_enter Tryd.func13, Tryd.ntmps13
    go_wp2_with (first
      | (go_at_call 22; have Q1 := Q0; (refine (C2.out _ HB1.out).mono ?_); rintro en w2 ⟨rfl, hb2⟩; have HB2 := Lib.hid (HB1.out.trans (hb2.mono HB1.out.size)); clear hb2)
      | (go_at_call 22; (refine C1.out.mono ?_); rintro en w1 ⟨rfl, hb1⟩; have HB1 := Lib.hid hb1; have Q0 := trivial; clear hb1)
      | ((with_reducible show wpList _ _ _ (⟨some 36, _, _, _, _, _⟩ :: _) _ _); refine wl_maxI rfl _ _ _ rfl (n : Int) (m : Int) mx rfl rfl HMX.out ?_))
    go_ret2
    exact ⟨none, 0, rfl, AtG.nil, HB2.out⟩
  · have z1 : decide (4096 < mx) = false := by simp only [decide_eq_false_iff_not]; rw [← hmx]; split <;> omega
    rw [if_neg hc]
    have HC := Lib.hid hc
    have SF := Lib.hid (scr_facts _ (zs x) (zs y) (Nat.le_refl _))
    have SL := Lib.hid (show (scr (zs x) (zs y)).length ≤ 8192 by
      have h1 := mv_len (E := eq2 (zs x) (zs y)) _ (zs x).length (zs y).length (Nat.le_refl _)
      have h2 : (scr (zs x) (zs y)).length ≤ (zs x).length + (zs y).length := h1
      have := HN.out; have := HM.out; rw [zs_length, zs_length] at h2; omega)
    clear hc hmx
    go_enter Tryd.func13, Tryd.ntmps13
    go_wp2_with (first
      | (go_at_call 22; have Q1 := Q0; (refine (C2.out _ HB1.out).mono ?_); rintro en w2 ⟨rfl, hb2⟩; have HB2 := Lib.hid (HB1.out.trans (hb2.mono HB1.out.size)); clear hb2)
      | (go_at_call 22; (refine C1.out.mono ?_); rintro en w1 ⟨rfl, hb1⟩; have HB1 := Lib.hid hb1; have Q0 := trivial; clear hb1)
      | ((with_reducible show wpList _ _ _ (⟨some 36, _, _, _, _, _⟩ :: _) _ _); refine wl_maxI rfl _ _ _ rfl (n : Int) (m : Int) mx rfl rfl HMX.out ?_)
      | (go_at_call 24; have Q3 := Q2; (refine (R2.out _ HB3.out).mono ?_); rintro en w4 ⟨a4, n4, c4, rfl, ho4, hb4⟩; have HB4 := Lib.hid (HB3.out.trans (hb4.mono HB3.out.size)); have HO3b := Lib.hid (HO3.out.below hb4)
         have h4 : n4 = m := by have h9 := ho4.len; rw [zs_length] at h9; rw [h9]; exact HM.out
         have HO4 := Lib.hid ho4.isRuns
         have SC := Lib.hid (script_any (zs x) (zs y) a3 a4 c3 c4 w4 (by rw [zs_length, HN.out]; exact HO3b.out) (by rw [zs_length, HM.out, ← h4]; exact HO4.out) (by rw [zs_length, HN.out]; have := HC.out; omega) (by rw [zs_length, HM.out]; have := HC.out; omega))
         rw [zs_length, zs_length, HN.out, HM.out] at SC
         subst h4
         clear ho4 hb4)
      | (go_at_call 24; (refine (R1.out _ HB2.out).mono ?_); rintro en w3 ⟨a3, n3, c3, rfl, ho3, hb3⟩; have HB3 := Lib.hid (HB2.out.trans (hb3.mono HB2.out.size)); have Q2 := trivial
         have h3 : n3 = n := by have h9 := ho3.len; rw [zs_length] at h9; rw [h9]; exact HN.out
         subst h3
         have HO3 := Lib.hid ho3.isRuns
         clear ho3 hb3)
      | (go_at_call 23; (refine SC.out.mono ?_); rintro en w5 ⟨a5, c5, rfl, ho5, hb5⟩; have HB5 := Lib.hid (HB4.out.trans (hb5.mono HB4.out.size))
         have ED := Lib.hid (edits_any (scr (zs x) (zs y)) (zs y) a5 a4 c5 c4 w5 ho5.isBytes (by rw [zs_length, HM.out]; exact HO4.out.below hb5) SF.out.1 SF.out.2 hOK.out SL.out)
         rw [zs_length, HM.out] at ED
         clear ho5 hb5)
      | (go_at_call 25; (refine ED.out.mono ?_); rintro en w6 ⟨a6, c6, base, rfl, ho6, hl6, hb6⟩; have HB6 := Lib.hid (HB5.out.trans (hb6.mono HB5.out.size)); have HO6 := Lib.hid ho6; clear ho6 hb6))
    go_ret2
    exact ⟨a6, c6, by
      show _ = Ending.returned (.tuple #[.slice a6 ((edits (scr (zs x) (zs y)) (zs y)).map ev).length c6, .int .i64 0])
      rw [List.length_map]; rfl, HO6.out.atG, HB6.out⟩
theorem diff_any (s t : ByteArray) (w : World) (hs : s.size ≤ 20000000) (ht : t.size ≤ 20000000) (hT : Tabs w) :
    Calls Tryd.prog 13 #[.string s, .string t] w (DiffIs (diffF s.data.toList t.data.toList) w) := by
  rcases runesF_cases s.data.toList with ⟨x, hx⟩ | ⟨p, hx⟩
  · rcases runesF_cases t.data.toList with ⟨y, hy⟩ | ⟨q, hy⟩
    · exact diff_good s t w hs ht hT x y _ _ hx hy
    · have e : diffF s.data.toList t.data.toList = ([], 5) := by unfold diffF; rw [hx, hy]
      rw [e]; exact diff_bad s t w hs ht hT (.inr (by rw [cntE_none hy]))
  · have e : diffF s.data.toList t.data.toList = ([], 5) := by unfold diffF; rw [hx]
    rw [e]; exact diff_bad s t w hs ht hT (.inl (by rw [cntE_none hx]))
#print axioms diff_any
end Go.Proofs.YtbfaaphijgmabaaDoor
