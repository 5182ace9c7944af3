/-
  What both texts begin with is kept: the law walked. (Written by gen_myahead.py.)
-/
import Derived.Test.YthhhfonhcnkogaaDoorMyTurned
namespace Go.Proofs.YthhhfonhcnkogaaDoor
open Go.RowKit My

theorem ed_head {w : World} {a : Option Addr} {n c : Nat} {x : EdV} {L : List EdV} (h : AtG edK w a n c (x :: L)) : ∃ b off, a = some ⟨b, off, none⟩ ∧ w.cell? ⟨b, off, none⟩ = some (.int .i64 x.k) := by
  have hn : 0 < n := by rw [← h.1]; simp
  obtain ⟨b, off, rfl⟩ := h.some_ hn
  have hx := h.at_ 0 hn
  have e : off + 0 * edK.k = off := by rw [Nat.zero_mul, Nat.add_zero]
  rw [e] at hx
  exact ⟨b, off, rfl, hx 0 (.int .i64 x.k) rfl⟩
/-- What follows where all three are texts. -/
theorem ahead_facts (f a b : List UInt8) (hf : f.length ≤ 300 ∧ a.length ≤ 300 ∧ b.length ≤ 300) (h1 : (cntE f).2 = 0) (h2 : (diffF a b).2 = 0) :
    (diffF (f ++ a) (f ++ b)).2 = 0 ∧ ((cntE f).1 = 0 → (diffF (f ++ a) (f ++ b)).1 = (diffF a b).1) ∧ ((cntE f).1 ≠ 0 → costV (diffF (f ++ a) (f ++ b)).1 = costV (diffF a b).1 ∧ ∃ x R, (diffF (f ++ a) (f ++ b)).1 = x :: R ∧ ((cntE f).1 : Int) ≤ x.k) := by
  rcases runesF_cases f with ⟨F, hF⟩ | ⟨p, hF⟩
  · rcases runesF_cases a with ⟨x, hx⟩ | ⟨p, hx⟩
    · rcases runesF_cases b with ⟨y, hy⟩ | ⟨p, hy⟩
      · have join : ∀ {s : List UInt8} {z : List Nat} {q : Nat}, runesF s = (some z, q) → runesF (f ++ s) = (some (F ++ z), (f ++ s).length) := fun {s z q} hz => by
          have e : f ++ s = textF (F ++ z) := by rw [textF_append, ← (runesF_some hF).2.1, ← (runesF_some hz).2.1]
          have := runesF_text (l := F ++ z) (fun n hn => by
            rcases List.mem_append.1 hn with h | h
            · exact (runesF_some hF).1 n h
            · exact (runesF_some hz).1 n h)
          rw [← e] at this
          exact this
        have l1 := runesF_len hF; have l2 := runesF_len hx; have l3 := runesF_len hy
        have hfa := join hx
        have hfb := join hy
        have hl : (f ++ a).length ≤ 4096 ∧ (f ++ b).length ≤ 4096 := by rw [List.length_append, List.length_append]; omega
        have c1 := cost_diff hfa hfb hl
        have c2 := cost_diff hx hy (by omega)
        rw [cntE_some hF]
        refine ⟨c1.2.2, fun h0 => ?_, fun h0 => ⟨?_, ?_⟩⟩
        · have : F = [] := List.length_eq_zero_iff.1 h0
          subst this
          have hf0 : f = [] := by rw [(runesF_some hF).2.1]; rfl
          subst hf0; rfl
        · rw [c1.1, c2.1, zs_append, zs_append, dist_front]
        · rw [diff_some hfa hfb hl, zs_append, zs_append]
          obtain ⟨e, l, he, hk⟩ := edits_front (zs F) (zs x) (zs y) (fun h => h0 (by have := congrArg List.length h; rw [zs_length] at this; simpa using this))
          rw [he]
          refine ⟨ev e, l.map ev, rfl, ?_⟩
          rw [zs_length] at hk
          show (F.length : Int) ≤ (e.k : Int)
          omega
      · rw [diff_none (.inr (by rw [cntE_none hy]))] at h2; simp at h2
    · rw [diff_none (.inl (by rw [cntE_none hx]))] at h2; simp at h2
  · rw [cntE_none hF] at h1; simp at h1
theorem size_list (s : ByteArray) : s.data.toList.length = s.size := by rw [Array.length_toList]; rfl
theorem cat_list (s t : ByteArray) : (s ++ t).data.toList = s.data.toList ++ t.data.toList := by
  simp
set_option maxRecDepth 100000 in
set_option maxHeartbeats 4000000 in
theorem ahead_any (f s t : ByteArray) (w : World) (hT : Tabs w) (hf : f.size ≤ 140737488355328) (hs : s.size ≤ 140737488355328) (ht : t.size ≤ 140737488355328) : Calls Tryd.prog 9 #[.string f, .string s, .string t] w (BoolIs true w) := by
  have HT := Lib.hid hT
  have hfI : (f.size : Int) ≤ 140737488355328 := by omega
  have hsI : (s.size : Int) ≤ 140737488355328 := by omega
  have htI : (t.size : Int) ≤ 140737488355328 := by omega
  by_cases h0 : 300 < f.size
  · have z0 : decide (300 < f.size) = true := by simpa using h0
    have y0 : decide ((300 : Int) < (f.size : Int)) = true := by simp; omega
    clear h0 hT hf hs ht
    go_enter Tryd.func9, Tryd.ntmps9
    go_wp2
    go_ret
    exact ⟨rfl, Below.refl _ _⟩
  · have z0 : decide (300 < f.size) = false := by simpa using h0
    have y0 : decide ((300 : Int) < (f.size : Int)) = false := by simp; omega
    by_cases h1 : 300 < s.size
    · have z1 : decide (300 < s.size) = true := by simpa using h1
      have y1 : decide ((300 : Int) < (s.size : Int)) = true := by simp; omega
      clear h0 h1 hT hf hs ht
      go_enter Tryd.func9, Tryd.ntmps9
      go_wp2
      go_ret
      exact ⟨rfl, Below.refl _ _⟩
    · have z1 : decide (300 < s.size) = false := by simpa using h1
      have y1 : decide ((300 : Int) < (s.size : Int)) = false := by simp; omega
      by_cases h2 : 300 < t.size
      · have z2 : decide (300 < t.size) = true := by simpa using h2
        have y2 : decide ((300 : Int) < (t.size : Int)) = true := by simp; omega
        clear h0 h1 h2 hT hf hs ht
        go_enter Tryd.func9, Tryd.ntmps9
        go_wp2
        go_ret
        exact ⟨rfl, Below.refl _ _⟩
      · have z2 : decide (300 < t.size) = false := by simpa using h2
        have y2 : decide ((300 : Int) < (t.size : Int)) = false := by simp; omega
        have lf := size_list f; have ls := size_list s; have lt := size_list t
        have CT := Lib.hid (count_any f w (by omega) hT)
        have D1 := Lib.hid (fun W (hb : Below w.heap.size w W) => diff_any (f ++ s) (f ++ t) W (by rw [ByteArray.size_append]; omega) (by rw [ByteArray.size_append]; omega) (hT.below hb))
        have D2 := Lib.hid (fun W (hb : Below w.heap.size w W) => diff_any s t W (by omega) (by omega) (hT.below hb))
        have AW := Lib.hid (fun W (hb : Below w.heap.size w W) => awake_any W (hT.below hb))
        have AF := ahead_facts f.data.toList s.data.toList t.data.toList (by omega)
        rw [cat_list, cat_list] at D1
        have MM1 := mild_diff (f.data.toList ++ s.data.toList) (f.data.toList ++ t.data.toList) (by rw [List.length_append, List.length_append]; omega)
        have MM2 := mild_diff s.data.toList t.data.toList (by omega)
        have hcl := cnt_le f.data.toList
        have hc5 : (cntE f.data.toList).2 ≤ 5 := by unfold cntE; split <;> simp
        obtain ⟨d1, hd1⟩ : ∃ d, diffF (f.data.toList ++ s.data.toList) (f.data.toList ++ t.data.toList) = d := ⟨_, rfl⟩
        obtain ⟨d2, hd2⟩ : ∃ d, diffF s.data.toList t.data.toList = d := ⟨_, rfl⟩
        obtain ⟨cf, hcf⟩ : ∃ d, cntE f.data.toList = d := ⟨_, rfl⟩
        rw [hd1] at D1 AF MM1
        rw [hd2] at D2 AF MM2
        rw [hcf] at CT AF hcl hc5
        obtain ⟨L1, e1⟩ := d1
        obtain ⟨L2, e2⟩ := d2
        obtain ⟨n, e0⟩ := cf
        simp only at AF MM1 MM2 hcl hc5
        have M1 := Lib.hid MM1
        have M2 := Lib.hid MM2
        have hnI : (n : Int) ≤ 300 := by omega
        have hn0I : (0 : Int) ≤ (n : Int) := by omega
        clear h0 h1 h2 hT hf hs ht lf ls lt hd1 hd2 hcf MM1 MM2 hcl hc5
        by_cases q0 : e0 = 0
        · by_cases q2 : e2 = 0
          · obtain ⟨q1, hz, hp⟩ := AF q0 q2
            subst q0 q1 q2
            by_cases hn : n = 0
            · have hL := hz hn
              subst hL hn
              have HFEW := Lib.hid M2.out.few
              clear hz hp AF
              go_enter Tryd.func9, Tryd.ntmps9
              go_wp2_with (first
                | (go_at_call 22; (refine CT.out.mono ?_); rintro en w1 ⟨rfl, hb1⟩; have HB1 := Lib.hid hb1; clear hb1)
                | (go_at_call 13; have Q1 := Q0; (refine (D2.out _ HB2.out).mono ?_); rintro en w3 ⟨a3, c3, rfl, ho3, hb3⟩; have HB3 := Lib.hid (HB2.out.trans (hb3.mono HB2.out.size)); have O2b := Lib.hid (O2.out.below hb3); have O3 := Lib.hid ho3; clear ho3 hb3)
                | (go_at_call 13; (refine (D1.out _ HB1.out).mono ?_); rintro en w2 ⟨a2, c2, rfl, ho2, hb2⟩; have HB2 := Lib.hid (HB1.out.trans (hb2.mono HB1.out.size)); have O2 := Lib.hid ho2; have Q0 := trivial; clear ho2 hb2)
                | (go_at_call 12; (refine (AW.out _ HB4.out).mono ?_); rintro en w7 ⟨rfl, hb7⟩; have HB7 := Lib.hid (HB4.out.trans (hb7.mono HB4.out.size)); clear hb7)
                | (go_at_call 15; (refine (same_yes16 a2 a3 _ c2 c3 _ _ O2b.out O3.out HFEW.out).mono ?_); rintro en w4 ⟨rfl, hb4⟩; have HB4 := Lib.hid (HB3.out.trans (hb4.mono HB3.out.size)); clear hb4))
              go_ret
              exact ⟨rfl, HB7.out⟩
            · obtain ⟨hcc, x1, R1, hx, hk⟩ := hp hn
              subst hx
              have r1 : (n == 0) = false := by simpa using hn
              have r2 : ((n : Int) == 0) = false := by rw [nat_zero]; exact r1
              have r3 : decide ((n : Int) ≤ x1.k) = true := by simpa using hk
              have r4 : ((x1 :: R1).length == 0) = false := by simp
              obtain ⟨cc, hc1⟩ : ∃ c, costV (x1 :: R1) = c := ⟨_, rfl⟩
              have HC1 := Lib.hid hc1
              have HC2 := Lib.hid (hcc.symm.trans hc1)
              clear hz hp AF hn hcc hk hc1
              go_enter Tryd.func9, Tryd.ntmps9
              go_wp2_with (first
                | (go_at_call 22; (refine CT.out.mono ?_); rintro en w1 ⟨rfl, hb1⟩; have HB1 := Lib.hid hb1; clear hb1)
                | (go_at_call 13; have Q1 := Q0; (refine (D2.out _ HB2.out).mono ?_); rintro en w3 ⟨a3, c3, rfl, ho3, hb3⟩; have HB3 := Lib.hid (HB2.out.trans (hb3.mono HB2.out.size)); have O2b := Lib.hid (O2.out.below hb3); have O3 := Lib.hid ho3; clear ho3 hb3; obtain ⟨bq, oq, h3, k0⟩ := ed_head O2b.out; subst h3)
                | (go_at_call 13; (refine (D1.out _ HB1.out).mono ?_); rintro en w2 ⟨a2, c2, rfl, ho2, hb2⟩; have HB2 := Lib.hid (HB1.out.trans (hb2.mono HB1.out.size)); have O2 := Lib.hid ho2; have Q0 := trivial; clear ho2 hb2)
                | (go_at_call 12; (refine (AW.out _ HB5.out).mono ?_); rintro en w7 ⟨rfl, hb7⟩; have HB7 := Lib.hid (HB5.out.trans (hb7.mono HB5.out.size)); clear hb7)
                | (go_at_call 18; have Q5 := Q4; (refine (cost_any a3 _ c3 L2 _ O3c.out M2.out (HT.out.below HB4.out)).mono ?_); rintro en w5 ⟨he6, hb5⟩; rw [HC2.out] at he6; subst he6; have HB5 := Lib.hid (HB4.out.trans (hb5.mono HB4.out.size)); clear hb5)
                | (go_at_call 18; (refine (cost_any _ _ c2 (x1 :: R1) _ O2b.out M1.out (HT.out.below HB3.out)).mono ?_); rintro en w4 ⟨he6, hb4⟩; rw [HC1.out] at he6; subst he6; have HB4 := Lib.hid (HB3.out.trans (hb4.mono HB3.out.size)); have O3c := Lib.hid (O3.out.below hb4); have Q4 := trivial; clear hb4))
              go_ret
              exact ⟨rfl, HB7.out⟩
          · have q3 : (e2 != 0) = true := by simpa using q2
            have q4 : ((e2 : Int) != 0) = true := by simp; omega
            clear AF q2
            by_cases q1 : e1 = 0
            · subst q0 q1
              go_enter Tryd.func9, Tryd.ntmps9
              go_wp2_with (first
                | (go_at_call 22; (refine CT.out.mono ?_); rintro en w1 ⟨rfl, hb1⟩; have HB1 := Lib.hid hb1; clear hb1)
                | (go_at_call 13; have Q1 := Q0; (refine (D2.out _ HB2.out).mono ?_); rintro en w3 ⟨a3, c3, rfl, ho3, hb3⟩; have HB3 := Lib.hid (HB2.out.trans (hb3.mono HB2.out.size)); have O2b := Lib.hid (O2.out.below hb3); have O3 := Lib.hid ho3; clear ho3 hb3)
                | (go_at_call 13; (refine (D1.out _ HB1.out).mono ?_); rintro en w2 ⟨a2, c2, rfl, ho2, hb2⟩; have HB2 := Lib.hid (HB1.out.trans (hb2.mono HB1.out.size)); have O2 := Lib.hid ho2; have Q0 := trivial; clear ho2 hb2)
                | (go_at_call 12; (refine (AW.out _ HB3.out).mono ?_); rintro en w7 ⟨rfl, hb7⟩; have HB7 := Lib.hid (HB3.out.trans (hb7.mono HB3.out.size)); clear hb7))
              go_ret
              exact ⟨rfl, HB7.out⟩
            · have q5 : (e1 != 0) = true := by simpa using q1
              have q6 : ((e1 : Int) != 0) = true := by simp; omega
              subst q0
              clear q1
              go_enter Tryd.func9, Tryd.ntmps9
              go_wp2_with (first
                | (go_at_call 22; (refine CT.out.mono ?_); rintro en w1 ⟨rfl, hb1⟩; have HB1 := Lib.hid hb1; clear hb1)
                | (go_at_call 13; have Q1 := Q0; (refine (D2.out _ HB2.out).mono ?_); rintro en w3 ⟨a3, c3, rfl, ho3, hb3⟩; have HB3 := Lib.hid (HB2.out.trans (hb3.mono HB2.out.size)); have O2b := Lib.hid (O2.out.below hb3); have O3 := Lib.hid ho3; clear ho3 hb3)
                | (go_at_call 13; (refine (D1.out _ HB1.out).mono ?_); rintro en w2 ⟨a2, c2, rfl, ho2, hb2⟩; have HB2 := Lib.hid (HB1.out.trans (hb2.mono HB1.out.size)); have O2 := Lib.hid ho2; have Q0 := trivial; clear ho2 hb2)
                | (go_at_call 12; (refine (AW.out _ HB3.out).mono ?_); rintro en w7 ⟨rfl, hb7⟩; have HB7 := Lib.hid (HB3.out.trans (hb7.mono HB3.out.size)); clear hb7))
              go_ret
              exact ⟨rfl, HB7.out⟩
        · have q3 : (e0 != 0) = true := by simpa using q0
          have q4 : ((e0 : Int) != 0) = true := by simp; omega
          clear AF q0
          go_enter Tryd.func9, Tryd.ntmps9
          go_wp2_with (first
            | (go_at_call 22; (refine CT.out.mono ?_); rintro en w1 ⟨rfl, hb1⟩; have HB1 := Lib.hid hb1; clear hb1)
            | (go_at_call 13; have Q1 := Q0; (refine (D2.out _ HB2.out).mono ?_); rintro en w3 ⟨a3, c3, rfl, ho3, hb3⟩; have HB3 := Lib.hid (HB2.out.trans (hb3.mono HB2.out.size)); have O2b := Lib.hid (O2.out.below hb3); have O3 := Lib.hid ho3; clear ho3 hb3)
            | (go_at_call 13; (refine (D1.out _ HB1.out).mono ?_); rintro en w2 ⟨a2, c2, rfl, ho2, hb2⟩; have HB2 := Lib.hid (HB1.out.trans (hb2.mono HB1.out.size)); have O2 := Lib.hid ho2; have Q0 := trivial; clear ho2 hb2)
            | (go_at_call 12; (refine (AW.out _ HB3.out).mono ?_); rintro en w7 ⟨rfl, hb7⟩; have HB7 := Lib.hid (HB3.out.trans (hb7.mono HB3.out.size)); clear hb7))
          go_ret
          exact ⟨rfl, HB7.out⟩
#print axioms ahead_any
end Go.Proofs.YthhhfonhcnkogaaDoor
