/-
  The script the other way round costs as much; of a text to itself it keeps all: the law walked.
-/
import Derived.Test.YthhhfonhcnkogaaDoorMyLawMath
namespace Go.Proofs.YthhhfonhcnkogaaDoor
open Go.RowKit My

theorem cost_diff {a b : List UInt8} {x y : List Nat} {p q : Nat} (hx : runesF a = (some x, p)) (hy : runesF b = (some y, q)) (hl : a.length ≤ 4096 ∧ b.length ≤ 4096) : costV (diffF a b).1 = dist (zs x) (zs y) ∧ Mild (diffF a b).1 ∧ (diffF a b).2 = 0 := by
  have h1 := runesF_len hx
  have h2 := runesF_len hy
  rw [diff_some hx hy hl]
  exact ⟨cost_edits _ _ (ok_zs (runesF_some hy).1), mild_ev _ _ (ok_zs (runesF_some hy).1) (by rw [zs_length, zs_length]; omega), rfl⟩
theorem mild_diff (a b : List UInt8) (hl : a.length ≤ 4096 ∧ b.length ≤ 4096) : Mild (diffF a b).1 := by
  rcases runesF_cases a with ⟨x, hx⟩ | ⟨p, hx⟩
  · rcases runesF_cases b with ⟨y, hy⟩ | ⟨q, hy⟩
    · exact (cost_diff hx hy hl).2.1
    · rw [diff_none (.inr (by rw [cntE_none hy]))]; exact ⟨by simp, fun x hx => by simp at hx, fun x hx => by simp at hx⟩
  · rw [diff_none (.inl (by rw [cntE_none hx]))]; exact ⟨by simp, fun x hx => by simp at hx, fun x hx => by simp at hx⟩
/-- What both ways round have in common. -/
theorem turned_facts (a b : List UInt8) (hl : a.length ≤ 4096 ∧ b.length ≤ 4096) : (diffF a b).2 = (diffF b a).2 ∧ costV (diffF a b).1 = costV (diffF b a).1 ∧ (diffF a b).2 ≤ 5 := by
  rcases runesF_cases a with ⟨x, hx⟩ | ⟨p, hx⟩
  · rcases runesF_cases b with ⟨y, hy⟩ | ⟨q, hy⟩
    · obtain ⟨c1, _, e1⟩ := cost_diff hx hy hl
      obtain ⟨c2, _, e2⟩ := cost_diff hy hx ⟨hl.2, hl.1⟩
      rw [c1, c2, e1, e2]
      exact ⟨rfl, by rw [dist_symm _ _ _ (Nat.le_refl _)], by omega⟩
    · rw [diff_none (a := a) (b := b) (.inr (by rw [cntE_none hy])), diff_none (a := b) (b := a) (.inl (by rw [cntE_none hy]))]; exact ⟨rfl, rfl, by decide⟩
  · rw [diff_none (a := a) (b := b) (.inl (by rw [cntE_none hx])), diff_none (a := b) (b := a) (.inr (by rw [cntE_none hx]))]; exact ⟨rfl, rfl, by decide⟩
theorem same_facts (a : List UInt8) (hl : a.length ≤ 4096) : ((cntE a).2 = 5 ∧ diffF a a = ([], 5)) ∨ (∃ n, cntE a = (n, 0) ∧ n ≤ 4096 ∧ diffF a a = (if n = 0 then [] else [⟨(n : Int), 0, []⟩], 0)) := by
  rcases runesF_cases a with ⟨x, hx⟩ | ⟨p, hx⟩
  · refine .inr ⟨x.length, cntE_some hx, by have := runesF_len hx; omega, ?_⟩
    rw [diff_some hx hx ⟨hl, hl⟩, edits_same]
    cases x with
    | nil => rfl
    | cons u x =>
      rw [if_neg (by simp [zs]), if_neg (by simp)]
      show ([ev ⟨(zs (u :: x)).length, 0, []⟩], 0) = _
      rw [zs_length]; rfl
  · exact .inl ⟨by rw [cntE_none hx], diff_none (.inl (by rw [cntE_none hx]))⟩
theorem ed_one {w : World} {a : Option Addr} {c : Nat} {x : EdV} (h : AtG edK w a 1 c [x]) : ∃ b off, a = some ⟨b, off, none⟩ ∧ w.cell? ⟨b, off, none⟩ = some (.int .i64 x.k) ∧ w.cell? ⟨b, off + 1, none⟩ = some (.int .i64 x.d) ∧ w.cell? ⟨b, off + 2, none⟩ = some (.string (strB x.s)) := by
  obtain ⟨b, off, rfl⟩ := h.some_ (by decide)
  have hx := h.at_ 0 (by decide)
  have e : off + 0 * edK.k = off := by rw [Nat.zero_mul, Nat.add_zero]
  rw [e] at hx
  exact ⟨b, off, rfl, hx 0 (.int .i64 x.k) rfl, hx 1 (.int .i64 x.d) rfl, hx 2 (.string (strB x.s)) rfl⟩
set_option maxRecDepth 100000 in
set_option maxHeartbeats 4000000 in
theorem turned_any (s t : ByteArray) (w : World) (hT : Tabs w) (hs : s.size ≤ 140737488355328) (ht : t.size ≤ 140737488355328) : Calls Tryd.prog 8 #[.string s, .string t] w (BoolIs true w) := by
  have HT := Lib.hid hT
  have hsI : (s.size : Int) ≤ 140737488355328 := by omega
  have htI : (t.size : Int) ≤ 140737488355328 := by omega
  by_cases h1 : 600 < s.size
  · have z1 : decide (600 < s.size) = true := by simpa using h1
    have z2 : decide ((600 : Int) < (s.size : Int)) = true := by simp; omega
    clear h1 hT hs ht
    go_enter Tryd.func8, Tryd.ntmps8
    go_wp2
    go_ret
    exact ⟨rfl, Below.refl _ _⟩
  · have z1 : decide (600 < s.size) = false := by simpa using h1
    have z2 : decide ((600 : Int) < (s.size : Int)) = false := by simp; omega
    by_cases h2 : 600 < t.size
    · have z3 : decide (600 < t.size) = true := by simpa using h2
      have z4 : decide ((600 : Int) < (t.size : Int)) = true := by simp; omega
      clear h1 h2 hT hs ht
      go_enter Tryd.func8, Tryd.ntmps8
      go_wp2
      go_ret
      exact ⟨rfl, Below.refl _ _⟩
    · have z3 : decide (600 < t.size) = false := by simpa using h2
      have z4 : decide ((600 : Int) < (t.size : Int)) = false := by simp; omega
      have hls : s.data.toList.length = s.size := by rw [Array.length_toList]; rfl
      have hlt : t.data.toList.length = t.size := by rw [Array.length_toList]; rfl
      have D1 := Lib.hid (diff_any s t w (by omega) (by omega) hT)
      have D2 := Lib.hid (fun W (hb : Below w.heap.size w W) => diff_any t s W (by omega) (by omega) (hT.below hb))
      have D3 := Lib.hid (fun W (hb : Below w.heap.size w W) => diff_any s s W (by omega) (by omega) (hT.below hb))
      have CT := Lib.hid (fun W (hb : Below w.heap.size w W) => count_any s W (by omega) (hT.below hb))
      have AW := Lib.hid (fun W (hb : Below w.heap.size w W) => awake_any W (hT.below hb))
      have TF := turned_facts s.data.toList t.data.toList (by omega)
      have SF := same_facts s.data.toList (by omega)
      have M1 := Lib.hid (mild_diff s.data.toList t.data.toList (by omega))
      have M2 := Lib.hid (mild_diff t.data.toList s.data.toList (by omega))
      obtain ⟨d1, hd1⟩ : ∃ d, diffF s.data.toList t.data.toList = d := ⟨_, rfl⟩
      obtain ⟨d2, hd2⟩ : ∃ d, diffF t.data.toList s.data.toList = d := ⟨_, rfl⟩
      rw [hd1] at D1 TF M1
      rw [hd2] at D2 TF M2
      obtain ⟨L1, e1⟩ := d1
      obtain ⟨L2, e2⟩ := d2
      simp only at TF
      obtain ⟨rfl, hcc, he5⟩ := TF
      obtain ⟨cc, hc1⟩ : ∃ c, costV L1 = c := ⟨_, rfl⟩
      have HC1 := Lib.hid hc1
      have HC2 := Lib.hid (hcc.symm.trans hc1)
      have heI : (e1 : Int) ≤ 5 := by omega
      have he0 : (0 : Int) ≤ (e1 : Int) := by omega
      clear h1 h2 hT hs ht hls hlt hd1 hd2 hcc hc1 he5
      rcases SF with ⟨hc5, hdd⟩ | ⟨n, hcn, hn4, hdd⟩
      · have hcs : cntE s.data.toList = ((cntE s.data.toList).1, 5) := by rw [← hc5]
        obtain ⟨k, hk⟩ : ∃ k, (cntE s.data.toList).1 = k := ⟨_, rfl⟩
        rw [hcs, hk] at CT
        rw [hdd] at D3
        clear hc5 hdd hcs hk
        go_enter Tryd.func8, Tryd.ntmps8
        go_wp2_with (first
          | (go_at_call 13; have Q3 := Q2; (refine (D3.out _ HB2.out).mono ?_); rintro en w3 ⟨a3, c3, rfl, ho3, hb3⟩; have HB3 := Lib.hid (HB2.out.trans (hb3.mono HB2.out.size)); have O1c := Lib.hid (O1b.out.below hb3); have O2b := Lib.hid (O2.out.below hb3); have O3 := Lib.hid ho3; clear ho3 hb3)
          | (go_at_call 13; have Q1 := Q0; (refine (D2.out _ HB1.out).mono ?_); rintro en w2 ⟨a2, c2, rfl, ho2, hb2⟩; have HB2 := Lib.hid (HB1.out.trans (hb2.mono HB1.out.size)); have O1b := Lib.hid (O1.out.below hb2); have O2 := Lib.hid ho2; have Q2 := trivial; clear ho2 hb2)
          | (go_at_call 13; (refine D1.out.mono ?_); rintro en w1 ⟨a1, c1, rfl, ho1, hb1⟩; have HB1 := Lib.hid hb1; have O1 := Lib.hid ho1; have Q0 := trivial; clear ho1 hb1)
          | (go_at_call 18; have Q5 := Q4; (refine (cost_any a2 _ c2 L2 _ O2c.out M2.out (HT.out.below HB4.out)).mono ?_); rintro en w5 ⟨he6, hb5⟩; rw [HC2.out] at he6; subst he6; have HB5 := Lib.hid (HB4.out.trans (hb5.mono HB4.out.size)); have O3c := Lib.hid (O3b.out.below hb5); clear hb5)
          | (go_at_call 18; (refine (cost_any a1 _ c1 L1 _ O1c.out M1.out (HT.out.below HB3.out)).mono ?_); rintro en w4 ⟨he6, hb4⟩; rw [HC1.out] at he6; subst he6; have HB4 := Lib.hid (HB3.out.trans (hb4.mono HB3.out.size)); have O2c := Lib.hid (O2b.out.below hb4); have O3b := Lib.hid (O3.out.below hb4); have Q4 := trivial; clear hb4)
          | (go_at_call 22; (refine (CT.out _ HB5.out).mono ?_); rintro en w6 ⟨rfl, hb6⟩; have HB6 := Lib.hid (HB5.out.trans (hb6.mono HB5.out.size)); have O3d := Lib.hid (O3c.out.below hb6); clear hb6)
          | (go_at_call 12; (refine (AW.out _ HB6.out).mono ?_); rintro en w7 ⟨rfl, hb7⟩; have HB7 := Lib.hid (HB6.out.trans (hb7.mono HB6.out.size)); clear hb7))
        go_ret
        exact ⟨rfl, HB7.out⟩
      · have hnI : (n : Int) ≤ 4096 := by omega
        have hn0I : (0 : Int) ≤ (n : Int) := by omega
        rw [hcn] at CT
        by_cases hn : n = 0
        · rw [if_pos hn] at hdd
          rw [hdd] at D3
          have y1 : (n == 0) = true := by simpa using hn
          have y2 : ((n : Int) == 0) = true := by rw [nat_zero]; exact y1
          clear hcn hdd hn
          go_enter Tryd.func8, Tryd.ntmps8
          go_wp2_with (first
            | (go_at_call 13; have Q3 := Q2; (refine (D3.out _ HB2.out).mono ?_); rintro en w3 ⟨a3, c3, rfl, ho3, hb3⟩; have HB3 := Lib.hid (HB2.out.trans (hb3.mono HB2.out.size)); have O1c := Lib.hid (O1b.out.below hb3); have O2b := Lib.hid (O2.out.below hb3); have O3 := Lib.hid ho3; clear ho3 hb3)
            | (go_at_call 13; have Q1 := Q0; (refine (D2.out _ HB1.out).mono ?_); rintro en w2 ⟨a2, c2, rfl, ho2, hb2⟩; have HB2 := Lib.hid (HB1.out.trans (hb2.mono HB1.out.size)); have O1b := Lib.hid (O1.out.below hb2); have O2 := Lib.hid ho2; have Q2 := trivial; clear ho2 hb2)
            | (go_at_call 13; (refine D1.out.mono ?_); rintro en w1 ⟨a1, c1, rfl, ho1, hb1⟩; have HB1 := Lib.hid hb1; have O1 := Lib.hid ho1; have Q0 := trivial; clear ho1 hb1)
            | (go_at_call 18; have Q5 := Q4; (refine (cost_any a2 _ c2 L2 _ O2c.out M2.out (HT.out.below HB4.out)).mono ?_); rintro en w5 ⟨he6, hb5⟩; rw [HC2.out] at he6; subst he6; have HB5 := Lib.hid (HB4.out.trans (hb5.mono HB4.out.size)); have O3c := Lib.hid (O3b.out.below hb5); clear hb5)
            | (go_at_call 18; (refine (cost_any a1 _ c1 L1 _ O1c.out M1.out (HT.out.below HB3.out)).mono ?_); rintro en w4 ⟨he6, hb4⟩; rw [HC1.out] at he6; subst he6; have HB4 := Lib.hid (HB3.out.trans (hb4.mono HB3.out.size)); have O2c := Lib.hid (O2b.out.below hb4); have O3b := Lib.hid (O3.out.below hb4); have Q4 := trivial; clear hb4)
            | (go_at_call 22; (refine (CT.out _ HB5.out).mono ?_); rintro en w6 ⟨rfl, hb6⟩; have HB6 := Lib.hid (HB5.out.trans (hb6.mono HB5.out.size)); have O3d := Lib.hid (O3c.out.below hb6); clear hb6)
            | (go_at_call 12; (refine (AW.out _ HB6.out).mono ?_); rintro en w7 ⟨rfl, hb7⟩; have HB7 := Lib.hid (HB6.out.trans (hb7.mono HB6.out.size)); clear hb7))
          go_ret
          exact ⟨rfl, HB7.out⟩
        · rw [if_neg hn] at hdd
          rw [hdd] at D3
          have y1 : (n == 0) = false := by simpa using hn
          have y2 : ((n : Int) == 0) = false := by rw [nat_zero]; exact y1
          clear hcn hdd hn
          go_enter Tryd.func8, Tryd.ntmps8
          go_wp2_with (first
            | (go_at_call 13; have Q3 := Q2; (refine (D3.out _ HB2.out).mono ?_); rintro en w3 ⟨a3, c3, rfl, ho3, hb3⟩; have HB3 := Lib.hid (HB2.out.trans (hb3.mono HB2.out.size)); have O1c := Lib.hid (O1b.out.below hb3); have O2b := Lib.hid (O2.out.below hb3); have O3 := Lib.hid ho3; clear ho3 hb3)
            | (go_at_call 13; have Q1 := Q0; (refine (D2.out _ HB1.out).mono ?_); rintro en w2 ⟨a2, c2, rfl, ho2, hb2⟩; have HB2 := Lib.hid (HB1.out.trans (hb2.mono HB1.out.size)); have O1b := Lib.hid (O1.out.below hb2); have O2 := Lib.hid ho2; have Q2 := trivial; clear ho2 hb2)
            | (go_at_call 13; (refine D1.out.mono ?_); rintro en w1 ⟨a1, c1, rfl, ho1, hb1⟩; have HB1 := Lib.hid hb1; have O1 := Lib.hid ho1; have Q0 := trivial; clear ho1 hb1)
            | (go_at_call 18; have Q5 := Q4; (refine (cost_any a2 _ c2 L2 _ O2c.out M2.out (HT.out.below HB4.out)).mono ?_); rintro en w5 ⟨he6, hb5⟩; rw [HC2.out] at he6; subst he6; have HB5 := Lib.hid (HB4.out.trans (hb5.mono HB4.out.size)); have O3c := Lib.hid (O3b.out.below hb5); clear hb5)
            | (go_at_call 18; (refine (cost_any a1 _ c1 L1 _ O1c.out M1.out (HT.out.below HB3.out)).mono ?_); rintro en w4 ⟨he6, hb4⟩; rw [HC1.out] at he6; subst he6; have HB4 := Lib.hid (HB3.out.trans (hb4.mono HB3.out.size)); have O2c := Lib.hid (O2b.out.below hb4); have O3b := Lib.hid (O3.out.below hb4); have Q4 := trivial; clear hb4)
            | (go_at_call 22; (refine (CT.out _ HB5.out).mono ?_); rintro en w6 ⟨rfl, hb6⟩; have HB6 := Lib.hid (HB5.out.trans (hb6.mono HB5.out.size)); have O3d := Lib.hid (O3c.out.below hb6); obtain ⟨b3, o3, h3, x0, x1, x2⟩ := ed_one O3d.out; subst h3; replace x2 : w6.cell? ⟨b3, o3 + 2, none⟩ = some (.string ⟨#[]⟩) := x2; clear hb6)
            | (go_at_call 12; (refine (AW.out _ HB6.out).mono ?_); rintro en w7 ⟨rfl, hb7⟩; have HB7 := Lib.hid (HB6.out.trans (hb7.mono HB6.out.size)); clear hb7))
          go_ret
          exact ⟨rfl, HB7.out⟩
#print axioms turned_any
end Go.Proofs.YthhhfonhcnkogaaDoor
