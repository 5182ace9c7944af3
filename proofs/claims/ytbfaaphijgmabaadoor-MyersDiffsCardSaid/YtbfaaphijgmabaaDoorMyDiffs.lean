/-
  The edits between any two rows of bytes: the law walked.
-/
import Derived.Test.YtbfaaphijgmabaaDoorMyRefDiff
import Derived.Test.YtbfaaphijgmabaaDoorMySame
import Derived.Test.YtbfaaphijgmabaaDoorMyAwake
namespace Go.Proofs.YtbfaaphijgmabaaDoor
open Go.RowKit My

set_option maxRecDepth 100000 in
set_option maxHeartbeats 2000000 in
theorem refDiff_bad (s t : ByteArray) (w : World) (hs : s.size ≤ 4096) (ht : t.size ≤ 4096) (h : (∃ p, runesF s.data.toList = (none, p)) ∨ ∃ p, runesF t.data.toList = (none, p)) :
    Calls Tryd.prog 14 #[.string s, .string t] w (RDiffIs [] 5 w) := by
  rcases runesF_cases s.data.toList with ⟨x, hx⟩ | ⟨p, hx⟩
  · rcases runesF_cases t.data.toList with ⟨y, hy⟩ | ⟨q, hy⟩
    · rcases h with ⟨p, h⟩ | ⟨p, h⟩
      · rw [hx] at h; cases h
      · rw [hy] at h; cases h
    · have RX := Lib.hid (fun W => ref_some s x _ W (by omega) hx)
      have RY := Lib.hid (fun W => ref_none t q W (by omega) hy)
      clear hs ht h hx hy
      go_enter Tryd.func14, Tryd.ntmps14
      go_wp2_with (first
        | (go_at_call 20; have Q2 := Q1; (refine (RY.out _).mono ?_); rintro en w2 ⟨a2, n2, c2, rfl, ho2, hb2⟩; have HB2 := Lib.hid (HB1.out.trans (hb2.mono HB1.out.size)); clear ho2 hb2)
        | (go_at_call 20; (refine (RX.out _).mono ?_); rintro en w1 ⟨a1, n1, c1, rfl, ho1, hb1⟩; have HB1 := Lib.hid hb1; have Q1 := trivial; clear ho1 hb1))
      go_ret2
      exact ⟨none, 0, rfl, AtG.nil, HB2.out⟩
  · have RX := Lib.hid (fun W => ref_none s p W (by omega) hx)
    have RY := Lib.hid (fun W => show Calls Tryd.prog 20 #[.string t] W fun e w' => ∃ a n c z1 z2, e = .returned (.tuple #[.slice a n c, z1, .int .i64 z2]) ∧ Below W.heap.size W w' from by
      rcases runesF_cases t.data.toList with ⟨y, hy⟩ | ⟨q, hy⟩
      · exact (ref_some t y _ W (by omega) hy).mono fun e w' ⟨a, n, c, h1, h2, h3⟩ => ⟨a, n, c, _, _, h1, h3⟩
      · exact (ref_none t q W (by omega) hy).mono fun e w' ⟨a, n, c, h1, h2, h3⟩ => ⟨a, n, c, _, _, h1, h3⟩)
    clear hs ht h hx
    go_enter Tryd.func14, Tryd.ntmps14
    go_wp2_with (first
      | (go_at_call 20; have Q2 := Q1; (refine (RY.out _).mono ?_); rintro en w2 ⟨a2, n2, c2, z1, z2, rfl, hb2⟩; have HB2 := Lib.hid (HB1.out.trans (hb2.mono HB1.out.size)); clear hb2)
      | (go_at_call 20; (refine (RX.out _).mono ?_); rintro en w1 ⟨a1, n1, c1, rfl, ho1, hb1⟩; have HB1 := Lib.hid hb1; have Q1 := trivial; clear ho1 hb1))
    go_ret2
    exact ⟨none, 0, rfl, AtG.nil, HB2.out⟩
/-- The document's Diff answers as the program's. -/
theorem refDiff_any (s t : ByteArray) (w : World) (hs : s.size ≤ 4096) (ht : t.size ≤ 4096) :
    Calls Tryd.prog 14 #[.string s, .string t] w (RDiffIs (diffF s.data.toList t.data.toList).1 (diffF s.data.toList t.data.toList).2 w) := by
  have hsl : s.data.toList.length = s.size := by rw [Array.length_toList]; rfl
  have htl : t.data.toList.length = t.size := by rw [Array.length_toList]; rfl
  rcases runesF_cases s.data.toList with ⟨x, hx⟩ | ⟨p, hx⟩
  · rcases runesF_cases t.data.toList with ⟨y, hy⟩ | ⟨q, hy⟩
    · rw [diff_some hx hy ⟨by omega, by omega⟩]
      exact refDiff_good s t x y _ _ w hs ht hx hy
    · rw [diff_none (.inr (by rw [cntE_none hy]))]
      exact refDiff_bad s t w hs ht (.inr ⟨q, hy⟩)
  · rw [diff_none (.inl (by rw [cntE_none hx]))]
    exact refDiff_bad s t w hs ht (.inl ⟨p, hx⟩)
set_option maxRecDepth 100000 in
set_option maxHeartbeats 4000000 in
theorem diffs_any (s t : ByteArray) (w : World) (hT : Tabs w) (hs : s.size ≤ 140737488355328) (ht : t.size ≤ 140737488355328) : Calls Tryd.prog 4 #[.string s, .string t] w (BoolIs true w) := by
  have HT := Lib.hid hT
  have hsI : (s.size : Int) ≤ 140737488355328 := by omega
  have htI : (t.size : Int) ≤ 140737488355328 := by omega
  by_cases h1 : 300 < s.size
  · have z1 : decide (300 < s.size) = true := by simpa using h1
    have z2 : decide ((300 : Int) < (s.size : Int)) = true := by simp; omega
    clear h1 hT hs ht
    go_enter Tryd.func4, Tryd.ntmps4
    go_wp2
    go_ret
    exact ⟨rfl, Below.refl _ _⟩
  · have z1 : decide (300 < s.size) = false := by simpa using h1
    have z2 : decide ((300 : Int) < (s.size : Int)) = false := by simp; omega
    by_cases h2 : 300 < t.size
    · have z3 : decide (300 < t.size) = true := by simpa using h2
      have z4 : decide ((300 : Int) < (t.size : Int)) = true := by simp; omega
      clear h1 h2 hT hs ht
      go_enter Tryd.func4, Tryd.ntmps4
      go_wp2
      go_ret
      exact ⟨rfl, Below.refl _ _⟩
    · have z3 : decide (300 < t.size) = false := by simpa using h2
      have z4 : decide ((300 : Int) < (t.size : Int)) = false := by simp; omega
      have hls : s.data.toList.length = s.size := by rw [Array.length_toList]; rfl
      have hlt : t.data.toList.length = t.size := by rw [Array.length_toList]; rfl
      have D1 := Lib.hid (diff_any s t w (by omega) (by omega) hT)
      have D2 := Lib.hid (fun W => refDiff_any s t W (by omega) (by omega))
      have AW := Lib.hid (fun W (hb : Below w.heap.size w W) => awake_any W (hT.below hb))
      have HML := Lib.hid (show (diffF s.data.toList t.data.toList).1.length ≤ 100000 from (mild_diff s.data.toList t.data.toList (by omega)).few)
      obtain ⟨d1, hd1⟩ : ∃ d, diffF s.data.toList t.data.toList = d := ⟨_, rfl⟩
      rw [hd1] at D1 D2 HML
      obtain ⟨L1, e1⟩ := d1
      clear h1 h2 hT hs ht hls hlt hd1
      go_enter Tryd.func4, Tryd.ntmps4
      go_wp2_with (first
        | (go_at_call 13; (refine D1.out.mono ?_); rintro en w1 ⟨a1, c1, rfl, ho1, hb1⟩; have HB1 := Lib.hid hb1; have O1 := Lib.hid ho1; clear ho1 hb1)
        | (go_at_call 14; (refine (D2.out _).mono ?_); rintro en w2 ⟨a2, c2, rfl, ho2, hb2⟩; have HB2 := Lib.hid (HB1.out.trans (hb2.mono HB1.out.size)); have O1b := Lib.hid (O1.out.below hb2); have O2 := Lib.hid ho2; clear ho2 hb2)
        | (go_at_call 15; (refine (same_yes16 a1 a2 _ c1 c2 L1 _ O1b.out O2.out HML.out).mono ?_); rintro en w3 ⟨rfl, hb3⟩; have HB3 := Lib.hid (HB2.out.trans (hb3.mono HB2.out.size)); clear hb3)
        | (go_at_call 12; (refine (AW.out _ HB3.out).mono ?_); rintro en w7 ⟨rfl, hb7⟩; have HB7 := Lib.hid (HB3.out.trans (hb7.mono HB3.out.size)); clear hb7))
      go_ret
      exact ⟨rfl, HB7.out⟩
#print axioms diffs_any
end Go.Proofs.YtbfaaphijgmabaaDoor
