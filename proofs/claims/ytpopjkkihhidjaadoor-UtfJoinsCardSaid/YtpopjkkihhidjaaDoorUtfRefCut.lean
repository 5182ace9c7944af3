/-
  The walk of the document's Cut.
-/
import Derived.Test.YtpopjkkihhidjaaDoorUtfCut
namespace Go.Proofs.YtpopjkkihhidjaaDoor
open Go.RowKit

theorem refRunes_some (s : ByteArray) (L : List Nat) (e0 : Nat) (w : World) (hs : s.size ≤ 20000000000) (h : runesF s.data.toList = (some L, e0)) :
    Calls Tryd.prog 18 #[.string s] w fun e w' => ∃ a n c, e = .returned (.tuple #[.slice a n c, .int .i64 0, .int .i64 0]) ∧ Runs w' a n c (zs L) ∧ Below w.heap.size w w' :=
  (refRunes_any s w hs).mono fun _ _ ⟨a, n, c, h1, h2, h3⟩ => ⟨a, n, c, by rw [h1, runE_some h]; rfl, by rw [runE_some h] at h2; exact h2.isRuns, h3⟩
theorem refRunes_none (s : ByteArray) (p : Nat) (w : World) (hs : s.size ≤ 20000000000) (h : runesF s.data.toList = (none, p)) :
    Calls Tryd.prog 18 #[.string s] w fun e w' => ∃ a n c, e = .returned (.tuple #[.slice a n c, .int .i64 p, .int .i64 5]) ∧ Runs w' a n c [] ∧ Below w.heap.size w w' :=
  (refRunes_any s w hs).mono fun _ _ ⟨a, n, c, h1, h2, h3⟩ => ⟨a, n, c, by rw [h1, runE_none h]; rfl, by rw [runE_none h] at h2; exact h2.isRuns, h3⟩

theorem Runs.cut {w : World} {b off n c : Nat} {l : List Int} (h : Runs w (some ⟨b, off, none⟩) n c l) (lo m : Nat) (hm : lo + m ≤ n) :
    Runs w (some ⟨b, off + lo, none⟩) m (c - lo) ((l.drop lo).take m) := by
  obtain ⟨h1, h2, h3, h4⟩ := h
  refine ⟨by simp; omega, by omega, by omega, .inr ⟨_, _, rfl, fun j hj => ?_⟩⟩
  rcases h4 with ⟨_, _⟩ | ⟨b', off', ha, hc⟩
  · omega
  · simp only [Option.some.injEq, Addr.mk.injEq, and_true] at ha
    obtain ⟨rfl, rfl⟩ := ha
    have := hc (lo + j) (by omega)
    rw [show off + lo + j = off + (lo + j) from by omega, this]
    simp [hj]

theorem txtE_zs (L : List Nat) (h : ∀ n, n ∈ L → mayF n = true) : txtE (zs L) = (textF L, 0) := by
  unfold txtE
  rw [if_pos]
  · unfold txt zs
    rw [List.map_map]
    have : (L.map (Int.toNat ∘ fun n : Nat => (n : Int))) = L := by
      rw [List.map_congr_left (g := id) (fun n _ => by simp)]
      simp
    rw [this]
  · rw [List.all_eq_true]
    intro z hz
    unfold zs at hz
    obtain ⟨n, hn, rfl⟩ := List.mem_map.1 hz
    rw [valid_nat]
    exact h n hn

set_option maxRecDepth 100000 in
set_option maxHeartbeats 1000000 in
theorem refCut_bad (s : ByteArray) (f t : Int) (w : World) (hs : s.size ≤ 20000000000) (p : Nat) (h : runesF s.data.toList = (none, p)) :
    Calls Tryd.prog 25 #[.string s, .int .i64 f, .int .i64 t] w (TxtIs (cutE s.data.toList f t) w) := by
  have HC := Lib.hid (refRunes_none s p w hs h)
  have HE := Lib.hid (cutE_none (f := f) (t := t) h)
  clear h hs
  go_enter Tryd.func25, Tryd.ntmps25
  go_wp2_with (go_at_call 18; go_must (refine HC.out.mono ?_); rintro e w1 ⟨a1, n1, c1, rfl, hr1, hb⟩)
  go_ret2
  rw [HE.out]
  exact ⟨rfl, hb⟩

set_option maxRecDepth 100000 in
set_option maxHeartbeats 1000000 in
theorem refCut_arg (s : ByteArray) (f t : Int) (w : World) (hs : s.size ≤ 20000000000) (L : List Nat) (e0 : Nat) (h : runesF s.data.toList = (some L, e0)) (ha : f < 0 ∨ t < f ∨ (L.length : Int) < t) :
    Calls Tryd.prog 25 #[.string s, .int .i64 f, .int .i64 t] w (TxtIs (cutE s.data.toList f t) w) := by
  have HC := Lib.hid (refRunes_some s L _ w hs h)
  have HE := Lib.hid (cutE_arg h ha)
  clear h hs
  by_cases h1 : f < 0
  · clear ha
    go_enter Tryd.func25, Tryd.ntmps25
    go_wp2_with (go_at_call 18; go_must (refine HC.out.mono ?_); rintro e w1 ⟨a1, n1, c1, rfl, hr1, hb⟩)
    go_ret2
    rw [HE.out]
    exact ⟨rfl, hb⟩
  · by_cases h2 : t < f
    · have d1 : decide (f < 0) = false := decide_eq_false h1
      clear ha h1
      go_enter Tryd.func25, Tryd.ntmps25
      go_wp2_with (go_at_call 18; go_must (refine HC.out.mono ?_); rintro e w1 ⟨a1, n1, c1, rfl, hr1, hb⟩)
      go_ret2
      rw [HE.out]
      exact ⟨rfl, hb⟩
    · have h3 : (L.length : Int) < t := by omega
      have d1 : decide (f < 0) = false := decide_eq_false h1
      have d2 : decide (t < f) = false := decide_eq_false h2
      have H3 := Lib.hid h3
      clear ha h1 h2 h3
      go_enter Tryd.func25, Tryd.ntmps25
      go_wp2_with (go_at_call 18; go_must (refine HC.out.mono ?_); rintro e w1 ⟨a1, n1, c1, rfl, hr1, hb⟩; have hn1 : (n1 : Int) < t := by (have h5 := hr1.1; rw [zs_length] at h5; have h6 := H3.out; omega))
      go_ret2
      rw [HE.out]
      exact ⟨rfl, hb⟩

theorem cut_len {L : List Nat} {s : List UInt8} {e f t : Nat} (hs : runesF s = (some L, e)) : txtE (((zs L).drop f).take (t - f)) = (textF ((L.drop f).take (t - f)), 0) := by
  have e1 : ((zs L).drop f).take (t - f) = zs ((L.drop f).take (t - f)) := by unfold zs; rw [List.map_take, List.map_drop]
  rw [e1]
  exact txtE_zs _ (fun n hn => (runesF_some hs).1 n (List.mem_of_mem_drop (List.mem_of_mem_take hn)))

set_option maxRecDepth 100000 in
set_option maxHeartbeats 1000000 in
theorem refCut_ok (s : ByteArray) (f t : Nat) (w : World) (hs : s.size ≤ 5000000000) (L : List Nat) (e0 : Nat) (h : runesF s.data.toList = (some L, e0)) (hf : f ≤ t) (ht : t ≤ L.length) :
    Calls Tryd.prog 25 #[.string s, .int .i64 (f : Int), .int .i64 (t : Int)] w (TxtIs (cutE s.data.toList f t) w) := by
  have HC := Lib.hid (refRunes_some s L _ w (by omega) h)
  have HE := Lib.hid (cutE_ok h hf ht)
  have HT := Lib.hid (cut_len (f := f) (t := t) h)
  have hll := runesF_len h
  rw [str_len] at hll
  have HLL := Lib.hid hll
  have HS := Lib.hid hs
  have HF := Lib.hid (show f ≤ t ∧ t ≤ L.length from ⟨hf, ht⟩)
  have i1 : (0 : Int) ≤ (f : Int) := by omega
  have i2 : (f : Int) ≤ (t : Int) := by omega
  clear h hs hll hf ht
  go_enter Tryd.func25, Tryd.ntmps25
  go_wp2_with fail
  refine HC.out.mono ?_
  rintro e w1 ⟨a1, n1, c1, rfl, hr1, hb⟩
  have hn1 := hr1.1
  rw [zs_length] at hn1
  have hc1 := hr1.2.1
  have i3 : (t : Int) ≤ (n1 : Int) := by have := HF.out; omega
  have i4 : (n1 : Int) ≤ (c1 : Int) := by omega
  have i5 : (t : Int) ≤ (c1 : Int) := by omega
  have HN := Lib.hid hn1
  have HC1 := Lib.hid hc1
  have hc63 := hr1.2.2.1
  have HR := Lib.hid hr1
  clear hn1 hc1
  have HX := Lib.hid (show n1 ≤ 10000000000 by have := HN.out; have := HLL.out; have := HS.out; omega)
  by_cases hfc : f = c1
  · have ht1 : t = f := by have := HF.out; have := HC1.out; have := HN.out; omega
    have hn2 : n1 = f := by have := HF.out; have := HC1.out; have := HN.out; omega
    subst ht1 hn2 hfc
    have hz : ∀ (W : World) (ad : Option Addr), Runs W ad 0 0 (((zs L).drop n1).take (n1 - n1)) := fun W ad => by
      rw [Nat.sub_self, List.take_zero]; exact ⟨rfl, Nat.le_refl _, by omega, .inl ⟨rfl, rfl⟩⟩
    have HZ := Lib.hid hz
    clear hz
    cases a1 with
    | none =>
      go_wp2_with (go_at_call 23; go_must (refine (refText_any _ _ _ _ _ (HZ.out _ _) (by omega)).mono ?_); rintro e w2 ⟨he, hb2⟩; rw [HT.out] at he; subst he)
      go_ret2
      rw [HE.out]
      exact TxtIs.mk (show strB (textF []) = _ by rw [Nat.sub_self, List.take_zero]) (hb.trans (hb2.mono hb.size))
    | some ad =>
      go_wp2_with (go_at_call 23; go_must (refine (refText_any _ _ _ _ _ (HZ.out _ _) (by omega)).mono ?_); rintro e w2 ⟨he, hb2⟩; rw [HT.out] at he; subst he)
      go_ret2
      rw [HE.out]
      exact TxtIs.mk (show strB (textF []) = _ by rw [Nat.sub_self, List.take_zero]) (hb.trans (hb2.mono hb.size))
  · have hfc' : (f : Int) < (c1 : Int) := by have := HC1.out; have := HF.out; have := HN.out; omega
    obtain ⟨ba, oa, rfl⟩ : ∃ b off, a1 = some ⟨b, off, none⟩ := by
      rcases HR.out.2.2.2 with ⟨_, h0⟩ | ⟨b, off, ha, _⟩
      · omega
      · exact ⟨b, off, ha⟩
    have HRC := Lib.hid (HR.out.cut f (t - f) (by have := HF.out; have := HN.out; omega))
    clear hfc
    go_wp2_with (go_at_call 23; go_must (refine (refText_any _ _ _ _ _ HRC.out (by have := HX.out; have := HF.out; have := HN.out; omega)).mono ?_); rintro e w2 ⟨he, hb2⟩; rw [HT.out] at he; subst he)
    go_ret2
    rw [HE.out]
    exact ⟨rfl, hb.trans (hb2.mono hb.size)⟩

theorem refCut_any (s : ByteArray) (f t : Int) (w : World) (hs : s.size ≤ 5000000000) :
    Calls Tryd.prog 25 #[.string s, .int .i64 f, .int .i64 t] w (TxtIs (cutE s.data.toList f t) w) := by
  rcases runesF_cases s.data.toList with ⟨L, hL⟩ | ⟨p, hL⟩
  · by_cases ha : f < 0 ∨ t < f ∨ (L.length : Int) < t
    · exact refCut_arg s f t w (by omega) L _ hL ha
    · obtain ⟨f', rfl⟩ := Int.eq_ofNat_of_zero_le (show 0 ≤ f by omega)
      obtain ⟨t', rfl⟩ := Int.eq_ofNat_of_zero_le (show 0 ≤ t by omega)
      exact refCut_ok s f' t' w hs L _ hL (by omega) (by omega)
  · exact refCut_bad s f t w (by omega) p hL
#print axioms refCut_any
end Go.Proofs.YtpopjkkihhidjaaDoor
