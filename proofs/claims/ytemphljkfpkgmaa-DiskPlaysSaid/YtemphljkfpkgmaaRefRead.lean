/-
  The reference's New, Read, List, Texts walked.
-/
import Derived.Test.YtemphljkfpkgmaaRfDiskAll
import Derived.Test.YtemphljkfpkgmaaDkNamesAll
namespace Go.Proofs.Ytemphljkfpkgmaa
open Go.RowKit

/-- A new one's parts. -/
def newV (q : Int) (m : Bool) : RVal := ⟨m, q, none, 0, 0, none, 0, 0, none, 0, 0, none, 0, 0, none, 0, 0⟩
def zeroS : DS := newS 0
theorem newIn (w : World) (q : Int) (m : Bool) (k : Nat) : RefIn w (newV q m) (newS k) := ⟨⟨[], AtG.nil, (fun j hj => by simp at hj), rfl⟩, AtG.nil, AtG.nil, AtG.nil, AtG.nil⟩
set_option maxRecDepth 100000 in
set_option maxHeartbeats 1000000 in
theorem refNew_any (q : Int) (w : World) : Calls Try.prog 6 #[.int .i64 q] w fun e w' => e = .returned (.agg (refC (newV q (decide (0 ≤ q ∧ q ≤ 1073741824))) zeroS)) ∧ Below w.heap.size w w' := by
  have HB1 := Lib.hid (fun w1 (h : Below w.heap.size w w1) w2 g (h2 : w1.grownBy w2 (some g)) (h3 : w.heap.size ≤ g) => h.grown h2 h.size (fun k hk => by cases hk; exact h3))
  by_cases h0 : 0 ≤ q
  · by_cases h1 : q ≤ 1073741824
    · have e : decide (0 ≤ q ∧ q ≤ 1073741824) = true := decide_eq_true ⟨h0, h1⟩
      rw [e]
      clear e
      go_enter Try.func6, Try.ntmps6
      go_wp2_with (first
        | (refine alloc_row rfl 31 zeroD rfl zero_disk ?_; intro w2 hr2 hb2 hs2; have HZ2 := Lib.hid hr2; have HB2 := Lib.hid hb2; clear hr2 hb2 hs2)
        | (refine store_row rfl 31 _ _ rfl w.heap.size _ zeroD (refL (newV q true) zeroS) rfl rfl HZ2.out rfl infoD (refL_one _ _) ?_; intro w3 hr3 hg3 _; have HB3 := Lib.hid (HB1.out _ HB2.out _ _ hg3 (Nat.le_refl _))))
      exact bodyPost_ret (results_ref1 rfl _ _ w.heap.size _ _ rfl hr3) rfl ⟨rfl, HB3.out⟩
    · have e : decide (0 ≤ q ∧ q ≤ 1073741824) = false := decide_eq_false (fun h => h1 h.2)
      rw [e]
      clear e
      go_enter Try.func6, Try.ntmps6
      go_wp2_with (first
        | (refine alloc_row rfl 31 zeroD rfl zero_disk ?_; intro w2 hr2 hb2 hs2; have HZ2 := Lib.hid hr2; have HB2 := Lib.hid hb2; clear hr2 hb2 hs2)
        | (refine store_row rfl 31 _ _ rfl w.heap.size _ zeroD (refL (newV q false) zeroS) rfl rfl HZ2.out rfl infoD (refL_one _ _) ?_; intro w3 hr3 hg3 _; have HB3 := Lib.hid (HB1.out _ HB2.out _ _ hg3 (Nat.le_refl _))))
      exact bodyPost_ret (results_ref1 rfl _ _ w.heap.size _ _ rfl hr3) rfl ⟨rfl, HB3.out⟩
  · have e : decide (0 ≤ q ∧ q ≤ 1073741824) = false := decide_eq_false (fun h => h0 h.1)
    rw [e]
    clear e
    go_enter Try.func6, Try.ntmps6
    go_wp2_with (first
      | (refine alloc_row rfl 31 zeroD rfl zero_disk ?_; intro w2 hr2 hb2 hs2; have HZ2 := Lib.hid hr2; have HB2 := Lib.hid hb2; clear hr2 hb2 hs2)
      | (refine store_row rfl 31 _ _ rfl w.heap.size _ zeroD (refL (newV q false) zeroS) rfl rfl HZ2.out rfl infoD (refL_one _ _) ?_; intro w3 hr3 hg3 _; have HB3 := Lib.hid (HB1.out _ HB2.out _ _ hg3 (Nat.le_refl _))))
    exact bodyPost_ret (results_ref1 rfl _ _ w.heap.size _ _ rfl hr3) rfl ⟨rfl, HB3.out⟩

theorem readS_bad {S : DS} {s : Nm} {z : Nat} (h : readyS S s s = z) (hz : z ≠ 0) : readS S s = ([], z) := by unfold readS; rw [h, if_pos hz]
theorem readS_none {S : DS} {s : Nm} (h : readyS S s s = 0) (hk : look S.now s = none) : readS S s = ([], 4) := by unfold readS; rw [h, if_neg (by simp), hk]
theorem readS_some {S : DS} {s : Nm} {k : Nat} (h : readyS S s s = 0) (hk : look S.now s = some k) : readS S s = ((fileAt S k).1, 0) := by unfold readS; rw [h, if_neg (by simp), hk]
set_option maxRecDepth 100000 in
set_option maxHeartbeats 1000000 in
theorem refRead_any (V : RVal) (S : DS) (s : Nm) (w : World) (h : RefIn w V S) (hm : V.made = true) (hok : Inv S) (hf : S.files.length ≤ 1000000) :
    Calls Try.prog 24 #[.agg (refC V S), .string (strB s)] w (ReadEnd w (readS S s)) := by
  obtain ⟨z, hz⟩ : ∃ z, readyS S s s = z := ⟨_, rfl⟩
  have HI := Lib.hid h
  have P1 := Lib.hid (fun W => refReady_any V S s s W hm hz)
  have P2 := Lib.hid (fun W (hb : Below w.heap.size w W) => refLook_any V.an V.nn V.cn S.now s W (h.now.below hb))
  have HZI := Lib.hid (show (0 : Int) ≤ (z : Int) by omega)
  by_cases h0 : z = 0
  · cases hk : look S.now s with
    | none =>
      have HE := Lib.hid (readS_none (h0 ▸ hz) hk)
      have e9 : lookZ S.now s = -1 := by unfold lookZ; rw [hk]
      rw [e9] at P2
      subst h0
      clear h hm hok hf hz e9 hk
      go_enter Try.func24, Try.ntmps24
      go_wp2_with (first
        | (refine box_row rfl 31 (.tmp 0) (refL V S) rfl rfl ?_; intro w1 hr1 hb1 _; have HR := Lib.hid hr1; have HB := Lib.hid hb1; clear hb1 hr1)
        | (refine load_row rfl 31 _ rfl w.heap.size _ (refL V S) _ rfl HR.out Try.underlying31 rfl infoD ?_)
        | (go_at_call 34; (with_reducible refine (P1.out _).mono ?_); rintro e w2 ⟨rfl, hb2⟩; have HB2 := Lib.hid (HB.out.trans (hb2.mono HB.out.size)); obtain ⟨k0, k1, k2, k3, k4, k5, k6, k7, k8, k9⟩ := RBox.cells (RBox.below HR.out hb2); clear hb2)
        | (go_at_call 37; (with_reducible refine (P2.out _ HB2.out).mono ?_); rintro e w3 ⟨rfl, hb3⟩; have HB3 := Lib.hid (HB2.out.trans (hb3.mono HB2.out.size)); clear hb3))
      go_ret2
      exact ⟨none, 0, 0, by rw [HE.out]; rfl, by rw [HE.out]; exact Own.nil _ _, HB3.out⟩
    | some k =>
      have HE := Lib.hid (readS_some (h0 ▸ hz) hk)
      have e9 : lookZ S.now s = (k : Int) := by unfold lookZ; rw [hk]
      rw [e9] at P2
      have hkl : k < S.files.length := hok.nids _ (look_mem hk)
      have hlen : ∀ j : Nat, (S.files.getD j ([], 0)).1.length ≤ 1073741824 := fun j => Nat.le_trans (file_syn hok j).2 hok.most
      have HN := Lib.hid (show V.nf = S.files.length from h.files.len ▸ by simp)
      have HKI := Lib.hid hkl
      have HLN := Lib.hid (hlen k)
      have hk0 : (0 : Int) ≤ (k : Int) := by omega
      have hkI : (k : Int) < (V.nf : Int) := by have := HN.out; omega
      have hnfI : (V.nf : Int) ≤ 1000000 := by have := HN.out; omega
      subst h0
      clear h hm hok hf hz e9 hk hkl hlen
      go_enter Try.func24, Try.ntmps24
      go_wp2_with (first
        | (refine box_row rfl 31 (.tmp 0) (refL V S) rfl rfl ?_; intro w1 hr1 hb1 _; have HR := Lib.hid hr1; have HB := Lib.hid hb1; clear hb1 hr1)
        | (refine load_row rfl 31 _ rfl w.heap.size _ (refL V S) _ rfl HR.out Try.underlying31 rfl infoD ?_)
        | (go_at_call 34; (with_reducible refine (P1.out _).mono ?_); rintro e w2 ⟨rfl, hb2⟩; have HB2 := Lib.hid (HB.out.trans (hb2.mono HB.out.size)); have HR2 := Lib.hid (RBox.below HR.out hb2); have HS2 := Lib.hid hb2.size; obtain ⟨k0, k1, k2, k3, k4, k5, k6, k7, k8, k9⟩ := RBox.cells HR2.out; clear hb2)
        | (go_at_call 37; (with_reducible refine (P2.out _ HB2.out).mono ?_); rintro e w3 ⟨rfl, hb3⟩; have HB3 := Lib.hid (HB2.out.trans (hb3.mono HB2.out.size)); have HR3 := Lib.hid (RBox.below HR2.out hb3); clear hb3 k0 k1 k2 k3 k4 k5 k6 k7 k8 k9
           have hb4 := HB3.out.alloc HB3.out.size (.cells #[] 5)
           have HS3 := Lib.hid HB3.out.size
           have HB4 := Lib.hid hb4
           obtain ⟨k0, k1, k2, k3, k4, k5, k6, k7, k8, k9⟩ := RBox.cells (RBox.below HR3.out ((Below.refl _ w3).alloc (Nat.le_refl _) (.cells #[] 5)))
           obtain ⟨bf, of_, a1, n1, c1, hfo, cf, hby⟩ := (HI.out.below hb4).files.at_ (show k < V.nf by have := HN.out; have := HKI.out; omega)
           rw [hfo] at k2
           rw [files_get _ _ HKI.out] at hby
           have hn1 : (n1 : Int) ≤ 1073741824 := by have := hby.1; have := HLN.out; omega
           have HY := Lib.hid hby
           have HN1 := Lib.hid (show ([] : List UInt8).length + n1 ≤ 140737488355328 by simp; omega)
           clear hb4 hby hfo k0 k1 k3 k4 k5 k6 k7 k8 k9)
        | (at_builtin; refine app_bytes rfl _ _ rfl w3.heap.size _ [] rfl (own_empty w3) a1 n1 c1 _ rfl HY.out HN1.out (by simp) ?_; intro v' w' ho hg; have HO := Lib.hid ho; have HB5 := Lib.hid (HB4.out.grown hg HB4.out.size (fun k hk => by cases hk; exact HS3.out)); clear ho hg))
      obtain ⟨fa, fn, fc, rfl, _⟩ := HO.out.bytes
      go_ret2
      exact ⟨fa, fn, fc, by rw [HE.out]; rfl, by rw [HE.out]; exact HO.out.mono HS3.out, HB5.out⟩
  · have HE := Lib.hid (readS_bad hz h0)
    have hz0 : ((z : Int) == 0) = false := by simp; omega
    have hz1 : ((z : Int) != 0) = true := by simp; omega
    clear h hm hok hf hz h0
    go_enter Try.func24, Try.ntmps24
    go_wp2_with (first
      | (refine box_row rfl 31 (.tmp 0) (refL V S) rfl rfl ?_; intro w1 hr1 hb1 _; have HR := Lib.hid hr1; have HB := Lib.hid hb1; clear hb1 hr1)
      | (refine load_row rfl 31 _ rfl w.heap.size _ (refL V S) _ rfl HR.out Try.underlying31 rfl infoD ?_)
      | (go_at_call 34; (with_reducible refine (P1.out _).mono ?_); rintro e w2 ⟨rfl, hb2⟩; have HB2 := Lib.hid (HB.out.trans (hb2.mono HB.out.size)); clear hb2))
    go_ret2
    exact ⟨none, 0, 0, by rw [HE.out]; rfl, by rw [HE.out]; exact Own.nil _ _, HB2.out⟩
#print axioms refNew_any
end Go.Proofs.Ytemphljkfpkgmaa
