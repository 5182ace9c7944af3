/-
  Sums, means, shares: what two runs of one sum have in common; the program's sum, Mean, and the document's Sum, Same.
-/
import Derived.Test.YtkafeadgjpglaaaScoreAwake
namespace Go.Proofs.Ytkafeadgjpglaaa
open Go.RowKit
open Ieee

/-- One float: the same, or none both. -/
def Sim (r s : Nat) : Prop := r = s ∨ (nanB r = true ∧ nanB s = true)
theorem Sim.refl (r : Nat) : Sim r r := .inl rfl
theorem Sim.ord {r s : Nat} (h : Sim r s) : 0 = ordF r s := by
  rcases h with rfl | ⟨h1, h2⟩
  · exact (ordF_self _).symm
  · unfold ordF
    rw [nan_rise h1, nan_rise h2]
    unfold intO
    rw [if_neg (by omega), if_neg (by omega)]
theorem fb_nan_left {op : BinOp} (hop : op = .add ∨ op = .quo) {x y : Nat} (h : nanB x = true) : floatBits op .f64 x y = none := by
  unfold nanB at h
  rcases hop with rfl | rfl
  · show double.add x y = none
    unfold Format.add
    rw [read_nan (of_decide_eq_true h)]
    cases double.read y <;> rfl
  · show double.div x y = none
    unfold Format.div
    rw [read_nan (of_decide_eq_true h)]
    cases double.read y <;> rfl
theorem fb_nan_right {op : BinOp} (hop : op = .add ∨ op = .quo) {x y : Nat} (h : nanB y = true) : floatBits op .f64 x y = none := by
  unfold nanB at h
  rcases hop with rfl | rfl
  · show double.add x y = none
    unfold Format.add
    rw [read_nan (of_decide_eq_true h)]
    cases double.read x <;> rfl
  · show double.div x y = none
    unfold Format.div
    rw [read_nan (of_decide_eq_true h)]
    cases double.read x <;> rfl
theorem FOp.sim {op : BinOp} (hop : op = .add ∨ op = .quo) {x y x' y' r s : Nat} (hx : Sim x x') (hy : Sim y y') (h : FOp op x y r) (k : FOp op x' y' s) : Sim r s := by
  unfold FOp at h k
  rcases hx with rfl | ⟨h1, h2⟩
  · rcases hy with rfl | ⟨h1, h2⟩
    · cases hf : floatBits op .f64 x y with
      | some q =>
        rw [hf] at h k
        exact .inl (h.trans (Eq.symm k))
      | none =>
        rw [hf] at h k
        exact .inr ⟨h.1, k.1⟩
    · rw [fb_nan_right hop h1] at h
      rw [fb_nan_right hop h2] at k
      exact .inr ⟨h.1, k.1⟩
  · rw [fb_nan_left hop h1] at h
    rw [fb_nan_left hop h2] at k
    exact .inr ⟨h.1, k.1⟩

/-- A sum of the first so many, one by one. -/
def SumTo (L : List Nat) : Nat → Nat → Prop
  | 0, s => s = 0
  | j + 1, s => ∃ p, SumTo L j p ∧ FOp .add p (L.getD j 0) s
theorem SumTo.sim {L : List Nat} : ∀ {j s t : Nat}, SumTo L j s → SumTo L j t → Sim s t
  | 0, _, _, h, k => .inl (Eq.trans h (Eq.symm k))
  | _ + 1, _, _, ⟨_, h1, h2⟩, ⟨_, k1, k2⟩ => FOp.sim (.inl rfl) (h1.sim k1) (Sim.refl _) h2 k2
theorem SumTo.lt {L : List Nat} : ∀ {j s : Nat}, SumTo L j s → s < 18446744073709551616
  | 0, _, h => by rw [show _ = 0 from h]; decide
  | _ + 1, _, ⟨_, _, h2⟩ => h2.lt

/-- What a sum answers. -/
def SumIs (L : List Nat) (n : Nat) (w : World) (e : Ending) (w' : World) : Prop := ∃ s, e = .returned (.float .f64 s) ∧ SumTo L n s ∧ Below w.heap.size w w'

set_option maxRecDepth 100000 in
set_option maxHeartbeats 1000000 in
theorem sum_any (a : Option Addr) (n c : Nat) (L : List Nat) (w : World) (hL : At1 F w a n c L) (hn : n ≤ 1000000000) : Calls Try.prog 67 #[.slice a n c] w (SumIs L n w) := by
  have HL := Lib.hid hL
  have hnI : (n : Int) ≤ 1000000000 := by omega
  clear hL hn
  go_enter Try.func67, Try.ntmps67
  go_wp2
  go_loopg [3, 8] n (fun g v3 v8 W => ∃ j s : Nat, v3 = .float .f64 s ∧ v8 = .int .i64 j ∧ g + j = n ∧ Below w.heap.size w W ∧ Hid (SumTo L j s))
  case atStart => exact ⟨0, 0, rfl, rfl, rfl, Below.refl _ _, Lib.hid rfl⟩
  case round =>
    obtain ⟨j, s, rfl, rfl, hg, hbw, HS⟩ := hrel
    have HG := Lib.hid hg
    have hj0 : (0 : Int) ≤ (j : Int) := by omega
    have hjI : (j : Int) ≤ (n : Int) := by omega
    have HBW := Lib.hid hbw
    by_cases hj : (j : Int) < (n : Int)
    · have hjn : j < n := by omega
      obtain ⟨b, off, rfl⟩ := HL.out.some_ (by omega)
      obtain ⟨x, hx⟩ : ∃ x, x = L.getD j 0 := ⟨_, rfl⟩
      have hc : wr.cell? ⟨b, off + j, none⟩ = some (.float .f64 x) := by rw [hx]; exact (HL.out.below hbw).cell j hjn
      have HX := Lib.hid hx
      have HJ := Lib.hid hjn
      clear hg hx hbw
      go_wp2_with ((with_reducible show wpList _ _ _ (⟨some 14, _, _, _, _, _⟩ :: _) _ _); refine wl_fop (wanted_plain rfl) .add (.inl rfl) _ _ _ rfl s x rfl rfl ?_; intro t w1 ht hb; have HT := Lib.hid ht; have HB := Lib.hid hb; clear ht hb)
      go_roundg (n - (j + 1))
      case measure => have := HG.out; have := HJ.out; omega
      case rel => exact ⟨j + 1, t, rfl, by go_num, by have := HJ.out; omega, Below.step HBW.out HB.out, Lib.hid ⟨s, HS.out, by rw [← HX.out]; exact HT.out⟩⟩
    · have hjn : j = n := by omega
      subst hjn
      clear hg
      go_wp2
      go_ret
      exact ⟨s, rfl, HS.out, hbw⟩

set_option maxRecDepth 100000 in
set_option maxHeartbeats 1000000 in
theorem refSum_any (a : Option Addr) (n c : Nat) (L : List Nat) (w : World) (hL : At1 F w a n c L) (hn : n ≤ 1000000000) : Calls Try.prog 27 #[.slice a n c] w (SumIs L n w) := by
  have HL := Lib.hid hL
  have hnI : (n : Int) ≤ 1000000000 := by omega
  clear hL hn
  go_enter Try.func27, Try.ntmps27
  go_wp2
  go_loopg [3, 4] n (fun g v3 v8 W => ∃ j s : Nat, v3 = .float .f64 s ∧ v8 = .int .i64 j ∧ g + j = n ∧ Below w.heap.size w W ∧ Hid (SumTo L j s))
  case atStart => exact ⟨0, 0, rfl, rfl, rfl, Below.refl _ _, Lib.hid rfl⟩
  case round =>
    obtain ⟨j, s, rfl, rfl, hg, hbw, HS⟩ := hrel
    have HG := Lib.hid hg
    have hj0 : (0 : Int) ≤ (j : Int) := by omega
    have hjI : (j : Int) ≤ (n : Int) := by omega
    have HBW := Lib.hid hbw
    by_cases hj : (j : Int) < (n : Int)
    · have hjn : j < n := by omega
      obtain ⟨b, off, rfl⟩ := HL.out.some_ (by omega)
      obtain ⟨x, hx⟩ : ∃ x, x = L.getD j 0 := ⟨_, rfl⟩
      have hc : wr.cell? ⟨b, off + j, none⟩ = some (.float .f64 x) := by rw [hx]; exact (HL.out.below hbw).cell j hjn
      have HX := Lib.hid hx
      have HJ := Lib.hid hjn
      clear hg hx hbw
      go_wp2_with ((with_reducible show wpList _ _ _ (⟨some 16, _, _, _, _, _⟩ :: _) _ _); refine wl_fop (wanted_plain rfl) .add (.inl rfl) _ _ _ rfl s x rfl rfl ?_; intro t w1 ht hb; have HT := Lib.hid ht; have HB := Lib.hid hb; clear ht hb)
      go_roundg (n - (j + 1))
      case measure => have := HG.out; have := HJ.out; omega
      case rel => exact ⟨j + 1, t, rfl, by go_num, by have := HJ.out; omega, Below.step HBW.out HB.out, Lib.hid ⟨s, HS.out, by rw [← HX.out]; exact HT.out⟩⟩
    · have hjn : j = n := by omega
      subst hjn
      clear hg
      go_wp2
      go_ret
      exact ⟨s, rfl, HS.out, hbw⟩

/-- What a mean answers. -/
def MeanIs (L : List Nat) (n : Nat) (w : World) (e : Ending) (w' : World) : Prop := ∃ s r, e = .returned (.float .f64 r) ∧ SumTo L n s ∧ FOp .quo s (floatOfInt .f64 n) r ∧ Below w.heap.size w w'
set_option maxRecDepth 100000 in
theorem mean_any (a : Option Addr) (n c : Nat) (L : List Nat) (w : World) (hL : At1 F w a n c L) (hn : n ≤ 1000000000) : Calls Try.prog 28 #[.slice a n c] w (MeanIs L n w) := by
  have H1 := fun W => Lib.hid (fun hb : Below w.heap.size w W => sum_any a n c L W (hL.below hb) hn)
  clear hL hn
  go_enter Try.func28, Try.ntmps28
  go_wp2_with (first
    | (go_at_call 67; (with_reducible refine ((H1 _).out (Below.refl _ _)).mono ?_); rintro e w1 ⟨s, rfl, hs, hb⟩; have HS := Lib.hid hs; have HB := Lib.hid hb; clear hs hb)
    | ((with_reducible show wpList _ _ _ (⟨some 8, _, _, _, _, _⟩ :: _) _ _); refine wl_fop (wanted_plain rfl) .quo (.inr rfl) _ _ _ rfl s (floatOfInt .f64 n) rfl rfl ?_; intro t w2 ht hb; have HT := Lib.hid ht; have HB2 := Lib.hid hb; clear ht hb))
  go_ret
  exact ⟨s, t, rfl, HS.out, HT.out, Below.step HB.out HB2.out⟩
end Go.Proofs.Ytkafeadgjpglaaa
