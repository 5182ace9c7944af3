/-
  The walks of the document's Same and the program's Shares.
-/
import Derived.Test.YtkafeadgjpglaaaMeans0
import Derived.Test.YtkafeadgjpglaaaRank
namespace Go.Proofs.Ytkafeadgjpglaaa
open Go.RowKit

theorem run_store_float (P : Program) (w : World) (a : Addr) (b : Nat) (m : Mode) : (store a (.float .f64 b) m).run P w = stored P w a (.float .f64 b) m := run_store P w a _ m rfl

set_option maxRecDepth 100000 in
set_option maxHeartbeats 1000000 in
theorem same_yes (a : Option Addr) (n c : Nat) (l : List Nat) (b : Option Addr) (d : Nat) (k : List Nat) (w : World) (ha : At1 F w a n c l) (hb : At1 F w b n d k) (hn : n ≤ 1000000000) (h1 : W64 l) (h2 : W64 k)
    (h : ∀ j, j < n → Sim (l.getD j 0) (k.getD j 0)) : Calls Try.prog 29 #[.slice a n c, .slice b n d] w (Yes w) := by
  have HA := Lib.hid ha
  have HB := Lib.hid hb
  have H1 := Lib.hid h1
  have H2 := Lib.hid h2
  have HH := Lib.hid h
  have hnI : (n : Int) ≤ 1000000000 := by omega
  clear ha hb hn h1 h2 h
  go_enter Try.func29, Try.ntmps29
  go_wp2
  go_loopg [5] n (fun g v5 W => ∃ j : Nat, Below w.heap.size w W ∧ v5 = .int .i64 j ∧ g + j = n)
  case atStart => exact ⟨0, Below.refl _ _, rfl, rfl⟩
  case round =>
    obtain ⟨j, hbw, rfl, hg⟩ := hrel
    have HG := Lib.hid hg
    have hj0 : (0 : Int) ≤ (j : Int) := by omega
    have hjI : (j : Int) ≤ (n : Int) := by omega
    by_cases hj : (j : Int) < (n : Int)
    · have hjn : j < n := by omega
      obtain ⟨ba, oa, rfl⟩ := HA.out.some_ (by omega)
      obtain ⟨bb, ob, rfl⟩ := HB.out.some_ (by omega)
      obtain ⟨x, hx⟩ : ∃ x, x = l.getD j 0 := ⟨_, rfl⟩
      obtain ⟨y, hy⟩ : ∃ y, y = k.getD j 0 := ⟨_, rfl⟩
      have hca : wr.cell? ⟨ba, oa + j, none⟩ = some (.float .f64 x) := by rw [hx]; exact (HA.out.below hbw).cell j hjn
      have hcb : wr.cell? ⟨bb, ob + j, none⟩ = some (.float .f64 y) := by rw [hy]; exact (HB.out.below hbw).cell j hjn
      have HO := fun W => Lib.hid (refOrder_is x y 0 W (by rw [hx]; exact H1.out j) (by rw [hy]; exact H2.out j) (by rw [hx, hy]; exact (HH.out j hjn).ord))
      have HJ := Lib.hid hjn
      clear hg hx hy
      go_wp2
      go_quiet ((go_at_call 15; exact Calls.quiet_of_same ((HO _).out.mono fun e w9 h => ⟨h.1, h.2.symm⟩)))
      have hbd := below_drewN hbw nq
      go_wp2
      go_roundg (n - (j + 1))
      case measure => have := HG.out; have := HJ.out; omega
      case rel => exact ⟨j + 1, hbd, by go_num, by have := HJ.out; omega⟩
    · clear hg
      go_wp2
      go_ret
      exact ⟨rfl, hbw⟩

theorem at_row {w : World} {base g n c j : Nat} {Q : List Nat} (h : Own1 F 23 w base (.slice (some ⟨g, 0, none⟩) n c) Q) (hj : j < n) : (∃ y, w.cell? ⟨g, j, none⟩ = some (.float .f64 y)) ∧ w.frozen? ⟨g, j, none⟩ = false := by
  refine ⟨⟨Q.getD j 0, ?_⟩, ?_⟩
  · have := h.at1.cell j hj
    rwa [Nat.zero_add] at this
  · obtain ⟨_, hgr, _, _, _, hfr⟩ := h.row (by omega)
    simp only [Option.some.injEq, Addr.mk.injEq, and_true] at hgr
    rw [hgr]; exact hfr j

/-- A first part of quotients laid over zeros. -/
theorem set_at (Q : List Nat) (j r : Nat) (n : Nat) (hl : Q.length = n) (hj : j < n) (P : Nat → Nat → Prop) (hP : ∀ i, i < j → P i (Q.getD i 0)) (hr : P j r) : ∀ i, i < j + 1 → P i ((Q.set j r).getD i 0) := by
  intro i hi
  rcases Nat.lt_or_ge i j with h | h
  · have e : (Q.set j r).getD i 0 = Q.getD i 0 := by
      simp only [List.getD_eq_getElem?_getD]
      rw [List.getElem?_set_ne (by omega)]
    rw [e]; exact hP i h
  · obtain rfl : i = j := by omega
    have e : (Q.set i r).getD i 0 = r := by
      simp only [List.getD_eq_getElem?_getD]
      rw [List.getElem?_set_self (by omega)]
      rfl
    rw [e]; exact hr

/-- What Shares answers. -/
def SharesIs (L : List Nat) (n : Nat) (w : World) (e : Ending) (w' : World) : Prop := ∃ s Q a c, e = .returned (.slice a n c) ∧ At1 F w' a n c Q ∧ SumTo L n s ∧ (∀ i, i < n → FOp .quo (L.getD i 0) s (Q.getD i 0)) ∧ Below w.heap.size w w'

set_option maxRecDepth 100000 in
set_option maxHeartbeats 1000000 in
theorem shares_any (a : Option Addr) (n c : Nat) (L : List Nat) (w : World) (hL : At1 F w a n c L) (hn : n ≤ 1000000000) : Calls Try.prog 30 #[.slice a n c] w (SharesIs L n w) := by
  have H1 := Lib.hid (sum_any a n c L w hL hn)
  have HL := Lib.hid hL
  have HN := Lib.hid hn
  have hnI : (n : Int) ≤ 1000000000 := by omega
  have hn0 : (0 : Int) ≤ (n : Int) := by omega
  clear hL hn
  have hsf := fun (W : World) (A : Addr) (b : Nat) (m : Mode) => run_store_float Try.prog W A b m
  go_enter Try.func30, Try.ntmps30
  go_wp2_with (first
    | (go_at_call 67; (with_reducible refine H1.out.mono ?_); rintro e w1 ⟨s, rfl, hs, hb⟩; have HS := Lib.hid hs; have HB := Lib.hid hb; clear hs hb)
    | (at_make; go_must (refine make1 F Try.underlying29 infoF rfl rfl _ _ rfl n rfl rfl HN.out (by decide) ?_); intro w2 hz hgz; have HZ := Lib.hid hz; have HGZ := Lib.hid hgz; clear hz hgz))
  have HB2 := Lib.hid (HB.out.grown HGZ.out HB.out.size (fun k hk => by cases hk))
  have HLt := Lib.hid HB.out.size
  clear HGZ
  go_loopg [14] n (fun g v14 W => ∃ (j : Nat) (Q : List Nat), v14 = .int .i64 j ∧ g + j = n ∧ Below w.heap.size w W ∧ Hid (Own1 F 23 W w1.heap.size (.slice (some ⟨w1.heap.size, 0, none⟩) n n) Q) ∧ Hid (∀ i, i < j → FOp .quo (L.getD i 0) s (Q.getD i 0)))
  case atStart => exact ⟨0, _, rfl, rfl, HB2.out, HZ, Lib.hid (fun i hi => by omega)⟩
  case round =>
    clear HZ HB2
    obtain ⟨j, Q, rfl, hg, hbw, HO, HQ⟩ := hrel
    have HG := Lib.hid hg
    have hj0 : (0 : Int) ≤ (j : Int) := by omega
    have hjI : (j : Int) ≤ (n : Int) := by omega
    by_cases hj : (j : Int) < (n : Int)
    · have hjn : j < n := by omega
      have HJ := Lib.hid hjn
      obtain ⟨b, off, rfl⟩ := HL.out.some_ (by omega)
      obtain ⟨x, hx⟩ : ∃ x, x = L.getD j 0 := ⟨_, rfl⟩
      have hc : wr.cell? ⟨b, off + j, none⟩ = some (.float .f64 x) := by rw [hx]; exact (HL.out.below hbw).cell j hjn
      have HX := Lib.hid hx
      have HBW := Lib.hid hbw
      clear hg hx hbw
      go_wp2_with ((with_reducible show wpList _ _ _ (⟨some 23, _, _, _, _, _⟩ :: _) _ _); refine wl_fop (wanted_plain rfl) .quo (.inr rfl) _ _ _ rfl x s rfl rfl ?_; intro t w3 ht hb; have HT := Lib.hid ht; have HO3 := Lib.hid (HO.out.below hb); have HB3 := Lib.hid (Below.step HBW.out hb); obtain ⟨⟨y, hcy⟩, hfz⟩ := at_row HO3.out HJ.out; clear ht hb)
      have HO4 := Lib.hid (HO3.out.store HO3.out.len j t)
      have HB4 := Lib.hid (show Below w.heap.size w (w3.setCell ⟨w1.heap.size, j, none⟩ (.float .f64 t)) from HB3.out.setCell (by have := HLt.out; simp; omega) _)
      have HQ4 := Lib.hid (set_at Q j t n HO.out.len HJ.out (fun i r => FOp .quo (L.getD i 0) s r) HQ.out (by rw [← HX.out]; exact HT.out))
      go_roundg (n - (j + 1))
      case measure => have := HG.out; have := HJ.out; omega
      case rel => exact ⟨j + 1, Q.set j t, by go_num, by have := HJ.out; omega, HB4.out, HO4, HQ4⟩
    · have hjn : j = n := by omega
      subst hjn
      clear hg
      go_wp2
      go_ret
      exact ⟨s, Q, _, _, rfl, HO.out.at1, HS.out, HQ.out, hbw⟩
end Go.Proofs.Ytkafeadgjpglaaa
