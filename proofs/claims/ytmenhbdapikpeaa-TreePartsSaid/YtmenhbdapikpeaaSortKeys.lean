/-
  The walk of SortKeys: the places of keys in order.
-/
import Derived.Test.YtmenhbdapikpeaaIntSort
namespace Go.Proofs.Ytmenhbdapikpeaa
open Go.RowKit

/-- The places, as far as they are put. -/
def plF (n j : Nat) : List Nat := List.range j ++ List.replicate (n - j) 0
theorem plF_zero (n : Nat) : plF n 0 = List.replicate n 0 := by simp [plF]
theorem plF_all (n : Nat) : plF n n = List.range n := by simp [plF]
theorem plF_length {n j : Nat} (h : j ≤ n) : (plF n j).length = n := by simp [plF]; omega
theorem plF_step {n j : Nat} (h : j < n) : (plF n j).set j j = plF n (j + 1) := by
  unfold plF
  rw [List.set_append_right _ _ (by simp), List.length_range, Nat.sub_self, show n - j = (n - (j + 1)) + 1 from by omega, List.replicate_succ, List.set_cons_zero, List.range_succ]
  simp

theorem cell_box (w : World) (v : Value) (T : TypeId) : (w.alloc (.cells #[v] T)).cell? ⟨w.heap.size, 0, none⟩ = some v := by
  rw [World.cell?_alloc_at _ _ _ _ rfl]
  rfl

theorem cell_grown0 {w w' : World} {b o : Nat} {v : Value} (h : w.cell? ⟨b, o, none⟩ = some v) (hg : w.grownBy w' none) : w'.cell? ⟨b, o, none⟩ = some v := by
  have hb := hg.block b (World.block_lt_of_cell? _ _ h) (by simp)
  rw [← h]
  unfold World.cell?
  rw [hb]

set_option maxRecDepth 100000 in
set_option maxHeartbeats 4000000 in
theorem sortKeys_any (a : Option Addr) (n c : Nat) (K : List KeyV) (w : World) (hK : KeysAt w a n c K) (hl : n ≤ 1000000000) :
    Calls Try.prog 36 #[.slice a n c] w fun e w' => ∃ a1 c1 L, e = .returned (.slice a1 n c1) ∧ Own1 N 3 w' w.heap.size (.slice a1 n c1) L ∧ L.Perm (List.range n) ∧ UpG (plB K) L ∧ Below w.heap.size w w' := by
  have hnI : (n : Int) ≤ 1000000000 := by omega
  have hn0 : (0 : Int) ≤ (n : Int) := by omega
  have HNB := Lib.hid hl
  have HKK := Lib.hid hK
  have HBX := Lib.hid (show Below w.heap.size w (w.alloc (.cells #[.slice a n c] 73)) from (Below.refl _ _).alloc (Nat.le_refl _) _)
  have HCX := Lib.hid (show (w.alloc (.cells #[.slice a n c] 73)).cell? ⟨w.heap.size, 0, none⟩ = some (.slice a n c) from cell_box w _ _)
  clear hK hl
  go_enter Try.func36, Try.ntmps36
  go_wp2_with (at_make; go_must (refine make1 N (z0 := 0) Try.underlying27 infoN rfl rfl _ _ rfl n rfl rfl HNB.out (by omega) ?_); intro w2 hz hgz; have hc2 := cell_grown0 HCX.out hgz)
  have hb2 : Below w.heap.size w w2 := HBX.out.grown hgz (by simp) (fun k hk => by cases hk)
  have ho2 := hz.mono (base' := w.heap.size) (by simp)
  have eS : (w.alloc (.cells #[.slice a n c] 73)).heap.size = w.heap.size + 1 := by simp
  rw [← plF_zero, eS] at ho2
  have HI0 := Lib.hid (And.intro hc2 (And.intro hb2 ho2))
  clear hb2 ho2 hz hgz eS
  obtain ⟨gs, hgs⟩ : ∃ gs, gs = w.heap.size + 1 := ⟨_, rfl⟩
  have HNE := Lib.hid (show gs ≠ w.heap.size by omega)
  rw [← hgs] at HI0 ⊢
  clear hgs hc2
  go_loopg [4, 10] n (fun g v4 v10 W => ∃ j : Nat, v10 = .int .i64 j ∧ Hid (g + j = n) ∧ (j : Int) ≤ (n : Int) ∧ Hid (W.cell? ⟨w.heap.size, 0, none⟩ = some (.slice a n c) ∧ Below w.heap.size w W ∧ Own1 N 3 W w.heap.size (.slice (some ⟨gs, 0, none⟩) n n) (plF n j)))
  case atStart => exact ⟨0, rfl, Lib.hid rfl, by omega, HI0⟩
  case round =>
    clear HI0
    obtain ⟨j, rfl, HG, hjI, HI⟩ := hrel
    have hj0 : (0 : Int) ≤ (j : Int) := by omega
    by_cases hj : (j : Int) < (n : Int)
    · have hjn : j < n := by omega
      have HJ := Lib.hid hjn
      have hgsb : w.heap.size ≤ gs := by
        obtain ⟨g', hg', hgb, _⟩ := HI.out.2.2.row (by omega)
        simp only [Option.some.injEq, Addr.mk.injEq, and_true] at hg'
        omega
      have HGB := Lib.hid hgsb
      have hfz := own_frozenN HI.out.2.2 (by omega) j
      have hce := HI.out.2.2.at1.cell j hjn
      rw [Nat.zero_add] at hce
      obtain ⟨old, hold⟩ : ∃ old, old = (plF n j).getD j 0 := ⟨_, rfl⟩
      rw [← hold] at hce
      have hce' : wr.cell? ⟨gs, j, none⟩ = some (.int .i64 (old : Int)) := hce
      have HSN := Lib.hid (show (wr.setCell ⟨gs, j, none⟩ (.int .i64 (j : Int))).cell? ⟨w.heap.size, 0, none⟩ = some (.slice a n c) ∧ Below w.heap.size w (wr.setCell ⟨gs, j, none⟩ (.int .i64 (j : Int))) ∧ Own1 N 3 (wr.setCell ⟨gs, j, none⟩ (.int .i64 (j : Int))) w.heap.size (.slice (some ⟨gs, 0, none⟩) n n) (plF n (j + 1)) from
        ⟨cell_grown HI.out.1 (grown_set wr gs j _) (fun h => HNE.out h.symm), HI.out.2.1.grown (grown_set wr gs j _) HI.out.2.1.size (fun k hk => by cases hk; exact HGB.out), by
          have h1 := HI.out.2.2.store (plF_length (Nat.le_of_lt HJ.out)) j j
          rwa [plF_step HJ.out] at h1⟩)
      clear hce hold hgsb
      go_wp2
      go_roundg (gk - 1)
      case measure => have := HG.out; have := HJ.out; omega
      case rel => exact ⟨j + 1, by go_num, Lib.hid (by have := HG.out; have := HJ.out; omega), by omega, HSN⟩
    · have hjn : j = n := by omega
      subst hjn
      have hat := HI.out.2.2.at1
      rw [plF_all] at hat
      have HS := Lib.hid (sortedN_any _ j j w.heap.size c a K wr hat HNB.out (HKK.out.below HI.out.2.1) HI.out.1)
      have HSZ := Lib.hid HI.out.2.1
      clear hat
      unfold clV at HS
      go_wp2_with (go_at_call 42; go_must (refine HS.out.mono ?_); rintro e w3 ⟨a1, c1, L, rfl, hown, hp, hu, hb3⟩)
      go_ret
      exact ⟨_, _, L, rfl, hown.mono HSZ.out.size, hp, hu, Below.trans HSZ.out (hb3.mono HSZ.out.size)⟩
#print axioms sortKeys_any
end Go.Proofs.Ytmenhbdapikpeaa
