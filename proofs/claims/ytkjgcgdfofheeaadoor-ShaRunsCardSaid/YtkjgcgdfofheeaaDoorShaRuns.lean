/-
  The walk of ShaRuns.
-/
import Derived.Test.YtkjgcgdfofheeaaDoorShaEq
import Derived.Deep.LoopGhost
namespace Go.Proofs.YtkjgcgdfofheeaaDoor
open Go.RowKit

theorem own_keep {w w' : World} {base g : Nat} {v : Value} {l : List UInt8} (h : Own w base v l) (hg : w.grownBy w' (some g)) (hlt : g < base) : Own w' base v l := by
  obtain ⟨h1, h2⟩ := h
  refine ⟨h1, ?_⟩
  rcases h2 with h2 | ⟨b, cap, cur, hv, hb, hh, r⟩
  · exact .inl h2
  · refine .inr ⟨b, cap, cur, hv, hb, ?_, r⟩
    have hlt2 : b < w.heap.size := by
      rcases Nat.lt_or_ge b w.heap.size with h | h
      · exact h
      · rw [Array.getElem?_eq_none h] at hh; cases hh
    rw [hg.block b hlt2 (by simp; omega)]; exact hh

theorem rep_next (x : UInt8) (i : Nat) : List.replicate i x ++ [x] = List.replicate (i + 1) x := by
  rw [List.replicate_succ']

theorem HashOf.lt {w : World} {g : Nat} {l : List UInt8} (h : HashOf w g l) : g < w.heap.size := by
  obtain ⟨_, _, _, h⟩ := h
  exact h.lt
theorem HashOf.alloc {w : World} {g : Nat} {l : List UInt8} (h : HashOf w g l) (o : Obj) : HashOf (w.alloc o) g l := h.below ((Below.refl _ _).alloc (Nat.le_refl _) _)
theorem Tables.alloc {w : World} (h : Tables w) (o : Obj) : Tables (w.alloc o) := h.below ((Below.refl _ _).alloc (Nat.le_refl _) _)

theorem run_num (m : UInt8) : ∃ k : Nat, k < 200 ∧ (wrap64 (m.toNat : Int)).tmod 200 = (k : Int) := by
  have hm := m.toNat_lt
  have h0 : wrap64 (m.toNat : Int) = m.toNat := by unfold wrap64; omega
  refine ⟨m.toNat % 200, Nat.mod_lt _ (by omega), ?_⟩
  rw [h0, Int.tmod_eq_emod_of_nonneg (by omega)]
  omega

set_option maxRecDepth 100000 in
set_option maxHeartbeats 1000000 in
theorem shaRuns_any (x m : UInt8) (w : World) (ht : Tables w) :
    Calls Tryd.prog 6 #[.int .u8 (x.toNat : Int), .int .u8 (m.toNat : Int)] w fun e w' => e = .returned (.bool true) ∧ Below w.heap.size w w' := by
  have hgs := Lib.hid ht.round.lt
  obtain ⟨k, hk200, hk⟩ := run_num m
  go_enter Tryd.func6, Tryd.ntmps6
  go_wp2_with (go_at_call 12; go_must (refine (new_any _ ht).mono ?_); rintro e w2 ⟨rfl, hh2, hbel2⟩)
  have hlt2 := hh2.lt
  have hT := Lib.hid ht
  clear ht
  go_loopg [7, 8] k (fun gh v7 v8 W => ∃ i : Nat, gh + i = k ∧ v8 = .int .i64 i ∧ HashOf W w.heap.size (List.replicate i x) ∧ Own W (w.heap.size + 1) v7 (List.replicate i x) ∧ Below w.heap.size w W ∧ w.heap.size + 1 ≤ W.heap.size)
  case atStart => exact ⟨0, rfl, rfl, hh2, Own.nil _ _, hbel2, hlt2⟩
  case round =>
    obtain ⟨i, hg, rfl, hh, hown, hbel, hlt⟩ := hrel
    have HG := Lib.hid hg
    have hik : i ≤ k := by omega
    clear hg hh2 hbel2 hlt2
    obtain ⟨a, n, c, rfl, hby⟩ := hown.bytes
    by_cases hi : i < k
    · clear hby
      go_wp2_with (first
        | (go_at_call 13; go_must (refine (write_each w.heap.size _ (some ⟨wr.heap.size, 0, none⟩) 1 1 [x] _ (hh.alloc _) ((hT.out.below hbel).alloc _) (by have := hgs.out; omega) (bytes_one _ _) (fun _ y hy => by cases hy; show wr.heap.size ≠ w.heap.size; omega) (by simp; omega)).mono ?_); rintro e w3 ⟨rfl, hh3, hgr3⟩)
        | (at_builtin; go_must (refine app_bytes rfl (.tmp 22) (.tmp 24) rfl (w.heap.size + 1) _ _ rfl ((own_keep (hown.alloc _) hgr3 (by omega)).alloc _) (some ⟨w3.heap.size, 0, none⟩) 1 1 [x] rfl (bytes_one _ _) (by simp; omega) (by have := hgr3.size; simp at this ⊢; omega) ?_); intro v' w5 hown5 hgr5))
      go_roundg (gk - 1)
      case measure => have := HG.out; omega
      case rel =>
        have h3 := hgr3.size
        simp at h3
        have hB := ((((hbel.alloc hbel.size _).grown hgr3 (by simp; omega) (fun k hk => by simp at hk; omega)).alloc (by omega) (.cells #[.int .u8 (x.toNat : Int)] 5)).grown hgr5 (by simp; omega) (fun k hk => by have := hown.grown k hk; omega))
        refine ⟨i + 1, by have := HG.out; omega, by go_num, ?_, ?_, hB, ?_⟩
        · rw [← rep_next]
          exact (hh3.alloc _).grown hgr5 (fun e => by have := hown.grown _ e.symm; omega)
        · rw [← rep_next]; exact hown5
        · have := hgr5.size
          simp at this
          omega
    · obtain rfl : i = k := by omega
      clear hown
      have hl := Lib.hid (show (List.replicate i x).length ≤ 100000000000000 by simp; omega)
      go_wp2_with (first
        | ((with_reducible show Calls _ 15 _ wr _); go_must (refine (hsum_any w.heap.size _ wr hh (hT.out.below hbel) (by have := hgs.out; omega) hl.out).mono ?_); rintro e w6 ⟨rfl, hb6⟩; have hB6 := hbel.trans (hb6.mono hbel.size))
        | (go_at_call 8; go_must (refine (sum_one _ _ _ (parts1 (hby.below hb6) rfl) ((hT.out.below hB6).alloc _) hl.out).mono ?_); rintro e w7 ⟨rfl, hb7⟩; have hB7 := (hB6.alloc hB6.size _).trans (hb7.mono (hB6.alloc hB6.size _).size); have hH7 := ((hh.below hb6).alloc _).below hb7)
        | ((with_reducible show wpList _ _ _ (⟨some 31, _, _, _, _, _⟩ :: _) _ _); go_must (refine eql_sum rfl (.tmp 27) (.tmp 30) _ rfl (List.replicate i x) rfl rfl ?_))
        | ((with_reducible show Calls _ 15 _ w7 _); go_must (refine (hsum_any w.heap.size _ w7 hH7 (hT.out.below hB7) (by have := hgs.out; omega) hl.out).mono ?_); rintro e w8 ⟨rfl, hb8⟩; have hB8 := hB7.trans (hb8.mono hB7.size); have hH8 := hH7.below hb8)
        | ((with_reducible show Calls _ 15 _ w8 _); go_must (refine (hsum_any w.heap.size _ w8 hH8 (hT.out.below hB8) (by have := hgs.out; omega) hl.out).mono ?_); rintro e w9 ⟨rfl, hb9⟩; have hB9 := hB8.trans (hb9.mono hB8.size))
        | ((with_reducible show wpList _ _ _ (⟨some 37, _, _, _, _, _⟩ :: _) _ _); go_must (refine eql_sum_g (by rfl) (.tmp 34) (.tmp 36) _ rfl (List.replicate i x) rfl rfl ?_))
        | (go_at_call 11; go_must (refine (awake_any _ (hT.out.below hB9)).mono ?_); rintro e w10 ⟨rfl, hb10⟩))
      go_ret
      exact ⟨rfl, hB9.trans (hb10.mono hB9.size)⟩
#print axioms shaRuns_any
end Go.Proofs.YtkjgcgdfofheeaaDoor
