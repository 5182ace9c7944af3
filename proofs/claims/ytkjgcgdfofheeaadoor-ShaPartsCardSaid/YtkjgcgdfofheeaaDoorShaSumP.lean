/-
  The walk of Sum, over whatever parts.
-/
import Derived.Test.YtkjgcgdfofheeaaDoorShaSum
namespace Go.Proofs.YtkjgcgdfofheeaaDoor
open Go.RowKit

/-- A slice value reads as these parts. -/
def Parts (w : World) (a : Option Addr) (n : Nat) (ps : List (List UInt8)) : Prop :=
  ps.length = n ∧ n ≤ 9223372036854775807 ∧ (n = 0 ∨ ∃ b off, a = some ⟨b, off, none⟩ ∧ ∀ j, j < n → ∃ a' n' c', w.cell? ⟨b, off + j, none⟩ = some (.slice a' n' c') ∧ Bytes w a' n' c' (ps.getD j []))

theorem Parts.below {w w' : World} {a : Option Addr} {n : Nat} {ps : List (List UInt8)} (h : Parts w a n ps) (hb : Below w.heap.size w w') : Parts w' a n ps := by
  obtain ⟨h1, h2, h3⟩ := h
  refine ⟨h1, h2, ?_⟩
  rcases h3 with h3 | ⟨b, off, ha, hc⟩
  · exact .inl h3
  · refine .inr ⟨b, off, ha, fun j hj => ?_⟩
    obtain ⟨a', n', c', hcell, hby⟩ := hc j hj
    exact ⟨a', n', c', (hb.cell (World.block_lt_of_cell? _ _ hcell)).trans hcell, hby.below hb⟩

theorem flat_take (ps : List (List UInt8)) (i : Nat) (h : i < ps.length) : (ps.take (i + 1)).flatten = (ps.take i).flatten ++ ps.getD i [] := by
  rw [List.take_add_one, List.flatten_append]
  simp [List.getD, h]

theorem flat_len (ps : List (List UInt8)) (i : Nat) : (ps.take i).flatten.length ≤ ps.flatten.length := by
  have h := List.take_append_drop i ps
  have h2 : ps.flatten = (ps.take i).flatten ++ (ps.drop i).flatten := by rw [← List.flatten_append, h]
  rw [h2, List.length_append]; omega

theorem sumF_length (l : List UInt8) : (sumF l).length = 32 := by
  unfold sumF
  have h := stF_length (padF l) ((padF l).length / 64)
  match stF (padF l) ((padF l).length / 64), h with
  | [_, _, _, _, _, _, _, _], _ => rfl

theorem bytes_notIn {w : World} {a : Option Addr} {n c g : Nat} {l : List UInt8} (h : Bytes w a n c l) (hg : w.heap.size ≤ g) : n ≠ 0 → NotIn a g := by
  intro hn
  intro x hx
  rcases h.2.2.2 with ⟨h0, _⟩ | ⟨b, off, ha, hc⟩
  · exact absurd h0 hn
  · have hb : b < w.heap.size := World.block_lt_of_cell? w ⟨b, off + 0, none⟩ (hc 0 (Nat.pos_of_ne_zero hn))
    rw [ha] at hx
    cases hx
    show b ≠ g
    omega

theorem write_zero (g : Nat) (a : Option Addr) (c : Nat) (w : World) : Calls Tryd.prog 13 #[.pointer (some ⟨g, 0, none⟩), .slice a 0 c] w fun e w' => e = .returned (.tuple #[]) ∧ w = w' := by
  go_enter Tryd.func13, Tryd.ntmps13
  go_wp2
  go_loopg [1] 0 (fun gh v1 W => gh = 0 ∧ v1 = .slice a 0 c ∧ W = w)
  case atStart => exact ⟨rfl, rfl, rfl⟩
  case round =>
    obtain ⟨rfl, rfl, rfl⟩ := hrel
    go_wp2
    go_end0
    exact ⟨rfl, rfl⟩

/-- A write, wherever the bytes lie. -/
theorem write_each (g : Nat) (l : List UInt8) (a : Option Addr) (n c : Nat) (m : List UInt8) (w : World) (hh : HashOf w g l) (ht : Tables w) (hg2 : 2 ≤ g) (hb : Bytes w a n c m) (hni : n ≠ 0 → NotIn a g) (hl : l.length + m.length ≤ 1000000000000000) :
    Calls Tryd.prog 13 #[.pointer (some ⟨g, 0, none⟩), .slice a n c] w fun e w' => e = .returned (.tuple #[]) ∧ HashOf w' g (l ++ m) ∧ w.grownBy w' (some g) := by
  by_cases h0 : n = 0
  · subst h0
    have : m = [] := List.length_eq_zero_iff.1 hb.1
    subst this
    refine (write_zero g a c w).mono ?_
    rintro e w' ⟨h1, rfl⟩
    exact ⟨h1, by simpa using hh, ⟨rfl, rfl, rfl, Nat.le_refl _, fun _ _ _ => rfl⟩⟩
  · exact write_any g l a n c m w hh ht hg2 hb (hni h0) hl

set_option maxRecDepth 100000 in
set_option maxHeartbeats 400000 in
theorem sum_any (a : Option Addr) (n c : Nat) (ps : List (List UInt8)) (w : World) (hp : Parts w a n ps) (ht : Tables w) (hl : ps.flatten.length ≤ 100000000000000) :
    Calls Tryd.prog 8 #[.slice a n c] w fun e w' => e = .returned (.agg (bytesV (sumF ps.flatten)).toArray) ∧ Below w.heap.size w w' := by
  have HL := Lib.hid hl
  have hT := Lib.hid ht
  have hn63 := hp.2.1
  clear hl ht
  go_enter Tryd.func8, Tryd.ntmps8
  go_wp2_with (first
    | ((with_reducible show wpList _ _ _ (⟨some 2, _, _, _, _, _⟩ :: _) _ _); go_must (refine alloc_row rfl 24 (bytesV (List.replicate 32 0)) rfl zero_id ?_); intro w1 hr1 hbel1 hsz1; have HS1 := Lib.hid hsz1; clear hsz1)
    | (go_at_call 12; go_must (refine (new_any _ (hT.out.below hbel1)).mono ?_); rintro e w2 ⟨rfl, hh2, hbel2⟩))
  go_loopg [5, 9] n (fun gh v5 v9 W => ∃ i : Nat, gh + i = n ∧ v9 = .int .i64 i ∧ HashOf W w1.heap.size (ps.take i).flatten ∧ RowAt W w.heap.size 24 (bytesV (List.replicate 32 0)) ∧ Below w.heap.size w W)
  case atStart => exact ⟨0, rfl, rfl, by simpa using hh2, hr1.below hbel2, hbel1.trans (hbel2.mono (by have := HS1.out; omega))⟩
  case round =>
    obtain ⟨i, hg, rfl, hh, hr, hbel⟩ := hrel
    have HG := Lib.hid hg
    have hin : i ≤ n := by omega
    clear hg hh2 hr1 hbel1 hbel2
    by_cases hi : i < n
    · obtain ⟨b, off, rfl, hcells⟩ : ∃ b off, a = some ⟨b, off, none⟩ ∧ ∀ j, j < n → ∃ a' n' c', w.cell? ⟨b, off + j, none⟩ = some (.slice a' n' c') ∧ Bytes w a' n' c' (ps.getD j []) := by
        rcases hp.2.2 with h | h
        · omega
        · exact h
      obtain ⟨a', n', c', hcl0, hby0⟩ := hcells i hi
      have hcl : wr.cell? ⟨b, off + i, none⟩ = some (.slice a' n' c') := (hbel.cell (World.block_lt_of_cell? _ _ hcl0)).trans hcl0
      have HBY := Lib.hid (hby0.below hbel)
      have HNI := Lib.hid (bytes_notIn (g := w1.heap.size) hby0 (by have := HS1.out; omega))
      have hfl := flat_take ps i (by rw [hp.1]; exact hi)
      have HLE := Lib.hid (show (ps.take i).flatten.length + (ps.getD i []).length ≤ 1000000000000000 by
        have h1 := flat_len ps (i + 1)
        rw [hfl, List.length_append] at h1
        have := HL.out
        omega)
      have HFL := Lib.hid hfl
      clear hcells hcl0 hby0 hfl hp
      go_wp2_with (go_at_call 13; go_must (refine (write_each w1.heap.size (ps.take i).flatten a' n' c' (ps.getD i []) wr hh (hT.out.below hbel) (by have := hT.out.round.lt; have := HS1.out; omega) HBY.out HNI.out HLE.out).mono ?_); rintro e w3 ⟨rfl, hh3, hgr3⟩)
      go_roundg (gk - 1)
      case measure => have := HG.out; omega
      case rel => exact ⟨i + 1, by have := HG.out; omega, by go_num, by rw [HFL.out]; exact hh3, hr.grown hgr3 (by simp; have := HS1.out; omega), hbel.grown hgr3 hbel.size (fun k hk => by simp at hk; have := HS1.out; omega)⟩
    · obtain rfl : i = n := by omega
      have hfl : (ps.take i).flatten = ps.flatten := by rw [← hp.1, List.take_length]
      rw [hfl] at hh
      clear hp hfl
      go_wp2_with (first
        | (go_at_call 15; go_must (refine (hsum_any w1.heap.size ps.flatten wr hh (hT.out.below hbel) (by have := hT.out.round.lt; have := HS1.out; omega) HL.out).mono ?_); rintro e w4 ⟨rfl, hbel4⟩; have hr4 := hr.below hbel4)
        | ((with_reducible show wpList _ _ _ (⟨none, .store 24 _ _, _, _, _, _⟩ :: _) _ _); go_must (refine store_row rfl 24 (.tmp 2) (.tmp 18) rfl w.heap.size 24 (bytesV (List.replicate 32 0)) (bytesV (sumF ps.flatten)) rfl rfl hr4 (by rw [bytesV_length, bytesV_length, sumF_length]; rfl) (by rw [bytesV_length, sumF_length]; exact info_id) (bytesV_one _) ?_); intro w9 hr9 hgr9 hsz9))
      have hfin := (hbel.trans (hbel4.mono hbel.size)).grown hgr9 (by have := hbel.size; have := hbel4.size; omega) (fun k hk => by simp at hk; omega)
      exact bodyPost_ret (results_row rfl _ _ w.heap.size 24 _ _ rfl hr9 Tryd.underlying24 rfl (by rw [bytesV_length, sumF_length]; exact info_id)) rfl ⟨rfl, hfin⟩
#print axioms sum_any
end Go.Proofs.YtkjgcgdfofheeaaDoor
