/-
  The walk of seek: the first number of a span at which a test begins to hold.
-/
import Derived.Test.YtheigemfbcgjcaaDlCompare
import Derived.Test.YtheigemfbcgjcaaDlFind
namespace Go.Proofs.Ytheigemfbcgjcaa
open Go.RowKit Go.Lib Go.Sort

set_option maxRecDepth 100000 in
set_option maxHeartbeats 1000000 in
theorem seekc_any (g gx g5 g3 g4 gR gp kb k bb off n c f i : Nat) (v3 : Value) (P : List Nat) (Bg : List UInt8 → Option (Nat × Nat)) (W : World) (q : Bool) (eg : ∀ args w, (callFunc g args).run Try.prog w = .ok (.enter g args) w)
    (c5 : W.cell? ⟨g5, 0, none⟩ = some (.func (.func g) #[] #[.pointer (some ⟨gx, 0, none⟩)])) (c3 : W.cell? ⟨g3, 0, none⟩ = some (.pointer (some ⟨gR, 0, none⟩))) (c4 : W.cell? ⟨g4, 0, none⟩ = some (.int .i64 (f : Nat)))
    (hR : RowsAt W gR (some ⟨bb, off, none⟩) n c gp kb k v3 P Bg) (hn : n ≤ 400000) (hnc : n ≤ c) (hf : f + i < n) (p : Nat) (hp : P.getD (f + i) 0 = p) (hpn : p < n)
    (hT : ∀ k, Calls Try.prog g #[.slice (some ⟨bb, off + p, none⟩) (n - p) (c - p), .pointer (some ⟨gx, 0, none⟩)] (W.drewN k) fun e w' => e = .returned (.bool q) ∧ w' = W.drewN k) :
    Calls Try.prog 49 #[.int .i64 (i : Nat), .pointer (some ⟨g5, 0, none⟩), .pointer (some ⟨g3, 0, none⟩), .pointer (some ⟨g4, 0, none⟩)] W fun e w' => e = .returned (.bool q) ∧ ∃ k, w' = W.drewN k := by
  have r0 := hR.c0
  have r1 : W.cell? ⟨gR, 1, none⟩ = some (.slice (some ⟨gp, 0, none⟩) n n) := hR.c1
  obtain ⟨j, hj⟩ : ∃ j, f + i = j := ⟨_, rfl⟩
  rw [hj] at hp hf
  have kj : W.cell? ⟨gp, j, none⟩ = some (.int .i64 (p : Nat)) := hp ▸ (hR.pl.2.2 j hf).1
  have W1 : IntKind.i64.wrap ((f : Int) + (i : Int)) = (j : Int) := by rw [IntWalk.i64_in _ (by omega)]; omega
  have hj0 : (0 : Int) ≤ (j : Int) := by omega
  have hjI : (j : Int) < (n : Int) := by omega
  have hp0 : (0 : Int) ≤ (p : Int) := by omega
  have hpI : (p : Int) < (n : Int) := by omega
  have hpc : p ≤ n := by omega
  have hcp : ¬ c = p := by omega
  have hpc' : ¬ p = c := by omega
  have hcc : p ≤ c := by omega
  have HT := Lib.hid hT
  clear hT hR hp hj hf
  go_enter Try.func49, Try.ntmps49
  go_wp2
  go_quiet ((go_at_fn g; exact Calls.quiet_of_same (HT.out _)))
  go_wp2
  go_ret
  exact ⟨rfl, _, rfl⟩
theorem count_first (p : Nat → Bool) : ∀ n, (∀ a b, a ≤ b → b < n → p a = true → p b = true) → ∀ i, i < n → (p i = true ↔ (List.range n).countP (fun i => !p i) ≤ i)
  | 0, _, i, hi => absurd hi (Nat.not_lt_zero _)
  | n + 1, hm, i, hi => by
    have ih := count_first p n (fun a b h1 h2 h3 => hm a b h1 (by omega) h3)
    have hle : (List.range n).countP (fun i => !p i) ≤ n := by
      have := List.countP_le_length (p := fun i => !p i) (l := List.range n)
      simpa using this
    rw [List.range_succ, List.countP_append, List.countP_singleton]
    cases hp : p n with
    | true =>
      simp only [Bool.not_true, Bool.false_eq_true, if_false, Nat.add_zero]
      by_cases hin : i = n
      · rw [hin, hp]; exact ⟨fun _ => hle, fun _ => rfl⟩
      · exact ih i (by omega)
    | false =>
      have hall : ∀ a, a ≤ n → p a = false := fun a ha => by
        cases h : p a with
        | false => rfl
        | true => have := hm a n ha (by omega) h; rw [hp] at this; cases this
      have hcn : n ≤ (List.range n).countP (fun i => !p i) := by
        rcases Nat.eq_zero_or_pos n with h0 | h0
        · omega
        · have h1 := ih (n - 1) (by omega)
          rw [hall (n - 1) (by omega)] at h1
          have : ¬ (List.range n).countP (fun i => !p i) ≤ n - 1 := fun h2 => by have := h1.2 h2; cases this
          omega
      simp only [Bool.not_false, if_true]
      rw [hall i (by omega)]
      exact ⟨(fun h => by cases h), (fun h => by omega)⟩
set_option maxRecDepth 100000 in
set_option maxHeartbeats 4000000 in
theorem seek_any (g gx gR gp kb k bb off n c f t : Nat) (v3 : Value) (P : List Nat) (Bg : List UInt8 → Option (Nat × Nat)) (w : World) (so : Nat → Bool) (eg : ∀ args w, (callFunc g args).run Try.prog w = .ok (.enter g args) w)
    (hR : RowsAt w gR (some ⟨bb, off, none⟩) n c gp kb k v3 P Bg) (hn : n ≤ 400000) (hnc : n ≤ c) (hP : ∀ j, j < n → P.getD j 0 < n) (hft : f ≤ t) (htn : t ≤ n)
    (hT : ∀ W, Below w.heap.size w W → ∀ p, p < n → Calls Try.prog g #[.slice (some ⟨bb, off + p, none⟩) (n - p) (c - p), .pointer (some ⟨gx, 0, none⟩)] W fun e w' => e = .returned (.bool (so p)) ∧ w' = W)
    (hmono : ∀ i j, f ≤ i → i ≤ j → j < t → so (P.getD i 0) = true → so (P.getD j 0) = true) :
    Calls Try.prog 31 #[.pointer (some ⟨gR, 0, none⟩), .agg #[.int .i64 (f : Nat), .int .i64 (t : Nat)], .func (.func g) #[] #[.pointer (some ⟨gx, 0, none⟩)]] w fun e w' => ∃ m : Nat, e = .returned (.int .i64 (m : Nat)) ∧ FirstAt f t (fun j => so (P.getD j 0) = true) m ∧ Below w.heap.size w w' := by
  have HR := Lib.hid hR
  have HT := Lib.hid hT
  have HP := Lib.hid hP
  have HM := Lib.hid hmono
  have HN : Hid (n ≤ 400000 ∧ n ≤ c ∧ f ≤ t ∧ t ≤ n) := Lib.hid ⟨hn, hnc, hft, htn⟩
  have hmf : ∀ (fn : Fn) (first cap : Array Value) (w : World), (Instr.makeFunc fn first cap).run Try.prog w = .ok (.func fn first cap) w := fun _ _ _ _ => rfl
  have egc := enters_of Try.func49 (by kernel_rfl) rfl
  obtain ⟨w1, hw1⟩ : ∃ W, w.alloc (.cells #[.pointer (some ⟨gR, 0, none⟩)] 41) = W := ⟨_, rfl⟩
  obtain ⟨w2, hw2⟩ : ∃ W, w1.alloc (.cells #[.int .i64 (f : Nat), .int .i64 (t : Nat)] 60) = W := ⟨_, rfl⟩
  obtain ⟨w3, hw3⟩ : ∃ W, w2.alloc (.cells #[.func (.func g) #[] #[.pointer (some ⟨gx, 0, none⟩)]] 65) = W := ⟨_, rfl⟩
  have b1 : Below w.heap.size w w1 := hw1 ▸ (Below.refl _ _).alloc (Nat.le_refl _) _
  have b2 : Below w1.heap.size w1 w2 := hw2 ▸ (Below.refl _ _).alloc (Nat.le_refl _) _
  have b3 : Below w2.heap.size w2 w3 := hw3 ▸ (Below.refl _ _).alloc (Nat.le_refl _) _
  have s1 : w1.heap.size = w.heap.size + 1 := by rw [← hw1]; simp
  have s2 : w2.heap.size = w.heap.size + 1 + 1 := by rw [← hw2]; simp [s1]
  have s3 : w3.heap.size = w.heap.size + 1 + 1 + 1 := by rw [← hw3]; simp [s2]
  have e1 : w1.heap[w.heap.size]? = some (.cells #[.pointer (some ⟨gR, 0, none⟩)] 41 (0, 0)) := hw1 ▸ heap_alloc_new w _
  have e2 : w2.heap[w.heap.size + 1]? = some (.cells #[.int .i64 (f : Nat), .int .i64 (t : Nat)] 60 (0, 0)) := s1 ▸ hw2 ▸ heap_alloc_new w1 _
  have e3 : w3.heap[w.heap.size + 1 + 1]? = some (.cells #[.func (.func g) #[] #[.pointer (some ⟨gx, 0, none⟩)]] 65 (0, 0)) := s2 ▸ hw3 ▸ heap_alloc_new w2 _
  have d3 : w3.cell? ⟨w.heap.size, 0, none⟩ = some (.pointer (some ⟨gR, 0, none⟩)) := by
    rw [b3.cell (by show w.heap.size < _; omega), b2.cell (by show w.heap.size < _; omega), cell_of_row _ _ _ _ _ _ e1]; rfl
  have d4 : w3.cell? ⟨w.heap.size + 1, 0, none⟩ = some (.int .i64 (f : Nat)) := by
    rw [b3.cell (by show w.heap.size + 1 < _; omega), cell_of_row _ _ _ _ _ _ e2]; rfl
  have d4' : w3.cell? ⟨w.heap.size + 1, 1, none⟩ = some (.int .i64 (t : Nat)) := by
    rw [b3.cell (by show w.heap.size + 1 < _; omega), cell_of_row _ _ _ _ _ _ e2]; rfl
  have d5 : w3.cell? ⟨w.heap.size + 1 + 1, 0, none⟩ = some (.func (.func g) #[] #[.pointer (some ⟨gx, 0, none⟩)]) := by
    rw [cell_of_row _ _ _ _ _ _ e3]; rfl
  have b4 : Below w.heap.size w w3 := (b1.trans (b2.mono (by omega))).trans (b3.mono (by omega))
  have HB := Lib.hid (show Below w.heap.size w w3.drew from b4.drew)
  have HD3 : Hid (w3.drew.cell? ⟨w.heap.size, 0, none⟩ = some (.pointer (some ⟨gR, 0, none⟩))) := Lib.hid d3
  have HD4 : Hid (w3.drew.cell? ⟨w.heap.size + 1, 0, none⟩ = some (.int .i64 (f : Nat)) ∧ w3.drew.cell? ⟨w.heap.size + 1, 1, none⟩ = some (.int .i64 (t : Nat))) := Lib.hid ⟨d4, d4'⟩
  have HD5 : Hid (w3.drew.cell? ⟨w.heap.size + 1 + 1, 0, none⟩ = some (.func (.func g) #[] #[.pointer (some ⟨gx, 0, none⟩)])) := Lib.hid d5
  have HW3 := Lib.hid (show (((w.alloc (.cells #[.pointer (some ⟨gR, 0, none⟩)] 41)).alloc (.cells #[.int .i64 (f : Nat), .int .i64 (t : Nat)] 60)).alloc (.cells #[.func (.func g) #[] #[.pointer (some ⟨gx, 0, none⟩)]] 65)) = w3 by rw [hw1, hw2, hw3])
  obtain ⟨d, hd⟩ : ∃ d, f + d = t := ⟨t - f, by omega⟩
  have W13 : IntKind.i64.wrap ((t : Int) - (f : Int)) = (d : Int) := by rw [IntWalk.i64_in _ (by omega)]; omega
  have HDD := Lib.hid hd
  clear b1 b2 b3 b4 s1 s2 s3 e1 e2 e3 d3 d4 d4' d5 hw1 hw2 hw3 hd
  clear hR hT hP hmono hn hnc hft htn
  go_enter Try.func31, Try.ntmps31
  go_wp2
  rw [HW3.out]
  clear HW3
  refine wp_region_held_drew (S := fun W => W.cell? ⟨w.heap.size + 1, 0, none⟩ = some (.int .i64 (f : Nat)) ∧ W.cell? ⟨w.heap.size + 1, 1, none⟩ = some (.int .i64 (t : Nat))) (by kernel_rfl) HD4.out (fun hHeld => ?_)
  generalize w3.drew = w4 at HB HD3 HD4 HD5 hHeld ⊢
  have HS : Hid (Calls Try.prog 48 #[.int .i64 (d : Nat), .func (.func 49) #[] #[.pointer (some ⟨w.heap.size + 1 + 1, 0, none⟩), .pointer (some ⟨w.heap.size, 0, none⟩), .pointer (some ⟨w.heap.size + 1, 0, none⟩)]] w4 fun e w' => ∃ cnt : Nat, e = .returned (.int .i64 (cnt : Nat)) ∧ FirstAt f t (fun j => so (P.getD j 0) = true) (f + cnt) ∧ Below w4.heap.size w4 w') := Lib.hid (by
    have hn := HN.out
    have hdd := HDD.out
    refine (Try.sort_Search 49 #[.pointer (some ⟨w.heap.size + 1 + 1, 0, none⟩), .pointer (some ⟨w.heap.size, 0, none⟩), .pointer (some ⟨w.heap.size + 1, 0, none⟩)] d (fun i => so (P.getD (f + i) 0)) w4 egc (by omega) (fun m os i hi => ?_) (fun x y hxy hy h => HM.out (f + x) (f + y) (by omega) (by omega) (by omega) h)).mono ?_
    · have hb := below_grown_sl w4.heap.size w4 m os (Nat.le_refl _)
      have l3 := World.block_lt_of_cell? _ _ HD3.out
      have l4 := World.block_lt_of_cell? _ _ HD4.out.1
      have l5 := World.block_lt_of_cell? _ _ HD5.out
      refine (seekc_any g gx (w.heap.size + 1 + 1) w.heap.size (w.heap.size + 1) gR gp kb k bb off n c f i v3 P Bg (grow (w4.drewN m) os) (so (P.getD (f + i) 0)) eg ((hb.cell l5).trans HD5.out) ((hb.cell l3).trans HD3.out) ((hb.cell l4).trans HD4.out.1) ((HR.out.below HB.out).below hb) hn.1 hn.2.1 (by omega) _ rfl (HP.out _ (by omega)) (fun k => HT.out _ ?_ _ (HP.out _ (by omega)))).mono ?_
      · have h4 := HB.out.trans (hb.mono HB.out.size)
        exact ⟨h4.os, h4.tape, h4.output, h4.size, h4.block⟩
      · rintro e w' ⟨rfl, q, rfl⟩
        exact ⟨rfl, q, #[], by rw [Go.Sort.grow_empty]⟩
    · rintro e w' ⟨rfl, q, os, rfl⟩
      refine ⟨_, rfl, ⟨by omega, ?_, fun j h1 h2 => ?_⟩, below_grown_sl w4.heap.size w4 q os (Nat.le_refl _)⟩
      · have := List.countP_le_length (p := fun i => !so (P.getD (f + i) 0)) (l := List.range d)
        simp only [List.length_range] at this
        omega
      · have h3 := count_first (fun i => so (P.getD (f + i) 0)) d (fun x y hxy hy h => HM.out (f + x) (f + y) (by omega) (by omega) (by omega) h) (j - f) (by omega)
        simp only [show f + (j - f) = j from by omega] at h3
        show so (P.getD j 0) = true ↔ _
        rw [h3]
        omega)
  refine wpAnyH_take (i := 0) (oi := ⟨some 7, .fieldAddr 60 (.tmp 4) 0, _, _, _, _⟩) (v := (.pointer (some ⟨w.heap.size + 1, 0, none⟩))) rfl (by kernel_rfl) (by kernel_rfl) (by kernel_rfl) (fun _ _ _ h => h) (Or.inl ⟨by rfl, fun W hW => by go_simp⟩) (by assumption) ?_
  simp only [Act.put, List.setIfInBounds_toArray, List.set_cons_zero, List.set_cons_succ]
  refine wpAnyH_take (i := 1) (oi := ⟨some 8, .load 3 (.tmp 7), _, _, _, _⟩) (v := (.int .i64 (f : Nat))) rfl (by kernel_rfl) (by kernel_rfl) (by kernel_rfl) (fun _ _ _ h => h) (Or.inl ⟨by rfl, fun W hW => by have hcell := hW.1; go_simp⟩) (by assumption) ?_
  simp only [Act.put, List.setIfInBounds_toArray, List.set_cons_zero, List.set_cons_succ]
  refine wpAnyH_take (i := 2) (oi := ⟨some 9, .fieldAddr 60 (.tmp 4) 1, _, _, _, _⟩) (v := (.pointer (some ⟨w.heap.size + 1, 1, none⟩))) rfl (by kernel_rfl) (by kernel_rfl) (by kernel_rfl) (fun _ _ _ h => h) (Or.inl ⟨by rfl, fun W hW => by go_simp⟩) (by assumption) ?_
  simp only [Act.put, List.setIfInBounds_toArray, List.set_cons_zero, List.set_cons_succ]
  refine wpAnyH_take (i := 3) (oi := ⟨some 10, .load 3 (.tmp 9), _, _, _, _⟩) (v := (.int .i64 (t : Nat))) rfl (by kernel_rfl) (by kernel_rfl) (by kernel_rfl) (fun _ _ _ h => h) (Or.inl ⟨by rfl, fun W hW => by have hcell := hW.2; go_simp⟩) (by assumption) ?_
  simp only [Act.put, List.setIfInBounds_toArray, List.set_cons_zero, List.set_cons_succ]
  refine wpAnyH_take (i := 4) (oi := ⟨some 11, .fieldAddr 60 (.tmp 4) 0, _, _, _, _⟩) (v := (.pointer (some ⟨w.heap.size + 1, 0, none⟩))) rfl (by kernel_rfl) (by kernel_rfl) (by kernel_rfl) (fun _ _ _ h => h) (Or.inl ⟨by rfl, fun W hW => by go_simp⟩) (by assumption) ?_
  simp only [Act.put, List.setIfInBounds_toArray, List.set_cons_zero, List.set_cons_succ]
  refine wpAnyH_take (i := 5) (oi := ⟨some 12, .load 3 (.tmp 11), _, _, _, _⟩) (v := (.int .i64 (f : Nat))) rfl (by kernel_rfl) (by kernel_rfl) (by kernel_rfl) (fun _ _ _ h => h) (Or.inl ⟨by rfl, fun W hW => by have hcell := hW.1; go_simp⟩) (by assumption) ?_
  simp only [Act.put, List.setIfInBounds_toArray, List.set_cons_zero, List.set_cons_succ]
  refine wpAnyH_take (i := 6) (oi := ⟨some 13, .binOp .sub 3 (.tmp 10) (.tmp 12) 3, _, _, _, _⟩) (v := (.int .i64 (d : Nat))) rfl (by kernel_rfl) (by kernel_rfl) (by kernel_rfl) (fun _ _ _ h => h) (Or.inl ⟨by rfl, fun W hW => by go_simp⟩) (by assumption) ?_
  simp only [Act.put, List.setIfInBounds_toArray, List.set_cons_zero, List.set_cons_succ]
  refine wpAnyH_take (i := 7) (oi := ⟨some 14, .makeFunc (.func 49) #[] #[(.tmp 5), (.tmp 3), (.tmp 4)], _, _, _, _⟩) (v := (.func (.func 49) #[] #[.pointer (some ⟨w.heap.size + 1 + 1, 0, none⟩), .pointer (some ⟨w.heap.size, 0, none⟩), .pointer (some ⟨w.heap.size + 1, 0, none⟩)])) rfl (by kernel_rfl) (by kernel_rfl) (by kernel_rfl) (fun _ _ _ h => h) (Or.inl ⟨by rfl, fun W hW => by go_simp⟩) (by assumption) ?_
  simp only [Act.put, List.setIfInBounds_toArray, List.set_cons_zero, List.set_cons_succ]
  refine wpAnyH_ready (rs := [8]) (by kernel_rfl) (by simp) ?_
  refine AllReadyH.cons (o := ⟨some 15, .call { callee := .value (.func 48), args := #[(.tmp 13), (.tmp 14)], argTypes := #[3, 81] }, _, _, _, _⟩) rfl (fun K hK => ?_) AllReadyH.nil
  go_wp2_with (go_at_call 48; go_must (refine HS.out.mono ?_; rintro e w5 ⟨cnt, rfl, hfa, hb⟩; have HFA := Lib.hid hfa; have HB5 := Lib.hid hb; clear hfa hb))
  have HC5 := Lib.hid (⟨(HB5.out.cell (World.block_lt_of_cell? _ _ HD4.out.1)).trans HD4.out.1, (HB5.out.cell (World.block_lt_of_cell? _ _ HD4.out.2)).trans HD4.out.2⟩ : w5.cell? ⟨w.heap.size + 1, 0, none⟩ = some (.int .i64 (f : Nat)) ∧ w5.cell? ⟨w.heap.size + 1, 1, none⟩ = some (.int .i64 (t : Nat)))
  obtain ⟨mm, hmm⟩ : ∃ mm, f + cnt = mm := ⟨_, rfl⟩
  have W16 : IntKind.i64.wrap ((f : Int) + (cnt : Int)) = (mm : Int) := by have h1 := HFA.out.2.1; have h2 := HN.out; rw [IntWalk.i64_in _ (by omega)]; omega
  rw [hmm] at HFA
  clear hmm
  refine hK.out _ _ HC5.out (fun hHeld => ?_)
  clear hK K
  refine wpAnyH_take (i := 9) (oi := ⟨some 16, .binOp .add 3 (.tmp 8) (.tmp 15) 3, _, _, _, _⟩) (v := (.int .i64 (mm : Nat))) rfl (by kernel_rfl) (by kernel_rfl) (by kernel_rfl) (fun _ _ _ h => h) (Or.inl ⟨by rfl, fun W hW => by go_simp⟩) (by assumption) ?_
  simp only [Act.put, List.setIfInBounds_toArray, List.set_cons_zero, List.set_cons_succ]
  refine wpAnyH_take (i := 10) (oi := ⟨some 6, .assign (.tmp 16), _, _, _, _⟩) (v := (.int .i64 (mm : Nat))) rfl (by kernel_rfl) (by kernel_rfl) (by kernel_rfl) (fun _ _ _ h => h) (Or.inl ⟨by rfl, fun W hW => by go_simp⟩) (by assumption) ?_
  simp only [Act.put, List.setIfInBounds_toArray, List.set_cons_zero, List.set_cons_succ]
  refine wpAnyH_done (by kernel_rfl) ?_ _
  clear hHeld
  go_wp2
  go_ret
  exact ⟨mm, rfl, HFA.out, HB.out.trans (HB5.out.mono HB.out.size)⟩
end Go.Proofs.Ytheigemfbcgjcaa
