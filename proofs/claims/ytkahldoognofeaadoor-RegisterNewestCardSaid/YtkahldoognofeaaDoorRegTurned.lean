/-
  The law of claims of which two change their places, walked.
-/
import Derived.Test.YtkahldoognofeaaDoorRegEq
namespace Go.Proofs.YtkahldoognofeaaDoor
open Go.RowKit

/-- Claims in a row of the call's own, as they are written. -/
structure ClRow (w : World) (g n : Nat) (L : List ClaimV) : Prop where
  len : L.length = n
  ok : ∀ x ∈ L, ClOk x
  room : w.there g 0 (n * 70)
  at_ : ∀ j, j < n → w.rangeAt g (j * 70) (claimL (gd L j))
section
variable {w w' : World} {g n c base : Nat} {L : List ClaimV}
theorem ClRow.of (h : OwnG clK CEr w base (.slice (some ⟨g, 0, none⟩) n c) L) (hn : 0 < n) : ClRow w g n L := by
  have ha := h.atG
  obtain ⟨g', hg', _, _, hfz⟩ := h.row hn
  simp only [Option.some.injEq, Addr.mk.injEq, and_true] at hg'
  subst hg'
  have hk : clK.k = 70 := rfl
  have hat : ∀ j, j < n → w.rangeAt g (j * 70) (claimL (gd L j)) := fun j hj => by
    have := ha.at_ j hj
    rw [hk, Nat.zero_add] at this
    exact this
  refine ⟨ha.1, h.2, fun i hi => ⟨?_, hfz _⟩, hat⟩
  have hj : i / 70 < n := by omega
  have hl := claimL_len (ha.ok hj).1 (ha.ok hj).2.1
  have hm : i % 70 < (claimL (gd L (i / 70))).length := by omega
  have h2 := hat (i / 70) hj (i % 70) _ (List.getElem?_eq_getElem hm)
  rw [show i / 70 * 70 + i % 70 = 0 + i from by omega] at h2
  rw [h2]; rfl
theorem ClRow.get (h : ClRow w g n L) {j : Nat} (hj : j < n) : ClOk (gd L j) := h.ok _ (gd_mem (by rw [h.len]; exact hj))
theorem ClRow.below (h : ClRow w g n L) (hn : 0 < n) (hb : Below w.heap.size w w') : ClRow w' g n L := by
  have hlt : g < w.heap.size := by
    have h1 := (h.room 0 (by omega)).1
    obtain ⟨u, hu⟩ := Option.isSome_iff_exists.1 h1
    exact World.block_lt_of_cell? _ _ hu
  have hs := hb.block g hlt
  refine ⟨h.len, h.ok, fun i hi => ?_, fun j hj i v hv => ?_⟩
  · have := h.room i hi
    unfold World.cell? World.frozen? at *
    simp only [hs] at *
    exact this
  · have := h.at_ j hj i v hv
    unfold World.cell? at *
    simp only [hs] at *
    exact this
theorem ClRow.atG (h : ClRow w g n L) (hc : n ≤ c) (hc2 : c ≤ 9223372036854775807) : AtG clK w (some ⟨g, 0, none⟩) n c L := ⟨h.len, hc, hc2, h.ok, .inr ⟨g, 0, rfl, fun j hj => by
  have hk : clK.k = 70 := rfl
  rw [hk, Nat.zero_add]; exact h.at_ j hj⟩⟩
theorem ClRow.set (h : ClRow w g n L) {j : Nat} (hj : j < n) {y : ClaimV} (hy : ClOk y) : ClRow (w.setCells g (j * 70) (claimL y)) g n (L.set j y) := by
  have hl := claimL_len hy.1 hy.2.1
  have hr : w.there g (j * 70) (claimL y).length := fun i hi => by
    have := h.room (j * 70 + i) (by omega)
    rwa [Nat.zero_add] at this
  refine ⟨by rw [List.length_set]; exact h.len, fun x hx => ?_, World.there_setCells h.room g _ _, fun k hk => ?_⟩
  · rcases List.mem_or_eq_of_mem_set hx with hx | rfl
    · exact h.ok x hx
    · exact hy
  · by_cases hkj : k = j
    · subst hkj
      have e : gd (L.set k y) k = y := by unfold gd; simp [h.len, hk]
      rw [e]
      exact World.rangeAt_setCells_same w g _ _ hr
    · have e : gd (L.set j y) k = gd L k := by
        unfold gd
        rw [List.getD_eq_getElem?_getD, List.getD_eq_getElem?_getD, List.getElem?_set_ne (fun e => hkj e.symm)]
      rw [e]
      have hlk := claimL_len (h.get hk).1 (h.get hk).2.1
      refine World.rangeAt_setCells_apart (h.at_ k hk) g _ _ (.inr ?_)
      rw [hlk, hl]
      rcases Nat.lt_or_ge k j with h1 | h1
      · left; omega
      · right; omega
theorem ClRow.there (h : ClRow w g n L) {j : Nat} (hj : j < n) {y : ClaimV} (hy : y.key.c.length = 32 ∧ y.doc.c.length = 32) : w.there g (j * 70) (claimC y).size := fun i hi => by
  rw [claimC_size hy.1 hy.2] at hi
  have := h.room (j * 70 + i) (by omega)
  rwa [Nat.zero_add] at this
end
theorem grown_setCells (g : Nat) : ∀ (vs : List Value) (o : Nat) (w : World), w.grownBy (w.setCells g o vs) (some g)
  | [], _, _ => ⟨rfl, rfl, rfl, Nat.le_refl _, fun _ _ _ => rfl⟩
  | v :: r, o, w => (show w.grownBy (w.setCell ⟨g, o, none⟩ v) (some g) from ⟨rfl, rfl, rfl, by simp, fun k _ hk => Below.heap_setCell _ _ _ _ (fun e => hk (by rw [e]))⟩).trans (grown_setCells g r (o + 1) _)
theorem one70 (x : ClaimV) : (claimC x).all (·.oneCell') = true := all_oneCell_toArray (claimL_one x)
theorem size70 (x : ClaimV) (hx : x.key.c.length = 32 ∧ x.doc.c.length = 32) : (Tryd.prog.info? CEr).map (·.size) = some (claimC x).size := by rw [claimC_size hx.1 hx.2]; exact info70
theorem size70L (x : ClaimV) (hx : x.key.c.length = 32 ∧ x.doc.c.length = 32) : (Tryd.prog.info? CEr).map (·.size) = some (claimL x).length := by rw [claimL_len hx.1 hx.2]; exact info70
theorem rem_nat (x : Int) (n : Nat) (h1 : (1 : Int) ≤ n) (h2 : (n : Int) ≤ 40) : ∃ k : Nat, wrap64 ((IntKind.u64.wrap x).tmod n) = (k : Int) ∧ k < n := by
  have h0 : 0 ≤ IntKind.u64.wrap x := by rw [IntKind.wrap_u64]; omega
  have ht : (IntKind.u64.wrap x).tmod n = (IntKind.u64.wrap x) % n := Int.tmod_eq_emod_of_nonneg h0
  have a := Int.emod_nonneg (IntKind.u64.wrap x) (show (n : Int) ≠ 0 by omega)
  have b := Int.emod_lt_of_pos (IntKind.u64.wrap x) (show (0 : Int) < n by omega)
  refine ⟨((IntKind.u64.wrap x) % n).toNat, ?_, by omega⟩
  rw [ht]
  unfold wrap64
  omega
theorem light_cases (n : Nat) (L : List ClaimV) : ∃ q : Bool, q = true ↔ n ≤ 40 ∧ ∀ x ∈ L, x.path.length ≤ 100 := ⟨(by classical exact decide (n ≤ 40 ∧ ∀ x ∈ L, x.path.length ≤ 100)), by classical exact decide_eq_true_iff⟩

set_option maxRecDepth 100000 in
set_option maxHeartbeats 1200000 in
theorem registerTurned_any (a : Option Addr) (n c : Nat) (L : List ClaimV) (x y : Int) (w : World) (h : AtG clK w a n c L) (hT : PTabs w) :
    Calls Tryd.prog 4 #[.slice a n c, .int .i64 x, .int .i64 y] w fun e w' => e = .returned (.bool true) ∧ Below w.heap.size w w' := by
  obtain ⟨q, hq⟩ := light_cases n L
  have HLI := Lib.hid (light_any a n c L w h q hq)
  cases q
  · clear h hT hq
    go_enter Tryd.func4, Tryd.ntmps4
    go_wp2_with (go_at_call 6; go_must (refine HLI.out.mono ?_); rintro e w1 ⟨rfl, rfl⟩)
    go_ret
    exact ⟨rfl, Below.refl _ _⟩
  obtain ⟨hn40, hl⟩ := hq.1 rfl
  by_cases hn0 : n = 0
  · subst hn0
    clear h hT hq hn40 hl
    go_enter Tryd.func4, Tryd.ntmps4
    go_wp2_with (go_at_call 6; go_must (refine HLI.out.mono ?_); rintro e w1 ⟨rfl, rfl⟩)
    go_ret
    exact ⟨rfl, Below.refl _ _⟩
  have hn1 : (1 : Int) ≤ (n : Int) := by omega
  have hnI : (n : Int) ≤ 40 := by omega
  have hnb : ((n : Int) == 0) = false := by simp; omega
  have HN0 := Lib.hid (show 0 < n by omega)
  have HM := Lib.hid hn40
  have HL := Lib.hid h.1
  have HLL := Lib.hid (fun c hc => (Nat.le_trans (hl c hc) (by decide) : c.path.length ≤ 100000))
  have HT := Lib.hid hT
  have HTO := Lib.hid (fun W (hW : Below w.heap.size w W) => told_any a n c L W (h.below hW) (by omega))
  have AW := Lib.hid (fun W (hW : Below w.heap.size w W) => regAwake_any W (hT.below hW))
  clear h hT hq hn40 hl hn0
  go_enter Tryd.func4, Tryd.ntmps4
  go_wp2_with (go_at_call 6; go_must (refine HLI.out.mono ?_); rintro e w1 ⟨rfl, rfl⟩)
  go_quiet (fail)
  obtain ⟨k, hk, hkn⟩ := rem_nat x n hn1 hnI
  obtain ⟨l, hll, hln⟩ := rem_nat y n hn1 hnI
  rw [hk, hll]
  have HK := Lib.hid hkn
  have HLN := Lib.hid hln
  have HB6 := Lib.hid (below_drewK (Below.refl w.heap.size w) nq)
  generalize hW : w.drewN nq = W6 at HB6 ⊢
  have hkI : (k : Int) < (n : Int) := by omega
  have hlI : (l : Int) < (n : Int) := by omega
  have hk0 : (0 : Int) ≤ (k : Int) := by omega
  have hl0 : (0 : Int) ≤ (l : Int) := by omega
  clear hk hll hkn hln hW
  go_wp2_with (go_at_call 8; go_must (refine (HTO.out _ HB6.out).mono ?_); rintro e w7 ⟨a7, c7, rfl, ho7, hb7⟩; rw [HL.out] at ho7 ⊢; obtain ⟨g7, rfl, hg7, _, _⟩ := ho7.row HN0.out; have HG7 := Lib.hid (Nat.le_trans HB6.out.size hg7); have HC7 := Lib.hid ho7.atG.2.1; have HC8 := Lib.hid ho7.atG.2.2.1; have HO7 := Lib.hid (ClRow.of ho7 HN0.out); have HB7 := Lib.hid (HB6.out.trans (hb7.mono HB6.out.size)); clear ho7 hb7 hg7)
  have HR0 : Hid (ClRow w7.drew g7 n L) := Lib.hid (HO7.out.below HN0.out (Below.refl _ _).drew)
  have HB8 : Hid (Below w.heap.size w w7.drew) := Lib.hid HB7.out.drew
  refine wp_region_any (by kernel_rfl) ?_
  change wpAny _ _ _ _ _ _ _ (World.drew w7)
  generalize w7.drew = W8 at HR0 HB8 ⊢
  obtain ⟨X, hX⟩ : ∃ X, X = gd L k := ⟨_, rfl⟩
  obtain ⟨Y, hY⟩ : ∃ Y, Y = gd L l := ⟨_, rfl⟩
  have HXE := Lib.hid hX
  have HYE := Lib.hid hY
  have HXO : Hid (ClOk X) := Lib.hid (by rw [hX]; exact HR0.out.get HK.out)
  have HYO : Hid (ClOk Y) := Lib.hid (by rw [hY]; exact HR0.out.get HLN.out)
  have HXC : Hid (X.key.c.length = 32 ∧ X.doc.c.length = 32) := Lib.hid ⟨HXO.out.1, HXO.out.2.1⟩
  have HYC : Hid (Y.key.c.length = 32 ∧ Y.doc.c.length = 32) := Lib.hid ⟨HYO.out.1, HYO.out.2.1⟩
  have HXA : Hid (W8.rangeAt g7 (k * 70) (claimL X)) := Lib.hid (by rw [hX]; exact HR0.out.at_ k HK.out)
  have HYA : Hid (W8.rangeAt g7 (l * 70) (claimL Y)) := Lib.hid (by rw [hY]; exact HR0.out.at_ l HLN.out)
  clear hX hY
  refine wpAny_take (i := 0) (oi := ⟨some 37, .move (.tmp 9), _, _, _, _⟩) (v := (.slice (some ⟨g7, 0, none⟩) n c7)) rfl (by kernel_rfl) (by kernel_rfl) (by kernel_rfl) (fun _ _ _ h => h) (Or.inl ⟨by rfl, fun W => by go_simp⟩) ?_
  refine wpAny_take (i := 1) (oi := ⟨some 38, .move (.tmp 7), _, _, _, _⟩) (v := (.int .i64 (k : Nat))) rfl (by kernel_rfl) (by kernel_rfl) (by kernel_rfl) (fun _ _ _ h => h) (Or.inl ⟨by rfl, fun W => by go_simp⟩) ?_
  refine wpAny_take (i := 2) (oi := ⟨some 39, .move (.tmp 9), _, _, _, _⟩) (v := (.slice (some ⟨g7, 0, none⟩) n c7)) rfl (by kernel_rfl) (by kernel_rfl) (by kernel_rfl) (fun _ _ _ h => h) (Or.inl ⟨by rfl, fun W => by go_simp⟩) ?_
  refine wpAny_take (i := 3) (oi := ⟨some 40, .move (.tmp 8), _, _, _, _⟩) (v := (.int .i64 (l : Nat))) rfl (by kernel_rfl) (by kernel_rfl) (by kernel_rfl) (fun _ _ _ h => h) (Or.inl ⟨by rfl, fun W => by go_simp⟩) ?_
  refine wpAny_take (i := 4) (oi := ⟨some 41, .move (.tmp 9), _, _, _, _⟩) (v := (.slice (some ⟨g7, 0, none⟩) n c7)) rfl (by kernel_rfl) (by kernel_rfl) (by kernel_rfl) (fun _ _ _ h => h) (Or.inl ⟨by rfl, fun W => by go_simp⟩) ?_
  refine wpAny_take (i := 5) (oi := ⟨some 42, .move (.tmp 8), _, _, _, _⟩) (v := (.int .i64 (l : Nat))) rfl (by kernel_rfl) (by kernel_rfl) (by kernel_rfl) (fun _ _ _ h => h) (Or.inl ⟨by rfl, fun W => by go_simp⟩) ?_
  refine wpAny_take (i := 8) (oi := ⟨some 45, .move (.tmp 9), _, _, _, _⟩) (v := (.slice (some ⟨g7, 0, none⟩) n c7)) rfl (by kernel_rfl) (by kernel_rfl) (by kernel_rfl) (fun _ _ _ h => h) (Or.inl ⟨by rfl, fun W => by go_simp⟩) ?_
  refine wpAny_take (i := 9) (oi := ⟨some 46, .move (.tmp 7), _, _, _, _⟩) (v := (.int .i64 (k : Nat))) rfl (by kernel_rfl) (by kernel_rfl) (by kernel_rfl) (fun _ _ _ h => h) (Or.inl ⟨by rfl, fun W => by go_simp⟩) ?_
  simp only [Act.put, List.setIfInBounds_toArray, List.set_cons_zero, List.set_cons_succ]
  refine wpAny_take (i := 6) (oi := ⟨some 43, .indexAddr 26 (.tmp 41) (.tmp 42), _, _, _, _⟩) (v := (.pointer (some ⟨g7, l * 70, none⟩))) rfl (by kernel_rfl) (by kernel_rfl) (by kernel_rfl) (fun _ _ _ h => h) (Or.inl ⟨by rfl, fun W => by go_simp⟩) ?_
  simp only [Act.put, List.setIfInBounds_toArray, List.set_cons_zero, List.set_cons_succ]
  refine wpAny_take (i := 10) (oi := ⟨some 47, .indexAddr 26 (.tmp 45) (.tmp 46), _, _, _, _⟩) (v := (.pointer (some ⟨g7, k * 70, none⟩))) rfl (by kernel_rfl) (by kernel_rfl) (by kernel_rfl) (fun _ _ _ h => h) (Or.inl ⟨by rfl, fun W => by go_simp⟩) ?_
  simp only [Act.put, List.setIfInBounds_toArray, List.set_cons_zero, List.set_cons_succ]
  refine wpAny_ready (rs := [7, 11]) (by kernel_rfl) (by simp) ?_
  refine AllReady.cons (o := ⟨some 44, .load CEr (.tmp 43), _, _, _, _⟩) rfl (fun K hK => ?_) (AllReady.cons (o := ⟨some 48, .load CEr (.tmp 47), _, _, _, _⟩) rfl (fun K hK => ?_) AllReady.nil)
  · rw [if_pos (by rfl)]
    refine wp_load_mid _ _ rfl g7 (l * 70) rfl (claimL Y) _ HYA.out Tryd.underlying41 rfl (size70L Y HYC.out) ?_
    refine hK _ _ ?_
    clear hK K
    simp only [Act.put, List.setIfInBounds_toArray, List.set_cons_zero, List.set_cons_succ]
    refine wpAny_ready (rs := [11]) (by kernel_rfl) (by simp) ?_
    refine AllReady.cons (o := ⟨some 48, .load CEr (.tmp 47), _, _, _, _⟩) rfl (fun K hK => ?_) AllReady.nil
    rw [if_pos (by rfl)]
    refine wp_load_mid _ _ rfl g7 (k * 70) rfl (claimL X) _ HXA.out Tryd.underlying41 rfl (size70L X HXC.out) ?_
    refine hK _ _ ?_
    clear hK K
    simp only [Act.put, List.setIfInBounds_toArray, List.set_cons_zero, List.set_cons_succ]
    refine wpAny_take (i := 12) (oi := ⟨some 49, .indexAddr 26 (.tmp 37) (.tmp 38), _, _, _, _⟩) (v := (.pointer (some ⟨g7, k * 70, none⟩))) rfl (by kernel_rfl) (by kernel_rfl) (by kernel_rfl) (fun _ _ _ h => h) (Or.inl ⟨by rfl, fun W => by go_simp⟩) ?_
    simp only [Act.put, List.setIfInBounds_toArray, List.set_cons_zero, List.set_cons_succ]
    refine wpAny_ready (rs := [13]) (by kernel_rfl) (by simp) ?_
    refine AllReady.cons (o := ⟨none, .store CEr (.tmp 49) (.tmp 44), _, _, _, _⟩) rfl (fun K hK => ?_) AllReady.nil
    rw [if_pos (by rfl)]
    refine wp_store_mid CEr _ _ rfl g7 (k * 70) (claimC Y) rfl rfl (HR0.out.there HK.out HYC.out) (size70 Y HYC.out) (one70 Y) ?_
    refine hK _ _ ?_
    clear hK K
    have HR1 : Hid (ClRow (W8.setCells g7 (k * 70) (claimL Y)) g7 n (L.set k Y)) := Lib.hid (HR0.out.set HK.out HYO.out)
    have HB9 : Hid (Below w.heap.size w (W8.setCells g7 (k * 70) (claimL Y))) := Lib.hid (HB8.out.grown (grown_setCells g7 (claimL Y) (k * 70) W8) HB8.out.size (fun k hk => by cases hk; exact HG7.out))
    change wpAny _ _ _ _ _ _ _ (World.setCells W8 g7 (k * 70) (claimL Y))
    generalize W8.setCells g7 (k * 70) (claimL Y) = W9 at HR1 HB9 ⊢
    simp only [Act.put]
    refine wpAny_take (i := 14) (oi := ⟨some 50, .indexAddr 26 (.tmp 39) (.tmp 40), _, _, _, _⟩) (v := (.pointer (some ⟨g7, l * 70, none⟩))) rfl (by kernel_rfl) (by kernel_rfl) (by kernel_rfl) (fun _ _ _ h => h) (Or.inl ⟨by rfl, fun W => by go_simp⟩) ?_
    simp only [Act.put, List.setIfInBounds_toArray, List.set_cons_zero, List.set_cons_succ]
    refine wpAny_ready (rs := [15]) (by kernel_rfl) (by simp) ?_
    refine AllReady.cons (o := ⟨none, .store CEr (.tmp 50) (.tmp 48), _, _, _, _⟩) rfl (fun K hK => ?_) AllReady.nil
    rw [if_pos (by rfl)]
    refine wp_store_mid CEr _ _ rfl g7 (l * 70) (claimC X) rfl rfl (HR1.out.there HLN.out HXC.out) (size70 X HXC.out) (one70 X) ?_
    refine hK _ _ ?_
    clear hK K
    have HR2 : Hid (ClRow (W9.setCells g7 (l * 70) (claimL X)) g7 n ((L.set k Y).set l X)) := Lib.hid (HR1.out.set HLN.out HXO.out)
    have HBA : Hid (Below w.heap.size w (W9.setCells g7 (l * 70) (claimL X))) := Lib.hid (HB9.out.grown (grown_setCells g7 (claimL X) (l * 70) W9) HB9.out.size (fun k hk => by cases hk; exact HG7.out))
    change wpAny _ _ _ _ _ _ _ (World.setCells W9 g7 (l * 70) (claimL X))
    generalize W9.setCells g7 (l * 70) (claimL X) = WA at HR2 HBA ⊢
    simp only [Act.put]
    refine wpAny_done (by kernel_rfl) ?_ _
    have HPE : Hid (L.Perm ((L.set k Y).set l X)) := Lib.hid (by
      have := swapF_perm (L := L) (x := k) (y := l) (by rw [HL.out]; exact HK.out) (by rw [HL.out]; exact HLN.out)
      rw [HXE.out, HYE.out]; exact this)
    have HLS : Hid (∀ c ∈ (L.set k Y).set l X, c.path.length ≤ 100000) := Lib.hid (fun c hc => HLL.out c (HPE.out.mem_iff.2 hc))
    go_wp2_with (first
      | (go_at_call 8; go_must (refine (HTO.out _ HBA.out).mono ?_); rintro e w2 ⟨a2, c2, rfl, ho2, hb2⟩; rw [HL.out] at ho2 ⊢; have HA2 := Lib.hid ho2.atG; have HB2 := Lib.hid (HBA.out.trans (hb2.mono HBA.out.size)); have HR3 := Lib.hid (HR2.out.below HN0.out hb2); have HP2 := Lib.hid (paths_any a2 n c2 L w2 HA2.out (Nat.le_trans HM.out (by decide)) HLL.out (HT.out.below HB2.out)); clear ho2 hb2)
      | (go_at_call 7; (with_reducible refine HP2.out.mono ?_); rintro e w3 ⟨S, P, a3, c3, rfl, hsh, hp, hat, hb3⟩; have HS := Lib.hid hsh; have HP := Lib.hid hp; have HA3 := Lib.hid hat; have HB3 := Lib.hid (HB2.out.trans (hb3.mono HB2.out.size)); have HR4 := Lib.hid (HR3.out.below HN0.out hb3); clear hsh hp hat hb3; have HP3 := Lib.hid (paths_any (some ⟨g7, 0, none⟩) n c7 _ w3 (HR4.out.atG HC7.out HC8.out) (Nat.le_trans HM.out (by decide)) HLS.out (HT.out.below HB3.out)))
      | (go_at_call 7; (with_reducible refine HP3.out.mono ?_); rintro e w4 ⟨S2, P2, a4, c4, rfl, hsh, hp, hat, hb4⟩; obtain rfl := hsh.uniq HPE.out.symm HS.out; obtain rfl := hp.uniq HP.out; have HA4 := Lib.hid hat; have HA5 := Lib.hid (HA3.out.below hb4); have HB4 := Lib.hid (HB3.out.trans (hb4.mono HB3.out.size)); clear hsh hp hat hb4))
    obtain ⟨m, hm⟩ : ∃ m, S2.length = m := ⟨_, rfl⟩
    rw [hm] at HA4 HA5 ⊢
    have HML := Lib.hid hm
    have hmI : (m : Int) ≤ 40 := by
      have h1 := HS.out.length
      rw [HL.out, hm] at h1
      have := HM.out
      omega
    clear hm
    go_wp2
    go_loopg [12] m (fun g v12 W => ∃ i : Nat, v12 = .int .i64 i ∧ g + i = m ∧ Hid (Below w4.heap.size w4 W))
    case atStart => exact ⟨0, rfl, rfl, Lib.hid (Below.refl _ _)⟩
    case round =>
      obtain ⟨i, rfl, hg, HB⟩ := hrel
      have HG := Lib.hid hg
      have hi0 : (0 : Int) ≤ (i : Int) := by omega
      have hiI : (i : Int) ≤ (m : Int) := by omega
      by_cases hi : (i : Int) < (m : Int)
      · have him : i < m := by omega
        have HI := Lib.hid him
        obtain ⟨b5, o5, rfl⟩ := HA5.out.some_ (by omega)
        obtain ⟨b4, o4, rfl⟩ := HA4.out.some_ (by omega)
        obtain ⟨Z, hZ⟩ : ∃ Z, Z = gd (zipN S2 P2) i := ⟨_, rfl⟩
        have HZ : Hid (Z.1.c.length = 32) := Lib.hid (hZ ▸ HA4.out.ok him)
        have HC4 := Lib.hid ((HA4.out.below (HB.out.drew)).at_ i him)
        have HC5 := Lib.hid ((HA5.out.below (HB.out.drew)).at_ i him)
        rw [← hZ] at HC4 HC5
        clear hg hZ
        go_wp2
        refine wp_region_still_lit (by kernel_rfl) (by kernel_rfl) ?_
        iterate 3 still_step
        refine still_w (by rfl) (exec_loadNamed _ rfl _ _ Z HZ.out rfl HC5.out) ?_
        simp only [Act.put, List.setIfInBounds_toArray, List.set_cons_zero, List.set_cons_succ]
        iterate 3 still_step
        refine still_w (by rfl) (exec_loadNamed _ rfl _ _ Z HZ.out rfl HC4.out) ?_
        simp only [Act.put, List.setIfInBounds_toArray, List.set_cons_zero, List.set_cons_succ]
        refine still_w (by rfl) (exec_neqNamed _ _ _ rfl Z HZ.out rfl rfl) ?_
        simp only [Act.put, List.setIfInBounds_toArray, List.set_cons_zero, List.set_cons_succ]
        refine wpStill_nil ?_
        change Exit.then _ _ _ _ wr.drew
        have HBd := Lib.hid HB.out.drew
        generalize wr.drew = wd at HBd ⊢
        go_wp2
        go_roundg (m - (i + 1))
        case measure => have := HG.out; have := HI.out; omega
        case rel => exact ⟨i + 1, by go_num, by have := HI.out; omega, HBd⟩
      · have him : i = m := by omega
        subst him
        have HBZ := Lib.hid (HB4.out.trans (HB.out.mono HB4.out.size))
        clear hg
        go_wp2_with (go_at_call 12; go_must (refine (AW.out _ HBZ.out).mono ?_); rintro e w9 ⟨rfl, hb9⟩)
        go_ret
        exact ⟨rfl, HBZ.out.trans (hb9.mono HBZ.out.size)⟩
  · rw [if_pos (by rfl)]
    refine wp_load_mid _ _ rfl g7 (k * 70) rfl (claimL X) _ HXA.out Tryd.underlying41 rfl (size70L X HXC.out) ?_
    refine hK _ _ ?_
    clear hK K
    simp only [Act.put, List.setIfInBounds_toArray, List.set_cons_zero, List.set_cons_succ]
    refine wpAny_ready (rs := [7]) (by kernel_rfl) (by simp) ?_
    refine AllReady.cons (o := ⟨some 44, .load CEr (.tmp 43), _, _, _, _⟩) rfl (fun K hK => ?_) AllReady.nil
    rw [if_pos (by rfl)]
    refine wp_load_mid _ _ rfl g7 (l * 70) rfl (claimL Y) _ HYA.out Tryd.underlying41 rfl (size70L Y HYC.out) ?_
    refine hK _ _ ?_
    clear hK K
    simp only [Act.put, List.setIfInBounds_toArray, List.set_cons_zero, List.set_cons_succ]
    refine wpAny_take (i := 12) (oi := ⟨some 49, .indexAddr 26 (.tmp 37) (.tmp 38), _, _, _, _⟩) (v := (.pointer (some ⟨g7, k * 70, none⟩))) rfl (by kernel_rfl) (by kernel_rfl) (by kernel_rfl) (fun _ _ _ h => h) (Or.inl ⟨by rfl, fun W => by go_simp⟩) ?_
    simp only [Act.put, List.setIfInBounds_toArray, List.set_cons_zero, List.set_cons_succ]
    refine wpAny_ready (rs := [13]) (by kernel_rfl) (by simp) ?_
    refine AllReady.cons (o := ⟨none, .store CEr (.tmp 49) (.tmp 44), _, _, _, _⟩) rfl (fun K hK => ?_) AllReady.nil
    rw [if_pos (by rfl)]
    refine wp_store_mid CEr _ _ rfl g7 (k * 70) (claimC Y) rfl rfl (HR0.out.there HK.out HYC.out) (size70 Y HYC.out) (one70 Y) ?_
    refine hK _ _ ?_
    clear hK K
    have HR1 : Hid (ClRow (W8.setCells g7 (k * 70) (claimL Y)) g7 n (L.set k Y)) := Lib.hid (HR0.out.set HK.out HYO.out)
    have HB9 : Hid (Below w.heap.size w (W8.setCells g7 (k * 70) (claimL Y))) := Lib.hid (HB8.out.grown (grown_setCells g7 (claimL Y) (k * 70) W8) HB8.out.size (fun k hk => by cases hk; exact HG7.out))
    change wpAny _ _ _ _ _ _ _ (World.setCells W8 g7 (k * 70) (claimL Y))
    generalize W8.setCells g7 (k * 70) (claimL Y) = W9 at HR1 HB9 ⊢
    simp only [Act.put]
    refine wpAny_take (i := 14) (oi := ⟨some 50, .indexAddr 26 (.tmp 39) (.tmp 40), _, _, _, _⟩) (v := (.pointer (some ⟨g7, l * 70, none⟩))) rfl (by kernel_rfl) (by kernel_rfl) (by kernel_rfl) (fun _ _ _ h => h) (Or.inl ⟨by rfl, fun W => by go_simp⟩) ?_
    simp only [Act.put, List.setIfInBounds_toArray, List.set_cons_zero, List.set_cons_succ]
    refine wpAny_ready (rs := [15]) (by kernel_rfl) (by simp) ?_
    refine AllReady.cons (o := ⟨none, .store CEr (.tmp 50) (.tmp 48), _, _, _, _⟩) rfl (fun K hK => ?_) AllReady.nil
    rw [if_pos (by rfl)]
    refine wp_store_mid CEr _ _ rfl g7 (l * 70) (claimC X) rfl rfl (HR1.out.there HLN.out HXC.out) (size70 X HXC.out) (one70 X) ?_
    refine hK _ _ ?_
    clear hK K
    have HR2 : Hid (ClRow (W9.setCells g7 (l * 70) (claimL X)) g7 n ((L.set k Y).set l X)) := Lib.hid (HR1.out.set HLN.out HXO.out)
    have HBA : Hid (Below w.heap.size w (W9.setCells g7 (l * 70) (claimL X))) := Lib.hid (HB9.out.grown (grown_setCells g7 (claimL X) (l * 70) W9) HB9.out.size (fun k hk => by cases hk; exact HG7.out))
    change wpAny _ _ _ _ _ _ _ (World.setCells W9 g7 (l * 70) (claimL X))
    generalize W9.setCells g7 (l * 70) (claimL X) = WA at HR2 HBA ⊢
    simp only [Act.put]
    refine wpAny_done (by kernel_rfl) ?_ _
    have HPE : Hid (L.Perm ((L.set k Y).set l X)) := Lib.hid (by
      have := swapF_perm (L := L) (x := k) (y := l) (by rw [HL.out]; exact HK.out) (by rw [HL.out]; exact HLN.out)
      rw [HXE.out, HYE.out]; exact this)
    have HLS : Hid (∀ c ∈ (L.set k Y).set l X, c.path.length ≤ 100000) := Lib.hid (fun c hc => HLL.out c (HPE.out.mem_iff.2 hc))
    go_wp2_with (first
      | (go_at_call 8; go_must (refine (HTO.out _ HBA.out).mono ?_); rintro e w2 ⟨a2, c2, rfl, ho2, hb2⟩; rw [HL.out] at ho2 ⊢; have HA2 := Lib.hid ho2.atG; have HB2 := Lib.hid (HBA.out.trans (hb2.mono HBA.out.size)); have HR3 := Lib.hid (HR2.out.below HN0.out hb2); have HP2 := Lib.hid (paths_any a2 n c2 L w2 HA2.out (Nat.le_trans HM.out (by decide)) HLL.out (HT.out.below HB2.out)); clear ho2 hb2)
      | (go_at_call 7; (with_reducible refine HP2.out.mono ?_); rintro e w3 ⟨S, P, a3, c3, rfl, hsh, hp, hat, hb3⟩; have HS := Lib.hid hsh; have HP := Lib.hid hp; have HA3 := Lib.hid hat; have HB3 := Lib.hid (HB2.out.trans (hb3.mono HB2.out.size)); have HR4 := Lib.hid (HR3.out.below HN0.out hb3); clear hsh hp hat hb3; have HP3 := Lib.hid (paths_any (some ⟨g7, 0, none⟩) n c7 _ w3 (HR4.out.atG HC7.out HC8.out) (Nat.le_trans HM.out (by decide)) HLS.out (HT.out.below HB3.out)))
      | (go_at_call 7; (with_reducible refine HP3.out.mono ?_); rintro e w4 ⟨S2, P2, a4, c4, rfl, hsh, hp, hat, hb4⟩; obtain rfl := hsh.uniq HPE.out.symm HS.out; obtain rfl := hp.uniq HP.out; have HA4 := Lib.hid hat; have HA5 := Lib.hid (HA3.out.below hb4); have HB4 := Lib.hid (HB3.out.trans (hb4.mono HB3.out.size)); clear hsh hp hat hb4))
    obtain ⟨m, hm⟩ : ∃ m, S2.length = m := ⟨_, rfl⟩
    rw [hm] at HA4 HA5 ⊢
    have HML := Lib.hid hm
    have hmI : (m : Int) ≤ 40 := by
      have h1 := HS.out.length
      rw [HL.out, hm] at h1
      have := HM.out
      omega
    clear hm
    go_wp2
    go_loopg [12] m (fun g v12 W => ∃ i : Nat, v12 = .int .i64 i ∧ g + i = m ∧ Hid (Below w4.heap.size w4 W))
    case atStart => exact ⟨0, rfl, rfl, Lib.hid (Below.refl _ _)⟩
    case round =>
      obtain ⟨i, rfl, hg, HB⟩ := hrel
      have HG := Lib.hid hg
      have hi0 : (0 : Int) ≤ (i : Int) := by omega
      have hiI : (i : Int) ≤ (m : Int) := by omega
      by_cases hi : (i : Int) < (m : Int)
      · have him : i < m := by omega
        have HI := Lib.hid him
        obtain ⟨b5, o5, rfl⟩ := HA5.out.some_ (by omega)
        obtain ⟨b4, o4, rfl⟩ := HA4.out.some_ (by omega)
        obtain ⟨Z, hZ⟩ : ∃ Z, Z = gd (zipN S2 P2) i := ⟨_, rfl⟩
        have HZ : Hid (Z.1.c.length = 32) := Lib.hid (hZ ▸ HA4.out.ok him)
        have HC4 := Lib.hid ((HA4.out.below (HB.out.drew)).at_ i him)
        have HC5 := Lib.hid ((HA5.out.below (HB.out.drew)).at_ i him)
        rw [← hZ] at HC4 HC5
        clear hg hZ
        go_wp2
        refine wp_region_still_lit (by kernel_rfl) (by kernel_rfl) ?_
        iterate 3 still_step
        refine still_w (by rfl) (exec_loadNamed _ rfl _ _ Z HZ.out rfl HC5.out) ?_
        simp only [Act.put, List.setIfInBounds_toArray, List.set_cons_zero, List.set_cons_succ]
        iterate 3 still_step
        refine still_w (by rfl) (exec_loadNamed _ rfl _ _ Z HZ.out rfl HC4.out) ?_
        simp only [Act.put, List.setIfInBounds_toArray, List.set_cons_zero, List.set_cons_succ]
        refine still_w (by rfl) (exec_neqNamed _ _ _ rfl Z HZ.out rfl rfl) ?_
        simp only [Act.put, List.setIfInBounds_toArray, List.set_cons_zero, List.set_cons_succ]
        refine wpStill_nil ?_
        change Exit.then _ _ _ _ wr.drew
        have HBd := Lib.hid HB.out.drew
        generalize wr.drew = wd at HBd ⊢
        go_wp2
        go_roundg (m - (i + 1))
        case measure => have := HG.out; have := HI.out; omega
        case rel => exact ⟨i + 1, by go_num, by have := HI.out; omega, HBd⟩
      · have him : i = m := by omega
        subst him
        have HBZ := Lib.hid (HB4.out.trans (HB.out.mono HB4.out.size))
        clear hg
        go_wp2_with (go_at_call 12; go_must (refine (AW.out _ HBZ.out).mono ?_); rintro e w9 ⟨rfl, hb9⟩)
        go_ret
        exact ⟨rfl, HBZ.out.trans (hb9.mono HBZ.out.size)⟩
#print axioms registerTurned_any
end Go.Proofs.YtkahldoognofeaaDoor
