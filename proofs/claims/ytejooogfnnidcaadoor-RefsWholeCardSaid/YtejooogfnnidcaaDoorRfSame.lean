/-
  The walks of lists and Same, where both are one.
-/
import Derived.Test.YtejooogfnnidcaaDoorRfEq
namespace Go.Proofs.YtejooogfnnidcaaDoor
open Go.RowKit

set_option maxRecDepth 100000 in
set_option maxHeartbeats 2000000 in
theorem lists_any (a a' : Option Addr) (n c n' c' : Nat) (L : List RName) (w : World) (h : AtG rnK w a n c L) (h' : AtG rnK w a' n' c' L) (hn : L.length ≤ 100000) :
    Calls Tryd.prog 33 #[.slice a n c, .slice a' n' c'] w fun e w' => e = .returned (.bool true) ∧ Below w.heap.size w w' := by
  obtain rfl : n' = n := h'.1.symm.trans h.1
  have HA := Lib.hid h
  have HB := Lib.hid h'
  have hnI : (n' : Int) ≤ 100000 := by have := h.1; omega
  clear h h' hn
  go_enter Tryd.func33, Tryd.ntmps33
  go_wp2
  go_loopg [5] n' (fun g v5 W => ∃ i : Nat, v5 = .int .i64 i ∧ g + i = n' ∧ Hid (Below w.heap.size w W))
  case atStart => exact ⟨0, rfl, rfl, Lib.hid (Below.refl _ _)⟩
  case round =>
    obtain ⟨i, rfl, hg, HBW⟩ := hrel
    have HG := Lib.hid hg
    have hi0 : (0 : Int) ≤ (i : Int) := by omega
    have hiI : (i : Int) ≤ (n' : Int) := by omega
    by_cases hi : (i : Int) < (n' : Int)
    · have hin : i < n' := by omega
      have HI := Lib.hid hin
      obtain ⟨b, o, rfl⟩ := HA.out.some_ (by omega)
      obtain ⟨b', o', rfl⟩ := HB.out.some_ (by omega)
      obtain ⟨X, hX⟩ : ∃ X, X = gd L i := ⟨_, rfl⟩
      have HXO : Hid (X.2.length = 32) := Lib.hid (hX ▸ HA.out.ok hin)
      have HX1 := Lib.hid (fun W (hW : Below w.heap.size w W) => (hX ▸ (HA.out.below hW).at_ i hin : W.rangeAt b (o + i * 33) (rnL X)))
      have HX2 := Lib.hid (fun W (hW : Below w.heap.size w W) => (hX ▸ (HB.out.below hW).at_ i hin : W.rangeAt b' (o' + i * 33) (rnL X)))
      clear hg hX
      go_wp2
      have HBd : Hid (Below w.heap.size w wr.drew) := Lib.hid HBW.out.drew
      refine wp_region_held_drew (S := fun W => Below w.heap.size w W) (by kernel_rfl) HBd.out (fun hHeld => ?_)
      refine wpAnyH_take (i := 0) (oi := ⟨some 17, .move (.tmp 0), _, _, _, _⟩) (v := (.slice (some ⟨b, o, none⟩) n' c)) rfl (by kernel_rfl) (by kernel_rfl) (by kernel_rfl) (fun _ _ _ h => h) (Or.inl ⟨by rfl, fun W hW => by go_simp⟩) (by assumption) ?_
      simp only [Act.put, List.setIfInBounds_toArray, List.set_cons_zero, List.set_cons_succ]
      refine wpAnyH_take (i := 1) (oi := ⟨some 18, .move (.tmp 5), _, _, _, _⟩) (v := (.int .i64 (i : Nat))) rfl (by kernel_rfl) (by kernel_rfl) (by kernel_rfl) (fun _ _ _ h => h) (Or.inl ⟨by rfl, fun W hW => by go_simp⟩) (by assumption) ?_
      simp only [Act.put, List.setIfInBounds_toArray, List.set_cons_zero, List.set_cons_succ]
      refine wpAnyH_take (i := 2) (oi := ⟨some 19, .indexAddr 22 (.tmp 17) (.tmp 18), _, _, _, _⟩) (v := (.pointer (some ⟨b, o + i * 33, none⟩))) rfl (by kernel_rfl) (by kernel_rfl) (by kernel_rfl) (fun _ _ _ h => h) (Or.inl ⟨by rfl, fun W hW => by go_simp⟩) (by assumption) ?_
      simp only [Act.put, List.setIfInBounds_toArray, List.set_cons_zero, List.set_cons_succ]
      refine wpAnyH_take (i := 3) (oi := ⟨some 20, .load 55 (.tmp 19), _, _, _, _⟩) (v := (.agg (rnL X).toArray)) rfl (by kernel_rfl) (by kernel_rfl) (by kernel_rfl) (fun _ _ _ h => h) (Or.inl ⟨by rfl, fun W hW => exec_loadOn _ rfl _ _ X HXO.out rfl (HX1.out W hW)⟩) (by assumption) ?_
      simp only [Act.put, List.setIfInBounds_toArray, List.set_cons_zero, List.set_cons_succ]
      refine wpAnyH_take (i := 4) (oi := ⟨some 21, .move (.tmp 1), _, _, _, _⟩) (v := (.slice (some ⟨b', o', none⟩) n' c')) rfl (by kernel_rfl) (by kernel_rfl) (by kernel_rfl) (fun _ _ _ h => h) (Or.inl ⟨by rfl, fun W hW => by go_simp⟩) (by assumption) ?_
      simp only [Act.put, List.setIfInBounds_toArray, List.set_cons_zero, List.set_cons_succ]
      refine wpAnyH_take (i := 5) (oi := ⟨some 22, .move (.tmp 5), _, _, _, _⟩) (v := (.int .i64 (i : Nat))) rfl (by kernel_rfl) (by kernel_rfl) (by kernel_rfl) (fun _ _ _ h => h) (Or.inl ⟨by rfl, fun W hW => by go_simp⟩) (by assumption) ?_
      simp only [Act.put, List.setIfInBounds_toArray, List.set_cons_zero, List.set_cons_succ]
      refine wpAnyH_take (i := 6) (oi := ⟨some 23, .indexAddr 22 (.tmp 21) (.tmp 22), _, _, _, _⟩) (v := (.pointer (some ⟨b', o' + i * 33, none⟩))) rfl (by kernel_rfl) (by kernel_rfl) (by kernel_rfl) (fun _ _ _ h => h) (Or.inl ⟨by rfl, fun W hW => by go_simp⟩) (by assumption) ?_
      simp only [Act.put, List.setIfInBounds_toArray, List.set_cons_zero, List.set_cons_succ]
      refine wpAnyH_take (i := 7) (oi := ⟨some 24, .load 55 (.tmp 23), _, _, _, _⟩) (v := (.agg (rnL X).toArray)) rfl (by kernel_rfl) (by kernel_rfl) (by kernel_rfl) (fun _ _ _ h => h) (Or.inl ⟨by rfl, fun W hW => exec_loadOn _ rfl _ _ X HXO.out rfl (HX2.out W hW)⟩) (by assumption) ?_
      simp only [Act.put, List.setIfInBounds_toArray, List.set_cons_zero, List.set_cons_succ]
      refine wpAnyH_take (i := 8) (oi := ⟨some 25, .binOp .neq 55 (.tmp 20) (.tmp 24) 55, _, _, _, _⟩) (v := (.bool false)) rfl (by kernel_rfl) (by kernel_rfl) (by kernel_rfl) (fun _ _ _ h => h) (Or.inl ⟨by rfl, fun W hW => exec_neqRn _ _ _ rfl X HXO.out rfl rfl⟩) (by assumption) ?_
      simp only [Act.put, List.setIfInBounds_toArray, List.set_cons_zero, List.set_cons_succ]
      refine wpAnyH_done (by kernel_rfl) ?_ _
      have HBq := HBd
      go_wp2_with fail
      go_roundg (n' - (i + 1))
      case measure => have := HG.out; have := HI.out; omega
      case rel => exact ⟨i + 1, by go_num, by have := HI.out; omega, HBq⟩
    · clear hg
      go_wp2
      go_ret
      exact ⟨rfl, HBW.out⟩
set_option maxRecDepth 100000 in
set_option maxHeartbeats 4000000 in
theorem sameRf_any (S S' : RfS) (r : RefsV) (w : World) (h : RfIn w S r) (h' : RfIn w S' r) (hr : RfFew S) :
    Calls Tryd.prog 16 #[.agg (rfC S r.head r.at_), .agg (rfC S' r.head r.at_)] w fun e w' => e = .returned (.bool true) ∧ Below w.heap.size w w' := by
  have hnl : S'.nl = S.nl := h'.log.1.symm.trans h.log.1
  have HAT := Lib.hid h.at_
  have hlI : (S.nl : Int) ≤ 100000 := by have := hr.2.2; omega
  have HL1 := Lib.hid (fun W (hW : Below w.heap.size w W) => lists_any S.ab S'.ab S.nb S.cb S'.nb S'.cb r.br W (h.br.below hW) (h'.br.below hW) (by rw [h.br.1]; exact hr.1))
  have HL2 := Lib.hid (fun W (hW : Below w.heap.size w W) => lists_any S.ag S'.ag S.ng S.cg S'.ng S'.cg r.tg W (h.tg.below hW) (h'.tg.below hW) (by rw [h.tg.1]; exact hr.2.1))
  have HA := Lib.hid h.log
  have HB := Lib.hid h'.log
  obtain ⟨p, hp⟩ : ∃ p, strB r.head = p := ⟨_, rfl⟩
  obtain ⟨w1, hw1⟩ : ∃ w1, w1 = w.alloc (.cells (rfC S r.head r.at_) RREf) := ⟨_, rfl⟩
  obtain ⟨w0, hw0⟩ : ∃ w0, w0 = w1.alloc (.cells (rfC S' r.head r.at_) RREf) := ⟨_, rfl⟩
  have hz1 : w1.heap.size = w.heap.size + 1 := by rw [hw1]; simp
  have hb1 : Below w.heap.size w w1 := by rw [hw1]; exact (Below.refl _ _).alloc (Nat.le_refl _) _
  have hb0 : Below w1.heap.size w1 w0 := by rw [hw0]; exact (Below.refl _ _).alloc (Nat.le_refl _) _
  have HB0 : Hid (Below w.heap.size w w0) := Lib.hid (hb1.trans (hb0.mono (by omega)))
  have hr1 : RowAt w1 w.heap.size RREf (rfL S r.head r.at_) := by rw [hw1]; exact heap_alloc_new w _
  have HR0 : Hid (RowAt w0 w.heap.size RREf (rfL S r.head r.at_)) := Lib.hid (hr1.below (w' := w0) hb0)
  have HS0 : Hid (RowAt w0 (w.heap.size + 1) RREf (rfL S' r.head r.at_)) := Lib.hid (show w0.heap[w.heap.size + 1]? = _ by rw [hw0, ← hz1]; exact heap_alloc_new w1 _)
  have HW1 := Lib.hid hw1
  have HW0 := Lib.hid hw0
  have HC := Lib.hid (fun W (h1 : RowAt W w.heap.size RREf (rfL S r.head r.at_)) (h2 : RowAt W (w.heap.size + 1) RREf (rfL S' r.head r.at_)) => (⟨rf_br h1, rf_br h2, rf_tg h1, rf_tg h2, hp ▸ rf_hd h1, hp ▸ rf_hd h2, rf_log HAT.out h1, hnl ▸ rf_log HAT.out h2⟩ :
    W.cell? ⟨w.heap.size, 0, none⟩ = some (.slice S.ab S.nb S.cb) ∧ W.cell? ⟨w.heap.size + 1, 0, none⟩ = some (.slice S'.ab S'.nb S'.cb) ∧ W.cell? ⟨w.heap.size, 1, none⟩ = some (.slice S.ag S.ng S.cg) ∧ W.cell? ⟨w.heap.size + 1, 1, none⟩ = some (.slice S'.ag S'.ng S'.cg) ∧ W.cell? ⟨w.heap.size, 2, none⟩ = some (.string p) ∧ W.cell? ⟨w.heap.size + 1, 2, none⟩ = some (.string p) ∧ W.cell? ⟨w.heap.size, 35, none⟩ = some (.slice S.al S.nl S.cl) ∧ W.cell? ⟨w.heap.size + 1, 35, none⟩ = some (.slice S'.al S.nl S'.cl)))
  have HNL := Lib.hid hnl
  obtain ⟨c10, c20, c11, c21, c12, c22, c13, c23⟩ := HC.out _ HR0.out HS0.out
  clear h h' hr hp hw1 hw0 hz1 hb1 hb0 hr1 hnl
  go_enter Tryd.func16, Tryd.ntmps16
  go_wp2_with (first
    | ((with_reducible show wpList _ _ _ (⟨some 6, _, _, _, _, _⟩ :: _) _ (World.alloc _ _)); rw [← HW1.out, ← HW0.out])
    | (go_at_call 33; (with_reducible refine (HL1.out _ HB0.out).mono ?_); rintro e w2 ⟨rfl, hb2⟩; have HB2 := Lib.hid (HB0.out.trans (hb2.mono HB0.out.size)); have HR2 := Lib.hid (HR0.out.below hb2); have HS2 := Lib.hid (HS0.out.below hb2); obtain ⟨d10, d20, d11, d21, d12, d22, d13, d23⟩ := HC.out _ HR2.out HS2.out; clear hb2)
    | (go_at_call 33; (with_reducible refine (HL2.out _ HB2.out).mono ?_); rintro e w3 ⟨rfl, hb3⟩; have HB3 := Lib.hid (HB2.out.trans (hb3.mono HB2.out.size)); have HR3 := Lib.hid (HR2.out.below hb3); have HS3 := Lib.hid (HS2.out.below hb3); obtain ⟨e10, e20, e11, e21, e12, e22, e13, e23⟩ := HC.out _ HR3.out HS3.out; clear hb3)
    | ((with_reducible show wpList _ _ _ (⟨some 29, _, _, _, _, _⟩ :: _) _ _); go_must (refine wl_load rfl _ rfl _ _ r.at_ HAT.out rfl (rf_at HR3.out) ?_))
    | ((with_reducible show wpList _ _ _ (⟨some 31, _, _, _, _, _⟩ :: _) _ _); go_must (refine wl_load rfl _ rfl _ _ r.at_ HAT.out rfl (rf_at HS3.out) ?_))
    | ((with_reducible show wpList _ _ _ (⟨some 32, _, _, _, _, _⟩ :: _) _ _); go_must (refine wl_ex rfl (exec_neqId _ _ _ rfl r.at_ r.at_ HAT.out HAT.out rfl rfl) ?_); rw [decide_eq_true rfl]))
  go_loopg [5] S.nl (fun g v5 W => ∃ i : Nat, v5 = .int .i64 i ∧ g + i = S.nl ∧ Hid (Below w.heap.size w W) ∧ Hid (RowAt W w.heap.size RREf (rfL S r.head r.at_)) ∧ Hid (RowAt W (w.heap.size + 1) RREf (rfL S' r.head r.at_)))
  case atStart => exact ⟨0, rfl, rfl, HB3, HR3, HS3⟩
  case round =>
    obtain ⟨i, rfl, hg, HBW, HRW, HSW⟩ := hrel
    have HG := Lib.hid hg
    have hi0 : (0 : Int) ≤ (i : Int) := by omega
    have hiI : (i : Int) ≤ (S.nl : Int) := by omega
    have hcW := rf_log HAT.out HRW.out
    by_cases hi : (i : Int) < (S.nl : Int)
    · have hin : i < S.nl := by omega
      have HI := Lib.hid hin
      obtain ⟨b, o, hab⟩ := HA.out.some_ (by omega)
      obtain ⟨b', o', hab'⟩ := HB.out.some_ (by rw [HNL.out]; omega)
      have ha := HA.out
      have hb := HB.out
      rw [hab] at ha
      rw [hab', HNL.out] at hb
      obtain ⟨X, hX⟩ : ∃ X, X = gd r.log i := ⟨_, rfl⟩
      have HXO : Hid (UpOk X.upd) := Lib.hid (hX ▸ ha.ok hin)
      have HX1 := Lib.hid (fun W (hW : Below w.heap.size w W) => (hX ▸ (ha.below hW).at_ i hin : W.rangeAt b (o + i * 67) (enL X)))
      have HX2 := Lib.hid (fun W (hW : Below w.heap.size w W) => (hX ▸ (hb.below hW).at_ i hin : W.rangeAt b' (o' + i * 67) (enL X)))
      have HCA := Lib.hid (fun W (h1 : RowAt W w.heap.size RREf (rfL S r.head r.at_)) => (by rw [← hab]; exact rf_log HAT.out h1 : W.cell? ⟨w.heap.size, 35, none⟩ = some (.slice (some ⟨b, o, none⟩) S.nl S.cl)))
      have HCB := Lib.hid (fun W (h1 : RowAt W (w.heap.size + 1) RREf (rfL S' r.head r.at_)) => (by rw [← hab', ← HNL.out]; exact rf_log HAT.out h1 : W.cell? ⟨w.heap.size + 1, 35, none⟩ = some (.slice (some ⟨b', o', none⟩) S.nl S'.cl)))
      rw [hab] at hcW
      clear hg hX ha hb hab hab'
      go_wp2
      have HBd : Hid (Below w.heap.size w wr.drew) := Lib.hid HBW.out.drew
      have HRq : Hid (RowAt wr.drew w.heap.size RREf (rfL S r.head r.at_)) := Lib.hid HRW.out
      have HSq : Hid (RowAt wr.drew (w.heap.size + 1) RREf (rfL S' r.head r.at_)) := Lib.hid HSW.out
      refine wp_region_held_drew (S := fun W => Below w.heap.size w W ∧ RowAt W w.heap.size RREf (rfL S r.head r.at_) ∧ RowAt W (w.heap.size + 1) RREf (rfL S' r.head r.at_)) (by kernel_rfl) ⟨HBd.out, HRq.out, HSq.out⟩ (fun hHeld => ?_)
      refine wpAnyH_take (i := 0) (oi := ⟨some 50, .fieldAddr 27 (.tmp 2) 4, _, _, _, _⟩) (v := (.pointer (some ⟨w.heap.size, 35, none⟩))) rfl (by kernel_rfl) (by kernel_rfl) (by kernel_rfl) (fun _ _ _ h => h) (Or.inl ⟨by rfl, fun W hW => by go_simp⟩) (by assumption) ?_
      simp only [Act.put, List.setIfInBounds_toArray, List.set_cons_zero, List.set_cons_succ]
      refine wpAnyH_take (i := 1) (oi := ⟨some 51, .load 25 (.tmp 50), _, _, _, _⟩) (v := (.slice (some ⟨b, o, none⟩) S.nl S.cl)) rfl (by kernel_rfl) (by kernel_rfl) (by kernel_rfl) (fun _ _ _ h => h) (Or.inl ⟨by rfl, fun W hW => by have hcell := HCA.out W hW.2.1; go_simp⟩) (by assumption) ?_
      simp only [Act.put, List.setIfInBounds_toArray, List.set_cons_zero, List.set_cons_succ]
      refine wpAnyH_take (i := 2) (oi := ⟨some 52, .move (.tmp 5), _, _, _, _⟩) (v := (.int .i64 (i : Nat))) rfl (by kernel_rfl) (by kernel_rfl) (by kernel_rfl) (fun _ _ _ h => h) (Or.inl ⟨by rfl, fun W hW => by go_simp⟩) (by assumption) ?_
      simp only [Act.put, List.setIfInBounds_toArray, List.set_cons_zero, List.set_cons_succ]
      refine wpAnyH_take (i := 3) (oi := ⟨some 53, .indexAddr 25 (.tmp 51) (.tmp 52), _, _, _, _⟩) (v := (.pointer (some ⟨b, o + i * 67, none⟩))) rfl (by kernel_rfl) (by kernel_rfl) (by kernel_rfl) (fun _ _ _ h => h) (Or.inl ⟨by rfl, fun W hW => by go_simp⟩) (by assumption) ?_
      simp only [Act.put, List.setIfInBounds_toArray, List.set_cons_zero, List.set_cons_succ]
      refine wpAnyH_take (i := 4) (oi := ⟨some 54, .load 59 (.tmp 53), _, _, _, _⟩) (v := (.agg (enL X).toArray)) rfl (by kernel_rfl) (by kernel_rfl) (by kernel_rfl) (fun _ _ _ h => h) (Or.inl ⟨by rfl, fun W hW => exec_loadEn _ rfl _ _ X HXO.out rfl (HX1.out W hW.1)⟩) (by assumption) ?_
      simp only [Act.put, List.setIfInBounds_toArray, List.set_cons_zero, List.set_cons_succ]
      refine wpAnyH_take (i := 5) (oi := ⟨some 55, .fieldAddr 27 (.tmp 3) 4, _, _, _, _⟩) (v := (.pointer (some ⟨w.heap.size + 1, 35, none⟩))) rfl (by kernel_rfl) (by kernel_rfl) (by kernel_rfl) (fun _ _ _ h => h) (Or.inl ⟨by rfl, fun W hW => by go_simp⟩) (by assumption) ?_
      simp only [Act.put, List.setIfInBounds_toArray, List.set_cons_zero, List.set_cons_succ]
      refine wpAnyH_take (i := 6) (oi := ⟨some 56, .load 25 (.tmp 55), _, _, _, _⟩) (v := (.slice (some ⟨b', o', none⟩) S.nl S'.cl)) rfl (by kernel_rfl) (by kernel_rfl) (by kernel_rfl) (fun _ _ _ h => h) (Or.inl ⟨by rfl, fun W hW => by have hcell := HCB.out W hW.2.2; go_simp⟩) (by assumption) ?_
      simp only [Act.put, List.setIfInBounds_toArray, List.set_cons_zero, List.set_cons_succ]
      refine wpAnyH_take (i := 7) (oi := ⟨some 57, .move (.tmp 5), _, _, _, _⟩) (v := (.int .i64 (i : Nat))) rfl (by kernel_rfl) (by kernel_rfl) (by kernel_rfl) (fun _ _ _ h => h) (Or.inl ⟨by rfl, fun W hW => by go_simp⟩) (by assumption) ?_
      simp only [Act.put, List.setIfInBounds_toArray, List.set_cons_zero, List.set_cons_succ]
      refine wpAnyH_take (i := 8) (oi := ⟨some 58, .indexAddr 25 (.tmp 56) (.tmp 57), _, _, _, _⟩) (v := (.pointer (some ⟨b', o' + i * 67, none⟩))) rfl (by kernel_rfl) (by kernel_rfl) (by kernel_rfl) (fun _ _ _ h => h) (Or.inl ⟨by rfl, fun W hW => by go_simp⟩) (by assumption) ?_
      simp only [Act.put, List.setIfInBounds_toArray, List.set_cons_zero, List.set_cons_succ]
      refine wpAnyH_take (i := 9) (oi := ⟨some 59, .load 59 (.tmp 58), _, _, _, _⟩) (v := (.agg (enL X).toArray)) rfl (by kernel_rfl) (by kernel_rfl) (by kernel_rfl) (fun _ _ _ h => h) (Or.inl ⟨by rfl, fun W hW => exec_loadEn _ rfl _ _ X HXO.out rfl (HX2.out W hW.1)⟩) (by assumption) ?_
      simp only [Act.put, List.setIfInBounds_toArray, List.set_cons_zero, List.set_cons_succ]
      refine wpAnyH_take (i := 10) (oi := ⟨some 60, .binOp .neq 59 (.tmp 54) (.tmp 59) 59, _, _, _, _⟩) (v := (.bool false)) rfl (by kernel_rfl) (by kernel_rfl) (by kernel_rfl) (fun _ _ _ h => h) (Or.inl ⟨by rfl, fun W hW => exec_neqEn _ _ _ rfl X HXO.out rfl rfl⟩) (by assumption) ?_
      simp only [Act.put, List.setIfInBounds_toArray, List.set_cons_zero, List.set_cons_succ]
      refine wpAnyH_done (by kernel_rfl) ?_ _
      have HBq := HBd
      go_wp2_with fail
      go_roundg (S.nl - (i + 1))
      case measure => have := HG.out; have := HI.out; omega
      case rel => exact ⟨i + 1, by go_num, by have := HI.out; omega, HBq, HRq, HSq⟩
    · clear hg
      go_wp2
      go_ret
      exact ⟨rfl, HBW.out⟩
#print axioms sameRf_any
end Go.Proofs.YtejooogfnnidcaaDoor
