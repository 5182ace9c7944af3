/-
  The walk of Make.
-/
import Derived.Test.YtheigemfbcgjcaaDlMakeM
import Derived.Laws.EntriesVeiled
namespace Go.Proofs.Ytheigemfbcgjcaa
open Go.RowKit Go.Lib

set_option maxRecDepth 100000 in
set_option maxHeartbeats 4000000 in
theorem make_any (a a3 : Option Addr) (n c nt ct : Nat) (b t : List UInt8) (w : World) (hb : Bytes w a n c b) (ht : Bytes w a3 nt ct t) (hn : n ≤ 400000) (hnt : nt ≤ 400000) :
    Calls Try.prog 8 #[.slice a n c, .slice a3 nt ct] w (Made w (makeF b t)) := by
  have HB := Lib.hid hb
  have HT := Lib.hid ht
  have HN : Hid (n ≤ 400000 ∧ nt ≤ 400000 ∧ b.length = n ∧ t.length = nt) := Lib.hid ⟨hn, hnt, hb.1, ht.1⟩
  have hmf : ∀ (fn : Fn) (first cap : Array Value) (w : World), (Instr.makeFunc fn first cap).run Try.prog w = .ok (.func fn first cap) w := fun _ _ _ _ => rfl
  have hfst : ∀ (g : Nat) (u : Value) (fn : Fn) (cap : Array Value) (W : World), W.cell? ⟨g, 0, none⟩ = some u → W.frozen? ⟨g, 0, none⟩ = false → (store ⟨g, 0, none⟩ (.func fn #[] cap)).run Try.prog W = .ok () (W.setCell ⟨g, 0, none⟩ (.func fn #[] cap)) := fun g u fn cap W h1 h2 => by
    rw [run_store Try.prog W _ _ _ rfl]
    simp [h1, h2]
  obtain ⟨w1, hw1⟩ : ∃ W, w.alloc (.cells #[.slice a3 nt ct] 22) = W := ⟨_, rfl⟩
  obtain ⟨w2, hw2⟩ : ∃ W, w1.alloc (.cells #[.slice none 0 0] 22) = W := ⟨_, rfl⟩
  obtain ⟨w3, hw3⟩ : ∃ W, w2.alloc (.cells #[.nilFunc] 40) = W := ⟨_, rfl⟩
  have b1 : Below w.heap.size w w1 := hw1 ▸ (Below.refl _ _).alloc (Nat.le_refl _) _
  have b2 : Below w1.heap.size w1 w2 := hw2 ▸ (Below.refl _ _).alloc (Nat.le_refl _) _
  have b3 : Below w2.heap.size w2 w3 := hw3 ▸ (Below.refl _ _).alloc (Nat.le_refl _) _
  have s1 : w1.heap.size = w.heap.size + 1 := by rw [← hw1]; simp
  have s2 : w2.heap.size = w.heap.size + 1 + 1 := by rw [← hw2]; simp [s1]
  have s3 : w3.heap.size = w.heap.size + 1 + 1 + 1 := by rw [← hw3]; simp [s2]
  have e1 : w1.heap[w.heap.size]? = some (.cells #[.slice a3 nt ct] 22 (0, 0)) := hw1 ▸ heap_alloc_new w _
  have e2 : w2.heap[w.heap.size + 1]? = some (.cells #[.slice none 0 0] 22 (0, 0)) := s1 ▸ hw2 ▸ heap_alloc_new w1 _
  have e3 : w3.heap[w.heap.size + 1 + 1]? = some (.cells #[.nilFunc] 40 (0, 0)) := s2 ▸ hw3 ▸ heap_alloc_new w2 _
  obtain ⟨fv, hfv⟩ : ∃ v : Value, .func (.func 16) #[] #[.pointer (some ⟨w.heap.size + 1, 0, none⟩)] = v := ⟨_, rfl⟩
  have k3 : w3.cell? ⟨w.heap.size + 1 + 1, 0, none⟩ = some .nilFunc := by rw [cell_of_row _ _ _ _ _ _ e3]; rfl
  have z3 : w3.frozen? ⟨w.heap.size + 1 + 1, 0, none⟩ = false := frozen_of_row w3 _ 0 _ _ e3
  obtain ⟨w4, hw4⟩ : ∃ W, w3.setCell ⟨w.heap.size + 1 + 1, 0, none⟩ (.func (.func 16) #[] #[.pointer (some ⟨w.heap.size + 1, 0, none⟩)]) = W := ⟨_, rfl⟩
  have hst := hfst (w.heap.size + 1 + 1) _ (.func 16) #[.pointer (some ⟨w.heap.size + 1, 0, none⟩)] w3 k3 (frozen_of_row w3 _ 0 _ _ e3)
  rw [hw4] at hst
  have s4 : w4.heap.size = w.heap.size + 1 + 1 + 1 := by rw [← hw4]; simp [s3]
  obtain ⟨w5, hw5⟩ : ∃ W, w4.alloc (.cells #[.int .i64 0] 3) = W := ⟨_, rfl⟩
  have b5 : Below w4.heap.size w4 w5 := hw5 ▸ (Below.refl _ _).alloc (Nat.le_refl _) _
  have s5 : w5.heap.size = w.heap.size + 1 + 1 + 1 + 1 := by rw [← hw5]; simp [s4]
  have e5 : w5.heap[w.heap.size + 1 + 1 + 1]? = some (.cells #[.int .i64 0] 3 (0, 0)) := s4 ▸ hw5 ▸ heap_alloc_new w4 _
  have k5 : w5.cell? ⟨w.heap.size + 1 + 1 + 1, 0, none⟩ = some (.int .i64 0) := by rw [cell_of_row _ _ _ _ _ _ e5]; rfl
  have z5 : w5.frozen? ⟨w.heap.size + 1 + 1 + 1, 0, none⟩ = false := frozen_of_row w5 _ 0 _ _ e5
  obtain ⟨w6, hw6⟩ : ∃ W, w5.setCell ⟨w.heap.size + 1 + 1 + 1, 0, none⟩ (.int .i64 0) = W := ⟨_, rfl⟩
  have HM0 : Hid (MkW w.heap.size w w6 w6 (w.heap.size + 4) (.slice a3 nt ct) (.slice none 0 0) [] 0) := Lib.hid (by
    have g1 : ∀ k, k ≠ w.heap.size + 1 + 1 + 1 → ∀ j, w6.cell? ⟨k, j, none⟩ = w5.cell? ⟨k, j, none⟩ := fun k hk j => by rw [← hw6]; exact World.cell?_setCell_other (w := w5) (a := ⟨w.heap.size + 1 + 1 + 1, 0, none⟩) (b := ⟨k, j, none⟩) (v := _) (h := fun e => hk (by injection e with e1 _ _; exact e1.symm))
    have g2 : ∀ k, k ≠ w.heap.size + 1 + 1 → ∀ j, w4.cell? ⟨k, j, none⟩ = w3.cell? ⟨k, j, none⟩ := fun k hk j => by rw [← hw4]; exact World.cell?_setCell_other (w := w3) (a := ⟨w.heap.size + 1 + 1, 0, none⟩) (b := ⟨k, j, none⟩) (v := _) (h := fun e => hk (by injection e with e1 _ _; exact e1.symm))
    have c5 : ∀ k, k < w.heap.size + 3 → ∀ j, w5.cell? ⟨k, j, none⟩ = w4.cell? ⟨k, j, none⟩ := fun k hk j => b5.cell (p := ⟨k, j, none⟩) (by show k < w4.heap.size; omega)
    have c3 : ∀ k, k < w.heap.size + 2 → ∀ j, w3.cell? ⟨k, j, none⟩ = w2.cell? ⟨k, j, none⟩ := fun k hk j => b3.cell (p := ⟨k, j, none⟩) (by show k < w2.heap.size; omega)
    have c2 : ∀ k, k < w.heap.size + 1 → ∀ j, w2.cell? ⟨k, j, none⟩ = w1.cell? ⟨k, j, none⟩ := fun k hk j => b2.cell (p := ⟨k, j, none⟩) (by show k < w1.heap.size; omega)
    have f6 : ∀ x : Addr, w6.frozen? x = w5.frozen? x := fun x => by rw [← hw6]; exact World.frozen?_setCell ..
    have f5 : ∀ k, k < w.heap.size + 3 → ∀ j, w5.frozen? ⟨k, j, none⟩ = w4.frozen? ⟨k, j, none⟩ := fun k hk j => World.frozen?_of_block (a := ⟨k, j, none⟩) (b5.block k (by omega))
    have f4 : ∀ x : Addr, w4.frozen? x = w3.frozen? x := fun x => by rw [← hw4]; exact World.frozen?_setCell ..
    have f3 : ∀ k, k < w.heap.size + 2 → ∀ j, w3.frozen? ⟨k, j, none⟩ = w2.frozen? ⟨k, j, none⟩ := fun k hk j => World.frozen?_of_block (a := ⟨k, j, none⟩) (b3.block k (by omega))
    have s6 : w6.heap.size = w5.heap.size := by rw [← hw6]; simp
    refine ⟨⟨?_, ?_, Own.nil _ _, by omega, by omega⟩, ?_, ?_, ?_, ?_, ?_, by omega, Nat.le_refl _, fun _ _ _ => rfl, fun k _ _ h => by cases h⟩
    · rw [g1 _ (by omega), c5 _ (by omega), g2 _ (by omega), c3 _ (by omega), cell_of_row _ _ _ _ _ _ e2]; rfl
    · rw [f6, f5 _ (by omega), f4, f3 _ (by omega)]; exact frozen_of_row w2 _ 0 _ _ e2
    · rw [g1 _ (by omega), c5 _ (by omega), g2 _ (by omega), c3 _ (by omega), c2 _ (by omega), cell_of_row _ _ _ _ _ _ e1]; rfl
    · rw [g1 _ (by omega), c5 _ (by omega), ← hw4]
      exact World.cell?_setCell_same (a := ⟨w.heap.size + 1 + 1, 0, none⟩) (v := _) (h := k3)
    · rw [← hw6]
      exact World.cell?_setCell_same (a := ⟨w.heap.size + 1 + 1 + 1, 0, none⟩) (v := _) (h := k5)
    · rw [f6]; exact z5
    · have h4 : Below w.heap.size w w4 := hw4 ▸ (((b1.trans (b2.mono (by omega))).trans (b3.mono (by omega))).setCell (p := ⟨w.heap.size + 1 + 1, 0, none⟩) (by show w.heap.size ≤ w.heap.size + 1 + 1; omega) _)
      exact hw6 ▸ ((h4.trans (b5.mono (by omega))).setCell (p := ⟨w.heap.size + 1 + 1 + 1, 0, none⟩) (by show w.heap.size ≤ w.heap.size + 1 + 1 + 1; omega) _))
  have k6 : w6.cell? ⟨w.heap.size + 1 + 1, 0, none⟩ = some (.func (.func 16) #[] #[.pointer (some ⟨w.heap.size + 1, 0, none⟩)]) := HM0.out.f
  clear hfv
  clear hb ht hn hnt e1 e2 e3 e5 b1 b2 b3 b5 s3 s5 hfst
  go_enter Try.func8, Try.ntmps8
  have kf := HM0.out.f
  have HN1 := Lib.hid (num1_any (w.heap.size + 1) (w.heap.size + 4) n (.slice none 0 0) [] w6 HM0.out.d (by have := HN.out; omega) (by have := numF_length_le9 n (by have := HN.out; omega); simp; omega))
  go_wp2_with (first | (go_at_call 16; (with_reducible refine HN1.out.mono ?_); rintro e wA ⟨rfl, vA, hD, hstp, hto⟩; have HMA := Lib.hid (HM0.out.told hstp hto hD); have kA := HMA.out.f; have tA := HMA.out.t; clear hD hstp hto))
  clear hw1 hw2 hw3 hw4 hw5 hw6 hst k3 z3 k5 z5 k6 kf s1 s2 s4
  have HN2 := Lib.hid (num1_any (w.heap.size + 1) (w.heap.size + 4) nt vA ([] ++ numF n) wA HMA.out.d (by have := HN.out; omega) (by have h1 := numF_length_le9 n (by have := HN.out; omega); have h2 := numF_length_le9 nt (by have := HN.out; omega); rw [List.nil_append]; omega))
  go_wp2_with (first | (go_at_call 16; (with_reducible refine HN2.out.mono ?_); rintro e wB ⟨rfl, vB, hD, hstp, hto⟩; have HMB := Lib.hid (HMA.out.told hstp hto hD); have HF := Lib.hid (find_any a n c b wB (bytes_blocks HB.out (fun k hk => HMB.out.low.block k hk)) HN.out.1); clear hD hstp hto) | (go_at_call 19; (with_reducible refine HF.out.mono ?_); rintro e wf ⟨gR, rfl, hr, hb⟩; have HRW := Lib.hid hr; have HMF := Lib.hid (HMB.out.refound hb); have tF := HMF.out.t; clear hr hb))
  clear kA tA tF HM0 HN1 HN2 HF
  go_loopg [10] (nt + 1) (fun g v10 W => ∃ (at_ x : Nat) (v : Value) (out : List UInt8), v10 = .int .i64 (at_ : Nat) ∧ Hid (nt + 1 ≤ g + at_) ∧ Hid (x ≤ at_ ∧ at_ ≤ nt) ∧ Hid (out ++ goF b t g at_ x = makeF b t) ∧ Hid (out.length ≤ 20 + 30 * x) ∧ Hid (MkW w.heap.size w wf W wB.heap.size (.slice a3 nt ct) v out x))
  case atStart =>
    refine ⟨0, 0, vB, _, rfl, Lib.hid (by omega), Lib.hid ⟨by omega, by omega⟩, Lib.hid ?_, Lib.hid ?_, HMF⟩
    · have h1 := HN.out
      unfold makeF
      rw [h1.2.2.1, h1.2.2.2]; simp
    · have h1 := numF_length_le9 n (by have := HN.out; omega)
      have h2 := numF_length_le9 nt (by have := HN.out; omega)
      simp only [List.nil_append, List.length_append]; omega
  case round =>
    obtain ⟨at_, x, v, out, rfl, HG, HAT, HGO, HLN, HM⟩ := hrel
    have tM := HM.out.t
    by_cases hi : (at_ : Int) < (nt : Int)
    · have hat := HAT.out
      have hn := HN.out
      obtain ⟨bt, ot, rfl⟩ := bsome HT.out (by have := HT.out.2.1; omega)
      obtain ⟨q, hq⟩ : ∃ q, gk = q + 1 := ⟨gk - 1, by have := HG.out; omega⟩
      have HQ := Lib.hid hq
      rcases hpl : rowF b (t.drop at_) with ⟨p, l⟩
      have HPL := Lib.hid hpl
      have HBY : Hid (Bytes wr a n c b ∧ Bytes wr (some ⟨bt, ot, none⟩) nt ct t) := Lib.hid ⟨bytes_blocks HB.out (fun k hk => HM.out.low.block k hk), bytes_blocks HT.out (fun k hk => HM.out.low.block k hk)⟩
      have HLG := Lib.hid (longest_any wB.heap.size gR n c (nt - at_) (ct - at_) a (some ⟨bt, ot + at_, none⟩) b (t.drop at_) wr (HM.out.rows HRW.out) HBY.out.1 (bytes_drop HBY.out.2 hat.2) hn.1 (by omega))
      have hi0 : (0 : Int) ≤ (at_ : Int) := by omega
      have hnc : nt ≤ ct := HT.out.2.1
      have hpc : at_ ≤ nt := by omega
      have hcp : ¬ ct = at_ := by omega
      have hcp' : ¬ at_ = ct := by omega
      have hcc : at_ ≤ ct := by omega
      have HI : Hid (at_ < nt) := Lib.hid (by omega)
      clear hq hpl hat hn
      by_cases hl : l = 0
      · subst hl
        have W1 : IntKind.i64.wrap ((at_ : Int) + 1) = (at_ : Int) + 1 := IntWalk.i64_in _ (by have := HN.out; omega)
        go_wp2_with (go_at_call 20; (with_reducible refine HLG.out.mono ?_); rintro e w7 ⟨p', l', rfl, hrow, hb⟩; obtain ⟨rfl, rfl⟩ := Prod.mk.inj (HPL.out.symm.trans (rowF_eq hrow)); have HM7 := Lib.hid (HM.out.below hb); clear hrow hb)
        go_roundg q
        case measure => have := HQ.out; omega
        case rel => exact ⟨at_ + 1, x, v, out, by go_num, Lib.hid (by have := HG.out; have := HQ.out; omega), Lib.hid (by have := HAT.out; have := HI.out; omega), Lib.hid (by have h1 := HGO.out; rw [HQ.out, go_none (by have := HI.out; have := HN.out; omega) HPL.out] at h1; exact h1), HLN, HM7⟩
      · have HRI : Hid (RowIs b (t.drop at_) p l) := Lib.hid (by have h := rowF_is b (t.drop at_); rw [HPL.out] at h; exact h)
        have hle := HRI.out.le
        have h8 := HRI.out.eight hl
        have hn := HN.out
        have hat := HAT.out
        rw [List.length_drop] at hle
        obtain ⟨at2, hat2⟩ : ∃ q, at_ + l = q := ⟨_, rfl⟩
        obtain ⟨l2, hl2⟩ : ∃ q, 2 * l = q := ⟨_, rfl⟩
        obtain ⟨l3, hl3⟩ : ∃ q, 2 * l + 1 = q := ⟨_, rfl⟩
        have W1 : IntKind.i64.wrap ((at_ : Int) + (l : Int)) = (at2 : Int) := by rw [IntWalk.i64_in _ (by omega)]; omega
        have W2 : IntKind.i64.wrap (2 * (l : Int)) = (l2 : Int) := by rw [IntWalk.i64_in _ (by omega)]; omega
        have W3 : IntKind.i64.wrap ((l2 : Int) + 1) = (l3 : Int) := by rw [IntWalk.i64_in _ (by omega)]; omega
        have hl0 : ((l : Int) == 0) = false := by rw [beq_eq_false_iff_ne]; omega
        have HL3 : Hid (l3 ≤ 1000000 ∧ p ≤ 400000 ∧ at_ + 8 ≤ at2 ∧ at2 ≤ nt ∧ at_ + l = at2 ∧ 2 * l + 1 = l3) := Lib.hid ⟨by omega, by omega, by omega, by omega, hat2, hl3⟩
        clear hle h8 hn hat hat2 hl2 hl3
        by_cases hxa : x < at_
        · have HXA := Lib.hid hxa
          clear hxa
          have HL8 : Hid ((out ++ (numF (2 * (at_ - x)) ++ (t.take at_).drop x)).length ≤ 40 + 31 * at_) := Lib.hid (by have h1 := HLN.out; have h2 := HAT.out; have h3 := numF_length_le9 (2 * (at_ - x)) (by have := HN.out; omega); first | omega | (simp only [List.length_append, List.length_drop, List.length_take]; omega))
          go_wp2_with (first | (go_at_call 20; (with_reducible refine HLG.out.mono ?_); rintro e w7 ⟨p', l', rfl, hrow, hb⟩; obtain ⟨rfl, rfl⟩ := Prod.mk.inj (HPL.out.symm.trans (rowF_eq hrow)); have HM7 := Lib.hid (HM.out.below hb); clear hrow hb) | (go_at_call 18; (with_reducible refine (add_any (w.heap.size + 1 + 1 + 1) (w.heap.size + 1 + 1) w.heap.size (w.heap.size + 1) (w.heap.size + 4) x at_ nt ct bt ot v out t w w7 HM7.out.d HM7.out.x HM7.out.f HM7.out.t HT.out HM7.out.low (Nat.le_succ _) ⟨by omega, by omega⟩ ⟨by omega, by omega⟩ ⟨by omega, by omega⟩ HXA.out HAT.out.2 HN.out.2.1 (by have h1 := HLN.out; have h2 := HAT.out; have h3 := HN.out; omega)).mono ?_); rintro e w8 ⟨rfl, v8, hD, hs8, ht8⟩; have HM8 := Lib.hid (HM7.out.told hs8 ht8 hD); have kf8 := HM8.out.f; clear hD hs8 ht8) | (go_at_call 16; (with_reducible refine (num1_any (w.heap.size + 1) (w.heap.size + 4) l3 v8 (out ++ (numF (2 * (at_ - x)) ++ (t.take at_).drop x)) w8 HM8.out.d (by have := HN.out; have := HL3.out; omega) (by have h1 := HL8.out; have h2 := HAT.out; have h3 := HN.out; have h4 := numF_length_le9 l3 (by have := HL3.out; omega); omega)).mono ?_); rintro e w9 ⟨rfl, v9, hD, hs9, ht9⟩; have HM9 := Lib.hid (HM8.out.told hs9 ht9 hD); have kf9 := HM9.out.f; clear hD hs9 ht9) | (go_at_call 16; (with_reducible refine (num1_any (w.heap.size + 1) (w.heap.size + 4) p v9 ((out ++ (numF (2 * (at_ - x)) ++ (t.take at_).drop x)) ++ numF l3) w9 HM9.out.d (by have := HN.out; have := HL3.out; omega) (by have h1 := HL8.out; have h2 := HAT.out; have h3 := HN.out; have h4 := numF_length_le9 l3 (by have := HL3.out; omega); have h5 := numF_length_le9 p (by have := HL3.out; omega); rw [List.length_append]; omega)).mono ?_); rintro e w10 ⟨rfl, v10, hD, hs10, ht10⟩; have HM10 := Lib.hid (HM9.out.told hs10 ht10 hD); have x10 := HM10.out.x; have fx10 := HM10.out.fx; clear hD hs10 ht10))
          have HM11 := Lib.hid (HM10.out.setx at2)
          go_roundg q
          case measure => have := HQ.out; omega
          case rel =>
            refine ⟨at2, at2, v10, _, rfl, Lib.hid (by have := HG.out; have := HQ.out; have := HL3.out; omega), Lib.hid (by have := HL3.out; omega), Lib.hid ?_, Lib.hid ?_, HM11⟩
            · have h1 := HGO.out
              rw [HQ.out, go_row (by have := HI.out; have := HN.out; omega) HPL.out hl] at h1
              have h2 : at_ + l = at2 := HL3.out.2.2.2.2.1
              have h3 : 2 * l + 1 = l3 := HL3.out.2.2.2.2.2
              rw [h2, h3] at h1
              rw [← h1]
              unfold addF; rw [if_pos HXA.out]; simp [List.append_assoc]
            · have h1 := HL3.out; have h2 := HLN.out; have h3 := HAT.out; have h4 := numF_length_le9 l3 (by omega); have h5 := numF_length_le9 p (by omega); have h6 := numF_length_le9 (2 * (at_ - x)) (by have := HN.out; omega)
              simp only [List.length_append, List.length_drop, List.length_take]; omega
        · have HXA := Lib.hid hxa
          clear hxa
          have HL8 : Hid (out.length ≤ 40 + 31 * at_) := Lib.hid (by have h1 := HLN.out; have h2 := HAT.out; have h3 := numF_length_le9 (2 * (at_ - x)) (by have := HN.out; omega); first | omega | (simp only [List.length_append, List.length_drop, List.length_take]; omega))
          go_wp2_with (first | (go_at_call 20; (with_reducible refine HLG.out.mono ?_); rintro e w7 ⟨p', l', rfl, hrow, hb⟩; obtain ⟨rfl, rfl⟩ := Prod.mk.inj (HPL.out.symm.trans (rowF_eq hrow)); have HM7 := Lib.hid (HM.out.below hb); clear hrow hb) | (go_at_call 18; (with_reducible refine (add_no (w.heap.size + 1 + 1 + 1) (w.heap.size + 1 + 1) w.heap.size (w.heap.size + 1) x at_ w7 HM7.out.x HXA.out).mono ?_); rintro e w8 ⟨rfl, he8⟩; subst w8; have kf8 := HM7.out.f) | (go_at_call 16; (with_reducible refine (num1_any (w.heap.size + 1) (w.heap.size + 4) l3 v out w7 HM7.out.d (by have := HN.out; have := HL3.out; omega) (by have h1 := HL8.out; have h2 := HAT.out; have h3 := HN.out; have h4 := numF_length_le9 l3 (by have := HL3.out; omega); omega)).mono ?_); rintro e w9 ⟨rfl, v9, hD, hs9, ht9⟩; have HM9 := Lib.hid (HM7.out.told hs9 ht9 hD); have kf9 := HM9.out.f; clear hD hs9 ht9) | (go_at_call 16; (with_reducible refine (num1_any (w.heap.size + 1) (w.heap.size + 4) p v9 (out ++ numF l3) w9 HM9.out.d (by have := HN.out; have := HL3.out; omega) (by have h1 := HL8.out; have h2 := HAT.out; have h3 := HN.out; have h4 := numF_length_le9 l3 (by have := HL3.out; omega); have h5 := numF_length_le9 p (by have := HL3.out; omega); rw [List.length_append]; omega)).mono ?_); rintro e w10 ⟨rfl, v10, hD, hs10, ht10⟩; have HM10 := Lib.hid (HM9.out.told hs10 ht10 hD); have x10 := HM10.out.x; have fx10 := HM10.out.fx; clear hD hs10 ht10))
          have HM11 := Lib.hid (HM10.out.setx at2)
          go_roundg q
          case measure => have := HQ.out; omega
          case rel =>
            refine ⟨at2, at2, v10, _, rfl, Lib.hid (by have := HG.out; have := HQ.out; have := HL3.out; omega), Lib.hid (by have := HL3.out; omega), Lib.hid ?_, Lib.hid ?_, HM11⟩
            · have h1 := HGO.out
              rw [HQ.out, go_row (by have := HI.out; have := HN.out; omega) HPL.out hl] at h1
              have h2 : at_ + l = at2 := HL3.out.2.2.2.2.1
              have h3 : 2 * l + 1 = l3 := HL3.out.2.2.2.2.2
              rw [h2, h3] at h1
              rw [← h1]
              unfold addF; rw [if_neg HXA.out]; simp [List.append_assoc]
            · have h1 := HL3.out; have h2 := HLN.out; have h3 := HAT.out; have h4 := numF_length_le9 l3 (by omega); have h5 := numF_length_le9 p (by omega); have h6 := numF_length_le9 (2 * (at_ - x)) (by have := HN.out; omega)
              simp only [List.length_append]; omega
    · have hat : at_ = nt := by have := HAT.out; omega
      subst hat
      have HQ0 := HG.out
      obtain ⟨q, hq⟩ : ∃ q, gk = q + 1 := ⟨gk - 1, by omega⟩
      have HQ := Lib.hid hq
      clear hq HQ0
      by_cases hxa : x < at_
      · have HXA := Lib.hid hxa
        clear hxa
        obtain ⟨bt, ot, rfl⟩ := bsome HT.out (by have := HT.out.2.1; have := HXA.out; omega)
        go_wp2_with (go_at_call 18; (with_reducible refine (add_any (w.heap.size + 1 + 1 + 1) (w.heap.size + 1 + 1) w.heap.size (w.heap.size + 1) (w.heap.size + 4) x at_ at_ ct bt ot v out t w wr HM.out.d HM.out.x HM.out.f HM.out.t HT.out HM.out.low (Nat.le_succ _) ⟨by omega, by omega⟩ ⟨by omega, by omega⟩ ⟨by omega, by omega⟩ HXA.out (Nat.le_refl _) HN.out.2.1 (by have h1 := HLN.out; have h2 := HAT.out; have h3 := HN.out; omega)).mono ?_); rintro e w8 ⟨rfl, v8, hD, hs8, ht8⟩; obtain ⟨a8, n8, c8, rfl, _⟩ := hD.own.bytes; have HM8 := Lib.hid (HM.out.told hs8 ht8 hD); have kf8 := HM8.out.d.cell; clear hD hs8 ht8)
        go_ret
        have hgo : makeF b t = out ++ (numF (2 * (at_ - x)) ++ (t.take at_).drop x) := by rw [← HGO.out, HQ.out, go_end (by have := HN.out; omega)]; unfold addF; rw [HN.out.2.2.2, if_pos HXA.out]
        rw [hgo]
        exact ⟨a8, n8, c8, rfl, HM8.out.d.own.mono (by omega), HM8.out.low⟩
      · have HXA := Lib.hid hxa
        clear hxa
        obtain ⟨a8, n8, c8, rfl, _⟩ := HM.out.d.own.bytes
        go_wp2_with (go_at_call 18; (with_reducible refine (add_no (w.heap.size + 1 + 1 + 1) (w.heap.size + 1 + 1) w.heap.size (w.heap.size + 1) x at_ wr HM.out.x HXA.out).mono ?_); rintro e w8 ⟨rfl, he8⟩; subst w8; have kf8 := HM.out.d.cell)
        go_ret
        have hgo : makeF b t = out := by rw [← HGO.out, HQ.out, go_end (by have := HN.out; omega)]; unfold addF; rw [HN.out.2.2.2, if_neg HXA.out, List.append_nil]
        rw [hgo]
        exact ⟨a8, n8, c8, rfl, HM.out.d.own.mono (by omega), HM.out.low⟩
#print axioms make_any
end Go.Proofs.Ytheigemfbcgjcaa
