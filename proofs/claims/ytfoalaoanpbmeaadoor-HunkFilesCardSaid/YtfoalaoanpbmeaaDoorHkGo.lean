/-
  The walk of hunks: the loop over the moves.
-/
import Derived.Test.YtfoalaoanpbmeaaDoorGrp9
namespace Go.Proofs.YtfoalaoanpbmeaaDoor
open Go.RowKit Go.Lib My

theorem fit_one {r : List Int} {a b : List Ln} (h : Fit (1 :: r) a b) : ∃ x a2 b2, a = x :: a2 ∧ b = x :: b2 ∧ Fit r a2 b2 := by cases h with | keep h => exact ⟨_, _, _, rfl, rfl, h⟩
theorem fit_two {r : List Int} {a b : List Ln} (h : Fit (2 :: r) a b) : ∃ x a2, a = x :: a2 ∧ Fit r a2 b := by cases h with | drop h => exact ⟨_, _, rfl, h⟩
theorem fit_three {r : List Int} {a b : List Ln} (h : Fit (3 :: r) a b) : ∃ y b2, b = y :: b2 ∧ Fit r a b2 := by cases h with | add h => exact ⟨_, _, rfl, h⟩
theorem drop_step {α : Type} {l : List α} {i : Nat} {x : α} {r : List α} (d : α) (h : l.drop i = x :: r) : l.drop (i + 1) = r ∧ i < l.length ∧ l.getD i d = x := by
  have hi : i < l.length := by
    rcases Nat.lt_or_ge i l.length with h1 | h1
    · exact h1
    · rw [List.drop_eq_nil_of_le h1] at h; cases h
  rw [List.drop_eq_getElem_cons hi] at h
  injection h with h1 h2
  exact ⟨h2, hi, by rw [List.getD_eq_getElem?_getD, List.getElem?_eq_getElem hi]; exact h1⟩
theorem getD_mem {α : Type} {l : List α} {i : Nat} {d : α} (h : i < l.length) : l.getD i d ∈ l := by
  rw [List.getD_eq_getElem?_getD, List.getElem?_eq_getElem h]; exact List.getElem_mem h
theorem go_cons {ms : List Int} {a b : List Ln} {m : Int} {r : List Int} {at_ i j : Nat} {op : Bool} {H : List HkV} : hkGo ms a b (m :: r) at_ i j op H = if nearF ms at_ then
      if m = 1 then hkGo ms a b r (at_ + 1) (i + 1) (j + 1) true (putF H op i j (32 :: a.getD i []))
      else if m = 2 then hkGo ms a b r (at_ + 1) (i + 1) j true (putF H op i j (45 :: a.getD i []))
      else hkGo ms a b r (at_ + 1) i (j + 1) true (putF H op i j (43 :: b.getD j []))
    else hkGo ms a b r (at_ + 1) (i + 1) (j + 1) false H := rfl
theorem hk_new (w2 : World) (s : Nat) (hs : w2.heap.size = s) : HkS w2 ((((w2.alloc (.cells #[.slice none 0 0] 22)).alloc (.cells #[.int .i64 0] 3)).alloc (.cells #[.int .i64 0] 3)).alloc (.cells #[.bool false] 4)) s (s + 4) s (s + 1) (s + 1 + 1) (s + 1 + 1 + 1) 0 0 false 0 [] := by
  subst hs
  obtain ⟨w3, hw3⟩ : ∃ W, w2.alloc (.cells #[.slice none 0 0] 22) = W := ⟨_, rfl⟩
  obtain ⟨w4, hw4⟩ : ∃ W, w3.alloc (.cells #[.int .i64 0] 3) = W := ⟨_, rfl⟩
  obtain ⟨w5, hw5⟩ : ∃ W, w4.alloc (.cells #[.int .i64 0] 3) = W := ⟨_, rfl⟩
  obtain ⟨w6, hw6⟩ : ∃ W, w5.alloc (.cells #[.bool false] 4) = W := ⟨_, rfl⟩
  have s3 : w3.heap.size = w2.heap.size + 1 := by rw [← hw3]; simp
  have s4 : w4.heap.size = w2.heap.size + 1 + 1 := by rw [← hw4]; simp [s3]
  have s5 : w5.heap.size = w2.heap.size + 1 + 1 + 1 := by rw [← hw5]; simp [s4]
  have s6 : w6.heap.size = w2.heap.size + 1 + 1 + 1 + 1 := by rw [← hw6]; simp [s5]
  have b4 : Below w3.heap.size w3 w4 := hw4 ▸ (Below.refl _ _).alloc (Nat.le_refl _) _
  have b5 : Below w4.heap.size w4 w5 := hw5 ▸ (Below.refl _ _).alloc (Nat.le_refl _) _
  have b6 : Below w5.heap.size w5 w6 := hw6 ▸ (Below.refl _ _).alloc (Nat.le_refl _) _
  have b3 : Below w2.heap.size w2 w3 := hw3 ▸ (Below.refl _ _).alloc (Nat.le_refl _) _
  have e3 : w6.heap[w2.heap.size]? = some (.cells #[.slice none 0 0] 22 (0, 0)) := by rw [b6.block _ (by omega), b5.block _ (by omega), b4.block _ (by omega), ← hw3]; exact heap_alloc_new w2 _
  have e4 : w6.heap[w2.heap.size + 1]? = some (.cells #[.int .i64 0] 3 (0, 0)) := by rw [b6.block _ (by omega), b5.block _ (by omega), ← hw4, ← s3]; exact heap_alloc_new w3 _
  have e5 : w6.heap[w2.heap.size + 1 + 1]? = some (.cells #[.int .i64 0] 3 (0, 0)) := by rw [b6.block _ (by omega), ← hw5, ← s4]; exact heap_alloc_new w4 _
  have e6 : w6.heap[w2.heap.size + 1 + 1 + 1]? = some (.cells #[.bool false] 4 (0, 0)) := by rw [← hw6, ← s5]; exact heap_alloc_new w5 _
  rw [hw3, hw4, hw5, hw6]
  refine ⟨none, 0, [], ⟨by rw [cell_of_row _ _ _ _ _ _ e3]; rfl, by rw [cell_of_row _ _ _ _ _ _ e4]; rfl, by rw [cell_of_row _ _ _ _ _ _ e5]; rfl, by rw [cell_of_row _ _ _ _ _ _ e6]; rfl, frozen_of_row w6 _ 0 _ _ e3, frozen_of_row w6 _ 0 _ _ e4, frozen_of_row w6 _ 0 _ _ e5, frozen_of_row w6 _ 0 _ _ e6, ((b3.trans (b4.mono (by omega))).trans (b5.mono (by omega))).trans (b6.mono (by omega)), ⟨by omega, by omega, by omega, by omega⟩, ⟨by omega, by omega, by omega, by omega⟩, ⟨by omega, by omega, by omega, by omega, by omega, by omega⟩, by omega⟩, ⟨⟨fun h hm => ?_, List.pairwise_singleton _ _⟩, (fun x hx => by cases hx)⟩, rfl, (fun e => by cases e), Nat.le_refl _, (fun x hx => by cases hx)⟩
  obtain rfl : h = rowH none 0 [] := by simpa using hm
  exact World.ownsRow_nil _ _ _ _
theorem bytes_at0 {w : World} {a : Option Addr} {n c : Nat} {l : List UInt8} (h : Bytes w a n c l) (hn : 0 < n) : ∃ b off, a = some ⟨b, off, none⟩ := by
  rcases h.2.2.2 with ⟨h0, _⟩ | ⟨b, off, ha, _⟩
  · omega
  · exact ⟨b, off, ha⟩
theorem mv_cell {w : World} {b off n c k : Nat} {ms : List Int} (h : Bytes w (some ⟨b, off, none⟩) n c (mvB ms)) (hk : k < n) (hm : ∀ m ∈ ms, m = 1 ∨ m = 2 ∨ m = 3) (hN : ms.length = n) : w.cell? ⟨b, off + k, none⟩ = some (.int .u8 (ms.getD k 0)) := by
  rcases h.2.2.2 with ⟨h0, _⟩ | ⟨b', off', ha, hc⟩
  · omega
  · simp only [Option.some.injEq, Addr.mk.injEq, and_true] at ha
    obtain ⟨rfl, rfl⟩ := ha
    rw [hc k hk]
    have hk' : k < ms.length := by omega
    have h1 : (mvB ms).getD k 0 = UInt8.ofNat (ms.getD k 0).toNat := by unfold mvB; simp [hk']
    have h2 := hm (ms.getD k 0) (by rw [List.getD_eq_getElem?_getD, List.getElem?_eq_getElem hk']; exact List.getElem_mem _)
    rw [h1]
    rcases h2 with h2 | h2 | h2 <;> rw [h2] <;> rfl
set_option maxRecDepth 100000 in
set_option maxHeartbeats 8000000 in
theorem hunks_any (a a' : Option Addr) (n c n' c' : Nat) (A B : List Ln) (w : World) (hA : AtG lnK w a n c A) (hB : AtG lnK w a' n' c' B) (hlA : ∀ s ∈ A, s.length ≤ 4000000000) (hlB : ∀ s ∈ B, s.length ≤ 4000000000) (hn : n ≤ 4096) (hn' : n' ≤ 4096) :
    Calls Tryd.prog 20 #[.slice a n c, .slice a' n' c'] w (HksIs (hunksF A B) w) := by
  have HA := Lib.hid hA
  have HB := Lib.hid hB
  have HLA := Lib.hid hlA
  have HLB := Lib.hid hlB
  have HNU := Lib.hid (numbers_any a a' n c n' c' A B w hA hB hlA hlB (by omega) (by omega))
  obtain ⟨ms, hms⟩ : ∃ ms, scrL A B = ms := ⟨_, rfl⟩
  obtain ⟨N, hN⟩ : ∃ N, ms.length = N := ⟨_, rfl⟩
  have HMS := Lib.hid hms
  have HFT : Hid (Fit ms A B) := Lib.hid (hms ▸ fit_scr A B)
  have HN : Hid (n ≤ 4096 ∧ n' ≤ 4096 ∧ A.length = n ∧ B.length = n' ∧ ms.length = N ∧ N ≤ 8192) := Lib.hid ⟨hn, hn', hA.1, hB.1, hN, by have h1 := fit_len HFT.out; have h2 := hA.1; have h3 := hB.1; omega⟩
  obtain ⟨Z, hZ⟩ : ∃ Z, hunksF A B = Z := ⟨_, rfl⟩
  have HZ0 : Hid (hkGo ms A B ms 0 0 0 false [] = Z) := Lib.hid (by rw [← hZ, ← hms]; rfl)
  rw [hZ]
  have hmf : ∀ (fn : Fn) (first cap : Array Value) (w : World), (Instr.makeFunc fn first cap).run Tryd.prog w = .ok (.func fn first cap) w := fun _ _ _ _ => rfl
  clear hA hB hlA hlB hn hn' hms hN hZ
  go_enter Tryd.func20, Tryd.ntmps20
  go_wp2
  go_step3
  go_wp2_with (first
    | (go_at_call 40; (with_reducible refine HNU.out.mono ?_); rintro e w1 ⟨a1, n1, c1, a2, n2, c2, rfl, hr1, hr2, hb⟩; have HR1 := Lib.hid hr1; have HR2 := Lib.hid hr2; have HB1 := Lib.hid hb; clear hr1 hr2 hb)
    | (go_at_call 39; go_must (refine (moves_ms HMS.out a1 a2 n1 n2 c1 c2 w1 HR1.out HR2.out (by rw [← HR1.out.1, nums_len]; have := HN.out; omega) (by rw [← HR2.out.1, nums_len]; have := HN.out; omega) N HN.out.2.2.2.2.1).mono ?_); rintro e w2 ⟨a3, c3, rfl, ho, hb⟩; have HO2 := Lib.hid ho; have HB2 := Lib.hid (HB1.out.trans (hb.mono HB1.out.size)); clear ho hb))
  obtain ⟨s, hs⟩ : ∃ s, w2.heap.size = s := ⟨_, rfl⟩
  rw [hs]
  have HSZ := Lib.hid hs
  have HS0 := Lib.hid (hk_new w2 s hs)
  clear hmf hs
  generalize (((w2.alloc (.cells #[.slice none 0 0] 22)).alloc (.cells #[.int .i64 0] 3)).alloc (.cells #[.int .i64 0] 3)).alloc (.cells #[.bool false] 4) = wl at HS0 ⊢
  go_step3
  go_wp2
  go_loopg [28] N (fun gk v28 W => ∃ (at_ i j : Nat) (op : Bool) (H : List HkV), v28 = .int .i64 (at_ : Nat) ∧ Hid (gk + at_ = N) ∧ Hid (at_ ≤ N ∧ i ≤ at_ ∧ j ≤ at_) ∧ Hid (HkS w2 W s (s + 4) s (s + 1) (s + 1 + 1) (s + 1 + 1 + 1) i j op at_ H) ∧ Hid (hkGo ms A B (ms.drop at_) at_ i j op H = Z) ∧ Hid (Fit (ms.drop at_) (A.drop i) (B.drop j)))
  case atStart => exact ⟨0, 0, 0, false, [], rfl, Lib.hid rfl, Lib.hid ⟨Nat.zero_le _, Nat.le_refl _, Nat.le_refl _⟩, HS0, HZ0, HFT⟩
  case round =>
    obtain ⟨at_, i, j, op, H, rfl, HG, HAT, HS, HST0, HF⟩ := hrel
    by_cases hi : (at_ : Int) < (N : Int)
    · have HI := Lib.hid (show at_ < N by omega)
      have hN := HN.out
      obtain ⟨m, hm⟩ : ∃ m, ms.getD at_ 0 = m := ⟨_, rfl⟩
      have hdr : ms.drop at_ = m :: ms.drop (at_ + 1) := by rw [List.drop_eq_getElem_cons (by omega), ← hm, List.getD_eq_getElem?_getD, List.getElem?_eq_getElem (by omega)]; rfl
      have HST := HST0.out
      have HFM := HF.out
      rw [hdr] at HST HFM
      have HST := Lib.hid HST
      have HFM := Lib.hid HFM
      obtain ⟨lv, hlo⟩ := HS.out.lo
      have HLW : Hid (Below w.heap.size w wr) := Lib.hid (HB2.out.trans (hlo.low.mono (by rw [← HSZ.out]; exact HB2.out.size)))
      obtain ⟨bm, om, rfl⟩ := bytes_at0 HO2.out (by omega)
      have HMV : Hid (∀ k, k < N → wr.cell? ⟨bm, om + k, none⟩ = some (.int .u8 (ms.getD k 0))) := Lib.hid (fun k hk => by
        have h1 := mv_cell HO2.out hk (fit_moves HFT.out) HN.out.2.2.2.2.1
        rw [hlo.low.cell (by rw [← HSZ.out]; exact World.block_lt_of_cell? _ _ h1)]
        exact h1)
      have hmc := HMV.out at_ HI.out
      rw [hm] at hmc
      have HMM := Lib.hid hm
      obtain ⟨lo, hlo'⟩ : ∃ lo, at_ - 3 = lo := ⟨_, rfl⟩
      obtain ⟨hi_, hhi⟩ : ∃ hi_, min (at_ + 4) N = hi_ := ⟨_, rfl⟩
      obtain ⟨nw, hnw⟩ : ∃ nw, hi_ - lo = nw := ⟨_, rfl⟩
      obtain ⟨cw, hcw⟩ : ∃ cw, c3 - lo = cw := ⟨_, rfl⟩
      obtain ⟨i1, hi1⟩ : ∃ i1, i + 1 = i1 := ⟨_, rfl⟩
      obtain ⟨j1, hj1⟩ : ∃ j1, j + 1 = j1 := ⟨_, rfl⟩
      have hc3 := HO2.out.2.1
      have W1 : IntKind.i64.wrap ((at_ : Int) - 3) = (at_ : Int) - 3 := IntWalk.i64_in _ (by omega)
      have W2 : IntKind.i64.wrap ((at_ : Int) + 3) = (at_ : Int) + 3 := IntWalk.i64_in _ (by omega)
      have W3 : IntKind.i64.wrap ((at_ : Int) + 3 + 1) = (at_ : Int) + 3 + 1 := IntWalk.i64_in _ (by omega)
      have W4 : IntKind.i64.wrap ((at_ : Int) + 1) = (at_ : Int) + 1 := IntWalk.i64_in _ (by omega)
      have hat0 : (0 : Int) ≤ (at_ : Int) := by omega
      have hlo0 : (0 : Int) ≤ (lo : Int) := by omega
      have hlh : lo ≤ hi_ := by omega
      have hhn : hi_ ≤ N := by omega
      have hhc : hi_ ≤ c3 := by omega
      have hcl : ¬ c3 = lo := by omega
      have hcl' : ¬ lo = c3 := by omega
      have HWI : Hid (lo + nw = hi_ ∧ at_ - 3 = lo ∧ min (at_ + 4) N = hi_) := Lib.hid ⟨by omega, hlo', hhi⟩
      have HMX : Hid ((lo : Int) = if (at_ : Int) - 3 < 0 then 0 else (at_ : Int) - 3) := Lib.hid (by split <;> omega)
      have HMI : Hid ((hi_ : Int) = if (N : Int) < (at_ : Int) + 3 + 1 then (N : Int) else (at_ : Int) + 3 + 1) := Lib.hid (by split <;> omega)
      have WI : IntKind.i64.wrap ((i : Int) + 1) = (i1 : Int) := by rw [IntWalk.i64_in _ (by have h1 := HAT.out; omega)]; omega
      have WJ : IntKind.i64.wrap ((j : Int) + 1) = (j1 : Int) := by rw [IntWalk.i64_in _ (by have h1 := HAT.out; omega)]; omega
      have HI1 : Hid (i + 1 = i1 ∧ j + 1 = j1) := Lib.hid ⟨hi1, hj1⟩
      clear hm hdr hlo hlo' hhi hi1 hj1 hc3 hN
      go_wp2_with (first
        | (refine wl_maxH rfl _ _ _ rfl ((at_ : Int) - 3) 0 (lo : Int) rfl rfl HMX.out ?_)
        | (refine wl_minH rfl _ _ _ rfl ((at_ : Int) + 3 + 1) (N : Int) (hi_ : Int) rfl rfl HMI.out ?_))
      obtain ⟨gq, hgq⟩ : ∃ q, gk - 1 = q := ⟨_, rfl⟩
      have HGQ : Hid (gq < gk ∧ gq + (at_ + 1) = N) := Lib.hid ⟨by have := HG.out; have := HI.out; omega, by have := HG.out; have := HI.out; omega⟩
      clear hgq hmc hi
      go_loopg [45] nw (fun g2 v45 W => ∃ k : Nat, v45 = .int .i64 (k : Nat) ∧ Hid (g2 + k = nw) ∧ Hid (HkS w2 W s (s + 4) s (s + 1) (s + 1 + 1) (s + 1 + 1 + 1) i j op at_ H) ∧ Hid (∀ k, k < N → W.cell? ⟨bm, om + k, none⟩ = some (.int .u8 (ms.getD k 0))) ∧ Hid (∀ p, p < k → ms.getD (lo + p) 0 = 1))
      case atStart => exact ⟨0, rfl, Lib.hid rfl, HS, HMV, Lib.hid (fun p hp => absurd hp (Nat.not_lt_zero _))⟩
      case round =>
        obtain ⟨k, rfl, HK, HS, HMV, HP⟩ := hrel
        obtain ⟨lv, hlo⟩ := HS.out.lo
        have HLW : Hid (Below w.heap.size w wr) := Lib.hid (HB2.out.trans (hlo.low.mono (by rw [← HSZ.out]; exact HB2.out.size)))
        have ki := hlo.i
        have kj := hlo.j
        have ko := hlo.o
        have fi := hlo.fi
        have fj := hlo.fj
        have fo := hlo.fo
        clear hlo
        by_cases hk : (k : Int) < (nw : Int)
        · obtain ⟨q, hq⟩ : ∃ q, ms.getD (lo + k) 0 = q := ⟨_, rfl⟩
          have hqc : wr.cell? ⟨bm, om + lo + k, none⟩ = some (.int .u8 q) := by
            have h1 := HMV.out (lo + k) (by have := HWI.out; omega)
            rw [hq, ← Nat.add_assoc] at h1
            exact h1
          have HQ := Lib.hid hq
          have HKK := Lib.hid (show k < nw by omega)
          have hk0 : (0 : Int) ≤ (k : Int) := by omega
          have W5 : IntKind.i64.wrap ((k : Int) + 1) = (k : Int) + 1 := IntWalk.i64_in _ (by have := HWI.out; have := HN.out; omega)
          clear hq
          by_cases hq1 : q = 1
          · have hqb : (q == 1) = true := by rw [beq_iff_eq]; exact hq1
            have HQ1 := Lib.hid hq1
            clear hq1
            go_wp2
            go_roundg (gk - 1)
            case measure => have h1 := HK.out; have h2 := HKK.out; omega
            case rel => exact ⟨k + 1, by go_num, Lib.hid (by have h1 := HK.out; have h2 := HKK.out; omega), HS, HMV, Lib.hid (fun p hp => by
              by_cases hpk : p = k
              · rw [hpk, HQ.out]; exact HQ1.out
              · exact HP.out p (by omega))⟩
          · have hqb : (q == 1) = false := by rw [beq_eq_false_iff_ne]; exact hq1
            have HNR : Hid (nearF ms at_ = true) := Lib.hid (near_yes (k := k) (by have h1 := HWI.out; have h2 := HKK.out; omega) (by have h1 := HWI.out; have h2 := HKK.out; have h3 := HN.out; omega) (by rw [HWI.out.2.1, HQ.out]; exact hq1))
            have hm3 := fit_moves HFM.out m (by simp)
            have HST := HST.out
            rw [go_cons, HNR.out, if_pos rfl] at HST
            clear hq1
            rcases hm3 with rfl | rfl | rfl
            · obtain ⟨x, a2, b2, e1, e2, hf⟩ := fit_one HFM.out
              obtain ⟨d1, i2, g1⟩ := drop_step ([] : Ln) e1
              obtain ⟨d2, j2, g2⟩ := drop_step ([] : Ln) e2
              have HF2 : Hid (Fit (ms.drop (at_ + 1)) (A.drop i1) (B.drop j1)) := Lib.hid (by rw [← HI1.out.1, ← HI1.out.2, d1, d2]; exact hf)
              rw [if_pos rfl, g1, HI1.out.1, HI1.out.2] at HST
              have HST := Lib.hid HST
              have HIA : Hid (x ∈ A) := Lib.hid (by rw [← g1]; exact getD_mem i2)
              obtain ⟨ba, oa, rfl⟩ := HA.out.some_ (by have := HN.out; omega)
              have hac := ln_cell (HA.out.below HLW.out) i (by have := HN.out; omega)
              rw [g1] at hac
              have hi0 : (0 : Int) ≤ (i : Int) := by omega
              have hin : (i : Int) < (n : Int) := by have := HN.out; omega
              clear e1 e2 hf d1 i2 g1 d2 j2 g2
              go_wp2_with (go_at_call 41; go_must (refine (put_any HS.out (by have := HAT.out; have := HN.out; omega) 32 32 x (32 :: x) rfl (HLA.out x HIA.out) cv32).mono ?_); rintro e w5 ⟨rfl, hs5⟩; obtain ⟨lv5, hl5⟩ := hs5.lo; have ki5 := hl5.i; have fi5 := hl5.fi; have kj5 := hl5.j; have fj5 := hl5.fj; obtain ⟨w6, hw6⟩ : ∃ X, w5.setCell ⟨s + 1, 0, none⟩ (.int .i64 (i1 : Nat)) = X := ⟨_, rfl⟩; have hs6 := hs5.seti i1; rw [hw6] at hs6; obtain ⟨lv6, hl6⟩ := hs6.lo; have kj6 := hl6.j; have fj6 := hl6.fj; obtain ⟨w7, hw7⟩ : ∃ X, w6.setCell ⟨s + 1 + 1, 0, none⟩ (.int .i64 (j1 : Nat)) = X := ⟨_, rfl⟩; have hs7 := hs6.setj j1; rw [hw7] at hs7; have HS7 := Lib.hid hs7; clear hs6 hl6 hs7; clear hs5 hl5)
              try rw [Exit.noGoto_ret]
              go_roundg gq
              case measure => exact HGQ.out.1
              case rel => exact ⟨at_ + 1, i1, j1, true, _, by go_num, Lib.hid HGQ.out.2, Lib.hid (by have h1 := HGQ.out; have h2 := HI1.out; have h3 := HAT.out; omega), HS7, HST, HF2⟩
            · obtain ⟨x, a2, e1, hf⟩ := fit_two HFM.out
              obtain ⟨d1, i2, g1⟩ := drop_step ([] : Ln) e1
              have HF2 : Hid (Fit (ms.drop (at_ + 1)) (A.drop i1) (B.drop j)) := Lib.hid (by rw [← HI1.out.1, d1]; exact hf)
              rw [if_neg (by decide), if_pos rfl, g1, HI1.out.1] at HST
              have HST := Lib.hid HST
              have HIA : Hid (x ∈ A) := Lib.hid (by rw [← g1]; exact getD_mem i2)
              obtain ⟨ba, oa, rfl⟩ := HA.out.some_ (by have := HN.out; omega)
              have hac := ln_cell (HA.out.below HLW.out) i (by have := HN.out; omega)
              rw [g1] at hac
              have hi0 : (0 : Int) ≤ (i : Int) := by omega
              have hin : (i : Int) < (n : Int) := by have := HN.out; omega
              clear e1 hf d1 i2 g1
              go_wp2_with (go_at_call 41; go_must (refine (put_any HS.out (by have := HAT.out; have := HN.out; omega) 45 45 x (45 :: x) rfl (HLA.out x HIA.out) cv45).mono ?_); rintro e w5 ⟨rfl, hs5⟩; obtain ⟨lv5, hl5⟩ := hs5.lo; have ki5 := hl5.i; have fi5 := hl5.fi; have kj5 := hl5.j; have fj5 := hl5.fj; obtain ⟨w6, hw6⟩ : ∃ X, w5.setCell ⟨s + 1, 0, none⟩ (.int .i64 (i1 : Nat)) = X := ⟨_, rfl⟩; have hs6 := hs5.seti i1; rw [hw6] at hs6; obtain ⟨lv6, hl6⟩ := hs6.lo; have kj6 := hl6.j; have fj6 := hl6.fj; have HS7 := Lib.hid hs6; clear hs6 hl6; clear hs5 hl5)
              try rw [Exit.noGoto_ret]
              go_roundg gq
              case measure => exact HGQ.out.1
              case rel => exact ⟨at_ + 1, i1, j, true, _, by go_num, Lib.hid HGQ.out.2, Lib.hid (by have h1 := HGQ.out; have h2 := HI1.out; have h3 := HAT.out; omega), HS7, HST, HF2⟩
            · obtain ⟨x, b2, e2, hf⟩ := fit_three HFM.out
              obtain ⟨d2, j2, g2⟩ := drop_step ([] : Ln) e2
              have HF2 : Hid (Fit (ms.drop (at_ + 1)) (A.drop i) (B.drop j1)) := Lib.hid (by rw [← HI1.out.2, d2]; exact hf)
              rw [if_neg (by decide), if_neg (by decide), g2, HI1.out.2] at HST
              have HST := Lib.hid HST
              have HIB : Hid (x ∈ B) := Lib.hid (by rw [← g2]; exact getD_mem j2)
              obtain ⟨ba, oa, rfl⟩ := HB.out.some_ (by have := HN.out; omega)
              have hac := ln_cell (HB.out.below HLW.out) j (by have := HN.out; omega)
              rw [g2] at hac
              have hj0 : (0 : Int) ≤ (j : Int) := by omega
              have hjn : (j : Int) < (n' : Int) := by have := HN.out; omega
              clear e2 hf d2 j2 g2
              go_wp2_with (go_at_call 41; go_must (refine (put_any HS.out (by have := HAT.out; have := HN.out; omega) 43 43 x (43 :: x) rfl (HLB.out x HIB.out) cv43).mono ?_); rintro e w5 ⟨rfl, hs5⟩; obtain ⟨lv5, hl5⟩ := hs5.lo; have ki5 := hl5.i; have fi5 := hl5.fi; have kj5 := hl5.j; have fj5 := hl5.fj; obtain ⟨w7, hw7⟩ : ∃ X, w5.setCell ⟨s + 1 + 1, 0, none⟩ (.int .i64 (j1 : Nat)) = X := ⟨_, rfl⟩; have hs7 := hs5.setj j1; rw [hw7] at hs7; have HS7 := Lib.hid hs7; clear hs7; clear hs5 hl5)
              try rw [Exit.noGoto_ret]
              go_roundg gq
              case measure => exact HGQ.out.1
              case rel => exact ⟨at_ + 1, i, j1, true, _, by go_num, Lib.hid HGQ.out.2, Lib.hid (by have h1 := HGQ.out; have h2 := HI1.out; have h3 := HAT.out; omega), HS7, HST, HF2⟩
        · have hkn : k = nw := by have := HK.out; omega
          subst hkn
          have HNR : Hid (nearF ms at_ = false) := Lib.hid (near_no (fun p h1 h2 => by
            have h3 := HP.out p (by have h4 := HWI.out; have h5 := HN.out; omega)
            rw [← HWI.out.2.1] at h3; exact h3))
          have hm1 := near_self (by have := HN.out; have := HI.out; omega) HNR.out
          rw [HMM.out] at hm1
          subst hm1
          have HST := HST.out
          rw [go_cons, HNR.out, if_neg (by decide), HI1.out.1, HI1.out.2] at HST
          have HST := Lib.hid HST
          obtain ⟨x, a2, b2, e1, e2, hf⟩ := fit_one HFM.out
          obtain ⟨d1, i2, g1⟩ := drop_step ([] : Ln) e1
          obtain ⟨d2, j2, g2⟩ := drop_step ([] : Ln) e2
          have HF2 : Hid (Fit (ms.drop (at_ + 1)) (A.drop i1) (B.drop j1)) := Lib.hid (by rw [← HI1.out.1, ← HI1.out.2, d1, d2]; exact hf)
          clear e1 e2 hf d1 i2 g1 d2 j2 g2
          obtain ⟨w5, hw5⟩ : ∃ X, wr.setCell ⟨s + 1 + 1 + 1, 0, none⟩ (.bool false) = X := ⟨_, rfl⟩
          have hs5 := HS.out.shut
          rw [hw5] at hs5
          obtain ⟨lv5, hl5⟩ := hs5.lo
          have ki5 := hl5.i
          have fi5 := hl5.fi
          obtain ⟨w6, hw6⟩ : ∃ X, w5.setCell ⟨s + 1, 0, none⟩ (.int .i64 (i1 : Nat)) = X := ⟨_, rfl⟩
          have hs6 := hs5.seti i1
          rw [hw6] at hs6
          obtain ⟨lv6, hl6⟩ := hs6.lo
          have kj6 := hl6.j
          have fj6 := hl6.fj
          obtain ⟨w7, hw7⟩ : ∃ X, w6.setCell ⟨s + 1 + 1, 0, none⟩ (.int .i64 (j1 : Nat)) = X := ⟨_, rfl⟩
          have hs7 := hs6.setj j1
          rw [hw7] at hs7
          have HS7 := Lib.hid hs7
          clear hs5 hl5 hs6 hl6 hs7 hk
          go_wp2
          try rw [Exit.noGoto_ret]
          go_roundg gq
          case measure => exact HGQ.out.1
          case rel => exact ⟨at_ + 1, i1, j1, false, H, by go_num, Lib.hid HGQ.out.2, Lib.hid (by have h1 := HGQ.out; have h2 := HI1.out; have h3 := HAT.out; omega), Lib.hid (HS7.out.mono (Nat.le_succ _)), HST, HF2⟩
    · have hat : at_ = N := by have := HAT.out; omega
      subst hat
      have hZ := HST0.out
      rw [List.drop_eq_nil_of_le (by have := HN.out; omega)] at hZ
      have HZ : Hid (H = Z) := Lib.hid hZ
      obtain ⟨al, cl, V, h1, h2, h3, _⟩ := HS.out
      have kl := h1.l
      have HH := Lib.hid h2
      have HV := Lib.hid h3
      have HL := Lib.hid h1.low
      clear h1 h2 h3 hZ
      go_wp2
      try rw [Exit.noGoto_ret]
      go_ret
      refine ⟨al, cl, s + 4, V, rfl, HV.out.trans HZ.out, HH.out, by have := HB2.out.size; have := HSZ.out; omega, HB2.out.trans (HL.out.mono (by rw [← HSZ.out]; exact HB2.out.size))⟩
#print axioms hunks_any
end Go.Proofs.YtfoalaoanpbmeaaDoor
