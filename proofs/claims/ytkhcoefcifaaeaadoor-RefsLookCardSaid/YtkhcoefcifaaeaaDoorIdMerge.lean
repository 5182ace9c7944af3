/-
  The walk of merge at ids.
-/
import Derived.Test.YtkhcoefcifaaeaaDoorGrp15
import Derived.Deep.RegionHeld
namespace Go.Proofs.YtkhcoefcifaaeaaDoor
open Go.RowKit

/-- order.Compare as a value. -/
def cmpV : Value := .func (.func 53) #[] #[]

theorem wl_store {w : World} {ops : Array Oper} {rest : List Oper} {o : Oper} {a : Act} {Q : Exit → Act → World → Prop} (hgd : o.guard = none) (x y : Operand) (ho : o.op = .store 24 x y)
    (g off : Nat) (l : List UInt8) (hl : l.length = 32) (hx : a.eval x = .pointer (some ⟨g, off, none⟩)) (hy : a.eval y = .agg (idCells l)) (ht : w.there g off 32)
    (h : wpList Tryd.prog ops Q rest (a.put o.dst undef) (w.setCells g off (l.map B))) : wpList Tryd.prog ops Q (o :: rest) a w :=
  wpList_store_mid hgd 24 x y ho g off (idCells l) hx hy (by rw [idCells_size hl]; exact ht) (by rw [idCells_size hl]; exact info_id) (all_oneCell_toArray (fun v hv => by obtain ⟨b, _, rfl⟩ := List.mem_map.1 hv; rfl)) h

theorem store_step {w : World} {ops : Array Oper} {o : Oper} {a : Act} {K : Act → World → Prop} {Q : Exit → Act → World → Prop} (x y : Operand) {g off : Nat} {l : List UInt8} (hl : l.length = 32) (ht : w.there g off 32)
    (h : K (a.put o.dst undef) (w.setCells g off (l.map B))) (hgd : o.guard = none := by rfl) (ho : o.op = .store 24 x y := by rfl) (hx : a.eval x = .pointer (some ⟨g, off, none⟩) := by rfl) (hy : a.eval y = .agg (idCells l) := by rfl) :
    if Region.wanted o (yielded ops a.tmps) = true then o.wp Tryd.prog a w K Q else K (a.put o.dst undef) w := by
  rw [if_pos (by unfold Region.wanted; rw [hgd])]
  exact wp_store_mid 24 x y ho g off (idCells l) hx hy (by rw [idCells_size hl]; exact ht) (by rw [idCells_size hl]; exact info_id) (all_oneCell_toArray (fun v hv => by obtain ⟨b, _, rfl⟩ := List.mem_map.1 hv; rfl)) h

/-- The row, as far as it is filled. -/
def filled (R M : List (List UInt8)) (i j : Nat) : List (List UInt8) := R.take i ++ (M.take j ++ R.drop (i + j))
theorem filled_length {R M : List (List UInt8)} {i j : Nat} (h : i + M.length ≤ R.length) (hj : j ≤ M.length) : (filled R M i j).length = R.length := by
  unfold filled; simp; omega
theorem filled_zero (R M : List (List UInt8)) (i : Nat) : filled R M i 0 = R := by unfold filled; simp
theorem filled_step {R M : List (List UInt8)} {i j : Nat} {x : List UInt8} {T : List (List UInt8)} (h : i + M.length ≤ R.length) (hj : j < M.length) (hd : M.drop j = x :: T) : (filled R M i j).set (i + j) x = filled R M i (j + 1) := by
  unfold filled
  have hx : M[j] = x := by
    have := List.drop_eq_getElem_cons hj
    rw [hd] at this
    exact (List.cons.inj this).1.symm
  rw [List.set_append_right _ _ (by simp; omega), List.length_take, show i + j - min i R.length = j from by omega, List.set_append_right _ _ (by simp; omega), List.length_take,
    show j - min j M.length = 0 from by omega, List.take_succ_eq_append_getElem hj, hx]
  rw [List.drop_eq_getElem_cons (show i + j < R.length by omega), List.set_cons_zero]
  simp [Nat.add_assoc]
theorem drop_next {M T : List (List UInt8)} {j : Nat} {x : List UInt8} (hd : M.drop j = x :: T) : M.drop (j + 1) = T := by
  rw [← List.drop_drop, hd]; rfl

theorem cmpV_any (l k : List UInt8) (z : Int) (w : World) (hl : l.length = 32) (hk : k.length = 32) (h : z = cmpF l k) : Calls Tryd.prog 53 #[.agg (idCells l), .agg (idCells k)] w fun e w' => e = .returned (.int .i64 z) ∧ Below w.heap.size w w' := cmp_is l k z w hl hk h

theorem IdsAt.empty {w : World} {a : Option Addr} {c : Nat} {L : List (List UInt8)} (h : IdsAt w a 0 c L) : L = [] := List.length_eq_zero_iff.1 h.1
theorem IdsAt.cons {w : World} {a : Option Addr} {n c : Nat} {L : List (List UInt8)} (h : IdsAt w a n c L) (hn : 0 < n) : ∃ x T, L = x :: T ∧ x.length = 32 := by
  cases L with
  | nil => have := h.1; simp at this; omega
  | cons x T => exact ⟨x, T, rfl, h.2.2.2.1 x (by simp)⟩

/-- What is left of a slice behind its first. -/
def NotIn (a : Option Addr) (g : Nat) : Prop := ∀ b off, a = some ⟨b, off, none⟩ → b ≠ g

set_option maxRecDepth 100000 in
set_option maxHeartbeats 4000000 in
theorem merge_any (gr i n cR : Nat) (R : List (List UInt8)) (aA aC : Option Addr) (nA cA nC cC : Nat) (A C : List (List UInt8)) (w : World)
    (hR : RowC w gr R) (hin : i + n ≤ R.length) (hA : IdsAt w aA nA cA A) (hC : IdsAt w aC nC cC C) (hAn : NotIn aA gr) (hCn : NotIn aC gr) (hnn : nA + nC = n) (hn : n ≤ 1000000000000) :
    Calls Tryd.prog 79 #[.slice (some ⟨gr, i * 32, none⟩) n cR, .slice aA nA cA, .slice aC nC cC, cmpV] w
      fun e w' => e = .returned (.tuple #[]) ∧ Kept gr w w' ∧ RowC w' gr (filled R (mrg A C) i n) := by
  obtain ⟨M, hM⟩ : ∃ M, M = mrg A C := ⟨_, rfl⟩
  have hMl : M.length = n := by rw [hM, mrg_length, hA.1, hC.1]; exact hnn
  rw [← hM]
  have HR := Lib.hid hR
  have HIN := Lib.hid (show i + M.length ≤ R.length by omega)
  have HML := Lib.hid hMl
  have hnI : (n : Int) ≤ 1000000000000 := by omega
  have HA := Lib.hid hA
  have HC := Lib.hid hC
  have HAN := Lib.hid hAn
  have HCN := Lib.hid hCn
  have HM := Lib.hid (show M.drop 0 = mrg A C by rw [List.drop_zero]; exact hM)
  have HNN := Lib.hid hnn
  clear hR hin hA hC hAn hCn hnn hn hM hMl
  unfold cmpV
  go_enter Tryd.func79, Tryd.ntmps79
  go_wp2
  go_loopg [1, 2, 11] n (fun g v1 v2 v11 W => ∃ (j : Nat) (A' C' : List (List UInt8)) (a1 a2 : Option Addr) (n1 c1 n2 c2 : Nat), v1 = .slice a1 n1 c1 ∧ v2 = .slice a2 n2 c2 ∧ v11 = .int .i64 j ∧ g + j = n ∧ n1 + n2 = g ∧ Kept gr w W ∧ Hid (RowC W gr (filled R M i j)) ∧ Hid (IdsAt W a1 n1 c1 A') ∧ Hid (IdsAt W a2 n2 c2 C') ∧ Hid (NotIn a1 gr) ∧ Hid (NotIn a2 gr) ∧ Hid (M.drop j = mrg A' C'))
  case atStart => exact ⟨0, A, C, aA, aC, nA, cA, nC, cC, rfl, rfl, rfl, rfl, HNN.out, Kept.refl _ _, Lib.hid (by rw [filled_zero]; exact HR.out), HA, HC, HAN, HCN, HM⟩
  case round =>
    obtain ⟨j, A', C', a1, a2, n1, c1, n2, c2, rfl, rfl, rfl, hg, hng, hkw, hrow, hA', hC', hAn', hCn', hdrop⟩ := hrel
    have HG := Lib.hid hg
    have HNG := Lib.hid hng
    have h0 : (0 : Int) ≤ (j : Int) := by omega
    have h2 : (j : Int) ≤ (n : Int) := by omega
    by_cases hlt : (j : Int) < (n : Int)
    · have hjn : j < n := by omega
      have HJ := Lib.hid hjn
      clear hg hng
      by_cases hc0 : n2 = 0
      · -- nothing left behind
        subst hc0
        obtain ⟨x, T, hxT, hx⟩ := hA'.out.cons (by have := HNG.out; have := HG.out; omega)
        subst hxT
        have hCe := hC'.out.empty
        subst hCe
        have HD := Lib.hid (show M.drop j = x :: mrg T [] by rw [hdrop.out]; exact mrg_left (.inl rfl))
        obtain ⟨ba, oa, rfl⟩ := hA'.out.some_ (by have := HNG.out; have := HG.out; omega)
        have HX := Lib.hid hx
        clear hx
        have HNP := Lib.hid (show 1 ≤ n1 by have := HNG.out; have := HG.out; omega)
        go_wp2
        go_quiet (fail)
        have hkd : Kept gr w (wr.drewN nq) := hkw.trans (Kept.of_below (Go.below_drewN (Below.refl _ _) _))
        have HRD := Lib.hid (hrow.out.below (Go.below_drewN (Below.refl _ _) nq))
        have HAD := Lib.hid (hA'.out.below (Go.below_drewN (Below.refl _ _) nq))
        have HCD := Lib.hid (hC'.out.below (Go.below_drewN (Below.refl _ _) nq))
        clear hrow hA' hC' hkw
        generalize wr.drewN nq = wq at hkd HRD HAD HCD ⊢
        have HRL := Lib.hid (filled_length (j := j) HIN.out (by rw [HML.out]; exact Nat.le_of_lt HJ.out))
        have HRD2 := Lib.hid (HRD.out.below (Below.refl _ wq).drew)
        have HST := Lib.hid (show wq.drew.there gr (i * 32 + j * 32) 32 from by have := HRD2.out.there_at (i + j) (by rw [HRL.out]; have := HIN.out; have := HML.out; have := HJ.out; omega); rwa [Nat.add_mul] at this)
        have HS0 := Lib.hid (show wq.drew.rangeAt ba oa (x.map B) by have := (HAD.out.below (Below.refl _ wq).drew).at_ 0 (by have := HNP.out; omega); rwa [Nat.zero_mul, Nat.add_zero] at this)
        have HKS := Lib.hid (Kept.setCells gr (i * 32 + j * 32) (x.map B) wq.drew)
        have HSS := Lib.hid (show (wq.drew.setCells gr (i * 32 + j * 32) (x.map B)).rangeAt ba oa (x.map B) from rangeAt_kept HS0.out HKS.out (hAn'.out _ _ rfl))
        have HRS := Lib.hid (show RowC (wq.drew.setCells gr (i * 32 + j * 32) (x.map B)) gr (filled R M i (j + 1)) by have h1 := HRD2.out.store (i + j) (by rw [HRL.out]; have := HIN.out; have := HML.out; have := HJ.out; omega) x HX.out; rw [filled_step HIN.out (by rw [HML.out]; exact HJ.out) HD.out, Nat.add_mul] at h1; exact h1)
        have HTL := Lib.hid ((HAD.out.below (Below.refl _ wq).drew).tail_.kept HKS.out (hAn'.out _ _ rfl))
        have HOT := Lib.hid ((HCD.out.below (Below.refl _ wq).drew).kept_ HKS.out hCn'.out)
        have HKK := Lib.hid (hkd.trans ((Kept.of_below (Below.refl _ wq).drew).trans HKS.out))
        have HDN := Lib.hid (drop_next HD.out)
        have hu := Tryd.underlying24
        have hi1 : (Tryd.prog.info? 24).map (·.size) = some (x.map B).length := by rw [List.length_map, HX.out]; exact info_id
        have HXL := HX
        have hn1 : (1 : Int) ≤ (n1 : Int) := by have := HNP.out; omega
        have hn1' : 1 ≤ n1 := by omega
        have hn0 : 0 < n1 := by omega
        have hcc : (c1 : Int) ≤ 9223372036854775807 := by have := HAD.out.2.2.1; omega
        have hnc : n1 ≤ c1 := HAD.out.2.1
        have HTN := Lib.hid HAD.out.1
        clear hkd
        by_cases hc1 : c1 = 1
        · have hn11 : n1 = 1 := by omega
          subst hn11
          have hTe : T = [] := List.length_eq_zero_iff.1 (by have h := HTN.out; rw [List.length_cons] at h; omega)
          subst hTe
          subst hc1
          have HTE := Lib.hid (show IdsAt (wq.drew.setCells gr (i * 32 + j * 32) (x.map B)) (some ⟨ba, oa, none⟩) 0 0 [] from ⟨rfl, Nat.le_refl _, by omega, (fun _ h => by cases h), .inl ⟨rfl, rfl⟩⟩)
          go_wp2
          refine wp_region_held_drew (S := fun W => W.rangeAt ba oa (x.map B)) (by kernel_rfl) HS0.out (fun hHeld => ?_)
          refine wpAnyH_take (i := 0) (oi := ⟨some 33, .move (.tmp 0), _, _, _, _⟩) (v := (.slice (some ⟨gr, i * 32, none⟩) n cR)) rfl (by kernel_rfl) (by kernel_rfl) (by kernel_rfl) (fun _ _ _ h => h) (Or.inl ⟨by rfl, fun W hW => by go_simp⟩) (by assumption) ?_
          simp only [Act.put, List.setIfInBounds_toArray, List.set_cons_zero, List.set_cons_succ]
          refine wpAnyH_take (i := 1) (oi := ⟨some 34, .move (.tmp 8), _, _, _, _⟩) (v := (.int .i64 (j : Int))) rfl (by kernel_rfl) (by kernel_rfl) (by kernel_rfl) (fun _ _ _ h => h) (Or.inl ⟨by rfl, fun W hW => by go_simp⟩) (by assumption) ?_
          simp only [Act.put, List.setIfInBounds_toArray, List.set_cons_zero, List.set_cons_succ]
          refine wpAnyH_take (i := 2) (oi := ⟨some 35, .move (.tmp 1), _, _, _, _⟩) (v := (.slice (some ⟨ba, oa, none⟩) 1 1)) rfl (by kernel_rfl) (by kernel_rfl) (by kernel_rfl) (fun _ _ _ h => h) (Or.inl ⟨by rfl, fun W hW => by go_simp⟩) (by assumption) ?_
          simp only [Act.put, List.setIfInBounds_toArray, List.set_cons_zero, List.set_cons_succ]
          refine wpAnyH_take (i := 3) (oi := ⟨some 36, .indexAddr 39 (.tmp 35) (.const (.int .i64 0)), _, _, _, _⟩) (v := (.pointer (some ⟨ba, oa, none⟩))) rfl (by kernel_rfl) (by kernel_rfl) (by kernel_rfl) (fun _ _ _ h => h) (Or.inl ⟨by rfl, fun W hW => by go_simp⟩) (by assumption) ?_
          simp only [Act.put, List.setIfInBounds_toArray, List.set_cons_zero, List.set_cons_succ]
          refine wpAnyH_take (i := 4) (oi := ⟨some 37, .load 24 (.tmp 36), _, _, _, _⟩) (v := _) rfl (by kernel_rfl) (by kernel_rfl) (by kernel_rfl) (fun _ _ _ h => h) (yieldsIf_load_mid (by rfl) _ _ rfl _ _ rfl _ _ (fun W hW => hW) hu rfl hi1) (by assumption) ?_
          simp only [Act.put, List.setIfInBounds_toArray, List.set_cons_zero, List.set_cons_succ]
          refine wpAnyH_take (i := 5) (oi := ⟨some 38, .move (.tmp 1), _, _, _, _⟩) (v := (.slice (some ⟨ba, oa, none⟩) 1 1)) rfl (by kernel_rfl) (by kernel_rfl) (by kernel_rfl) (fun _ _ _ h => h) (Or.inl ⟨by rfl, fun W hW => by go_simp⟩) (by assumption) ?_
          simp only [Act.put, List.setIfInBounds_toArray, List.set_cons_zero, List.set_cons_succ]
          refine wpAnyH_take (i := 6) (oi := ⟨some 39, .slice 39 (.tmp 38) (some (.const (.int .i64 1))) none none, _, _, _, _⟩) (v := (.slice (some ⟨ba, oa, none⟩) 0 0)) rfl (by kernel_rfl) (by kernel_rfl) (by kernel_rfl) (fun _ _ _ h => h) (Or.inl ⟨by rfl, fun W hW => by go_simp⟩) (by assumption) ?_
          simp only [Act.put, List.setIfInBounds_toArray, List.set_cons_zero, List.set_cons_succ]
          refine wpAnyH_take (i := 7) (oi := ⟨some 40, .indexAddr 39 (.tmp 33) (.tmp 34), _, _, _, _⟩) (v := (.pointer (some ⟨gr, i * 32 + j * 32, none⟩))) rfl (by kernel_rfl) (by kernel_rfl) (by kernel_rfl) (fun _ _ _ h => h) (Or.inl ⟨by rfl, fun W hW => by go_simp⟩) (by assumption) ?_
          simp only [Act.put, List.setIfInBounds_toArray, List.set_cons_zero, List.set_cons_succ]
          refine wpAnyH_ready (rs := [8]) (by kernel_rfl) (by simp) ?_
          refine AllReadyH.cons (o := ⟨none, .store 24 (.tmp 40) (.tmp 37), _, _, _, _⟩) rfl (fun K hK => ?_) AllReadyH.nil
          refine store_step (.tmp 40) (.tmp 37) HXL.out HST.out ?_
          refine hK.out _ _ HSS.out (fun hHeld => ?_)
          clear hK K
          simp only [Act.put]
          refine wpAnyH_take (i := 9) (oi := ⟨some 1, .assign (.tmp 39), _, _, _, _⟩) (v := (.slice (some ⟨ba, oa, none⟩) 0 0)) rfl (by kernel_rfl) (by kernel_rfl) (by kernel_rfl) (fun _ _ _ h => h) (Or.inl ⟨by rfl, fun W hW => by go_simp⟩) (by assumption) ?_
          simp only [Act.put, List.setIfInBounds_toArray, List.set_cons_zero, List.set_cons_succ]
          refine wpAnyH_done (by kernel_rfl) ?_ _
          go_wp2
          go_roundg (gk - 1)
          case measure => have := HG.out; have := HJ.out; omega
          case rel => exact ⟨j + 1, _, _, _, _, _, _, _, _, rfl, rfl, by go_num, by have := HG.out; have := HJ.out; omega, by have := HG.out; have := HNG.out; have := HJ.out; omega, HKK.out, HRS, HTE, HOT, hAn', hCn', HDN⟩
        · have hc2 : (1 : Int) < (c1 : Int) := by omega
          have hnc' : (n1 : Int) ≤ (c1 : Int) := by omega
          have HNW := Lib.hid (show NotIn (some ⟨ba, oa + 32, none⟩) gr from fun b off h => by simp only [Option.some.injEq, Addr.mk.injEq, and_true] at h; obtain ⟨rfl, _⟩ := h; exact hAn'.out _ oa rfl)
          go_wp2
          refine wp_region_held_drew (S := fun W => W.rangeAt ba oa (x.map B)) (by kernel_rfl) HS0.out (fun hHeld => ?_)
          refine wpAnyH_take (i := 0) (oi := ⟨some 33, .move (.tmp 0), _, _, _, _⟩) (v := (.slice (some ⟨gr, i * 32, none⟩) n cR)) rfl (by kernel_rfl) (by kernel_rfl) (by kernel_rfl) (fun _ _ _ h => h) (Or.inl ⟨by rfl, fun W hW => by go_simp⟩) (by assumption) ?_
          simp only [Act.put, List.setIfInBounds_toArray, List.set_cons_zero, List.set_cons_succ]
          refine wpAnyH_take (i := 1) (oi := ⟨some 34, .move (.tmp 8), _, _, _, _⟩) (v := (.int .i64 (j : Int))) rfl (by kernel_rfl) (by kernel_rfl) (by kernel_rfl) (fun _ _ _ h => h) (Or.inl ⟨by rfl, fun W hW => by go_simp⟩) (by assumption) ?_
          simp only [Act.put, List.setIfInBounds_toArray, List.set_cons_zero, List.set_cons_succ]
          refine wpAnyH_take (i := 2) (oi := ⟨some 35, .move (.tmp 1), _, _, _, _⟩) (v := (.slice (some ⟨ba, oa, none⟩) n1 c1)) rfl (by kernel_rfl) (by kernel_rfl) (by kernel_rfl) (fun _ _ _ h => h) (Or.inl ⟨by rfl, fun W hW => by go_simp⟩) (by assumption) ?_
          simp only [Act.put, List.setIfInBounds_toArray, List.set_cons_zero, List.set_cons_succ]
          refine wpAnyH_take (i := 3) (oi := ⟨some 36, .indexAddr 39 (.tmp 35) (.const (.int .i64 0)), _, _, _, _⟩) (v := (.pointer (some ⟨ba, oa, none⟩))) rfl (by kernel_rfl) (by kernel_rfl) (by kernel_rfl) (fun _ _ _ h => h) (Or.inl ⟨by rfl, fun W hW => by go_simp⟩) (by assumption) ?_
          simp only [Act.put, List.setIfInBounds_toArray, List.set_cons_zero, List.set_cons_succ]
          refine wpAnyH_take (i := 4) (oi := ⟨some 37, .load 24 (.tmp 36), _, _, _, _⟩) (v := _) rfl (by kernel_rfl) (by kernel_rfl) (by kernel_rfl) (fun _ _ _ h => h) (yieldsIf_load_mid (by rfl) _ _ rfl _ _ rfl _ _ (fun W hW => hW) hu rfl hi1) (by assumption) ?_
          simp only [Act.put, List.setIfInBounds_toArray, List.set_cons_zero, List.set_cons_succ]
          refine wpAnyH_take (i := 5) (oi := ⟨some 38, .move (.tmp 1), _, _, _, _⟩) (v := (.slice (some ⟨ba, oa, none⟩) n1 c1)) rfl (by kernel_rfl) (by kernel_rfl) (by kernel_rfl) (fun _ _ _ h => h) (Or.inl ⟨by rfl, fun W hW => by go_simp⟩) (by assumption) ?_
          simp only [Act.put, List.setIfInBounds_toArray, List.set_cons_zero, List.set_cons_succ]
          refine wpAnyH_take (i := 6) (oi := ⟨some 39, .slice 39 (.tmp 38) (some (.const (.int .i64 1))) none none, _, _, _, _⟩) (v := (.slice (some ⟨ba, oa + 32, none⟩) (n1 - 1) (c1 - 1))) rfl (by kernel_rfl) (by kernel_rfl) (by kernel_rfl) (fun _ _ _ h => h) (Or.inl ⟨by rfl, fun W hW => by go_simp⟩) (by assumption) ?_
          simp only [Act.put, List.setIfInBounds_toArray, List.set_cons_zero, List.set_cons_succ]
          refine wpAnyH_take (i := 7) (oi := ⟨some 40, .indexAddr 39 (.tmp 33) (.tmp 34), _, _, _, _⟩) (v := (.pointer (some ⟨gr, i * 32 + j * 32, none⟩))) rfl (by kernel_rfl) (by kernel_rfl) (by kernel_rfl) (fun _ _ _ h => h) (Or.inl ⟨by rfl, fun W hW => by go_simp⟩) (by assumption) ?_
          simp only [Act.put, List.setIfInBounds_toArray, List.set_cons_zero, List.set_cons_succ]
          refine wpAnyH_ready (rs := [8]) (by kernel_rfl) (by simp) ?_
          refine AllReadyH.cons (o := ⟨none, .store 24 (.tmp 40) (.tmp 37), _, _, _, _⟩) rfl (fun K hK => ?_) AllReadyH.nil
          refine store_step (.tmp 40) (.tmp 37) HXL.out HST.out ?_
          refine hK.out _ _ HSS.out (fun hHeld => ?_)
          clear hK K
          simp only [Act.put]
          refine wpAnyH_take (i := 9) (oi := ⟨some 1, .assign (.tmp 39), _, _, _, _⟩) (v := (.slice (some ⟨ba, oa + 32, none⟩) (n1 - 1) (c1 - 1))) rfl (by kernel_rfl) (by kernel_rfl) (by kernel_rfl) (fun _ _ _ h => h) (Or.inl ⟨by rfl, fun W hW => by go_simp⟩) (by assumption) ?_
          simp only [Act.put, List.setIfInBounds_toArray, List.set_cons_zero, List.set_cons_succ]
          refine wpAnyH_done (by kernel_rfl) ?_ _
          go_wp2
          go_roundg (gk - 1)
          case measure => have := HG.out; have := HJ.out; omega
          case rel => exact ⟨j + 1, _, _, _, _, _, _, _, _, rfl, rfl, by go_num, by have := HG.out; have := HJ.out; omega, by have := HG.out; have := HNG.out; have := HJ.out; omega, HKK.out, HRS, HTL, HOT, HNW, hCn', HDN⟩
      · have hn2p : 0 < n2 := by omega
        obtain ⟨y, U, hyU, hy⟩ := hC'.out.cons hn2p
        subst hyU
        have d2 : ((n2 : Int) == 0) = false := by simp; omega
        have d2' : (n2 == 0) = false := by simp; omega
        by_cases ha0 : n1 = 0
        · -- nothing left ahead
          subst ha0
          have hAe := hA'.out.empty
          subst hAe
          obtain ⟨x, T, hx, rfl, rfl⟩ : ∃ x T, x.length = 32 ∧ x = y ∧ T = U := ⟨y, U, hy, rfl, rfl⟩
          have HD := Lib.hid (show M.drop j = x :: mrg [] T by rw [hdrop.out]; exact mrg_right (.inl rfl))
          obtain ⟨ba, oa, rfl⟩ := hC'.out.some_ hn2p
          have HX := Lib.hid hx
          have HNP := Lib.hid (show 1 ≤ n2 from hn2p)
          clear hx hy hc0
          go_wp2
          go_quiet (fail)
          have hkd : Kept gr w (wr.drewN nq) := hkw.trans (Kept.of_below (Go.below_drewN (Below.refl _ _) _))
          have HRD := Lib.hid (hrow.out.below (Go.below_drewN (Below.refl _ _) nq))
          have HAD := Lib.hid (hA'.out.below (Go.below_drewN (Below.refl _ _) nq))
          have HCD := Lib.hid (hC'.out.below (Go.below_drewN (Below.refl _ _) nq))
          clear hrow hA' hC' hkw
          generalize wr.drewN nq = wq at hkd HRD HAD HCD ⊢
          have HRL := Lib.hid (filled_length (j := j) HIN.out (by rw [HML.out]; exact Nat.le_of_lt HJ.out))
          have HRD2 := Lib.hid (HRD.out.below (Below.refl _ wq).drew)
          have HST := Lib.hid (show wq.drew.there gr (i * 32 + j * 32) 32 from by have := HRD2.out.there_at (i + j) (by rw [HRL.out]; have := HIN.out; have := HML.out; have := HJ.out; omega); rwa [Nat.add_mul] at this)
          have HS0 := Lib.hid (show wq.drew.rangeAt ba oa (x.map B) by have := (HCD.out.below (Below.refl _ wq).drew).at_ 0 (by have := HNP.out; omega); rwa [Nat.zero_mul, Nat.add_zero] at this)
          have HKS := Lib.hid (Kept.setCells gr (i * 32 + j * 32) (x.map B) wq.drew)
          have HSS := Lib.hid (show (wq.drew.setCells gr (i * 32 + j * 32) (x.map B)).rangeAt ba oa (x.map B) from rangeAt_kept HS0.out HKS.out (hCn'.out _ _ rfl))
          have HRS := Lib.hid (show RowC (wq.drew.setCells gr (i * 32 + j * 32) (x.map B)) gr (filled R M i (j + 1)) by have h1 := HRD2.out.store (i + j) (by rw [HRL.out]; have := HIN.out; have := HML.out; have := HJ.out; omega) x HX.out; rw [filled_step HIN.out (by rw [HML.out]; exact HJ.out) HD.out, Nat.add_mul] at h1; exact h1)
          have HTL := Lib.hid ((HCD.out.below (Below.refl _ wq).drew).tail_.kept HKS.out (hCn'.out _ _ rfl))
          have HOT := Lib.hid ((HAD.out.below (Below.refl _ wq).drew).kept_ HKS.out hAn'.out)
          have HKK := Lib.hid (hkd.trans ((Kept.of_below (Below.refl _ wq).drew).trans HKS.out))
          have HDN := Lib.hid (drop_next HD.out)
          have hu := Tryd.underlying24
          have hi1 : (Tryd.prog.info? 24).map (·.size) = some (x.map B).length := by rw [List.length_map, HX.out]; exact info_id
          have HXL := HX
          have hn1 : (1 : Int) ≤ (n2 : Int) := by have := HNP.out; omega
          have hn1' : 1 ≤ n2 := by omega
          have hn0 : 0 < n2 := by omega
          have hcc : (c2 : Int) ≤ 9223372036854775807 := by have := HCD.out.2.2.1; omega
          have hnc : n2 ≤ c2 := HCD.out.2.1
          have HTN := Lib.hid HCD.out.1
          clear hkd
          by_cases hc1 : c2 = 1
          · have hn11 : n2 = 1 := by omega
            subst hn11
            have hTe : T = [] := List.length_eq_zero_iff.1 (by have h := HTN.out; rw [List.length_cons] at h; omega)
            subst hTe
            subst hc1
            have HTE := Lib.hid (show IdsAt (wq.drew.setCells gr (i * 32 + j * 32) (x.map B)) (some ⟨ba, oa, none⟩) 0 0 [] from ⟨rfl, Nat.le_refl _, by omega, (fun _ h => by cases h), .inl ⟨rfl, rfl⟩⟩)
            go_wp2
            refine wp_region_held_drew (S := fun W => W.rangeAt ba oa (x.map B)) (by kernel_rfl) HS0.out (fun hHeld => ?_)
            refine wpAnyH_take (i := 0) (oi := ⟨some 41, .move (.tmp 0), _, _, _, _⟩) (v := (.slice (some ⟨gr, i * 32, none⟩) n cR)) rfl (by kernel_rfl) (by kernel_rfl) (by kernel_rfl) (fun _ _ _ h => h) (Or.inl ⟨by rfl, fun W hW => by go_simp⟩) (by assumption) ?_
            simp only [Act.put, List.setIfInBounds_toArray, List.set_cons_zero, List.set_cons_succ]
            refine wpAnyH_take (i := 1) (oi := ⟨some 42, .move (.tmp 8), _, _, _, _⟩) (v := (.int .i64 (j : Int))) rfl (by kernel_rfl) (by kernel_rfl) (by kernel_rfl) (fun _ _ _ h => h) (Or.inl ⟨by rfl, fun W hW => by go_simp⟩) (by assumption) ?_
            simp only [Act.put, List.setIfInBounds_toArray, List.set_cons_zero, List.set_cons_succ]
            refine wpAnyH_take (i := 2) (oi := ⟨some 43, .move (.tmp 2), _, _, _, _⟩) (v := (.slice (some ⟨ba, oa, none⟩) 1 1)) rfl (by kernel_rfl) (by kernel_rfl) (by kernel_rfl) (fun _ _ _ h => h) (Or.inl ⟨by rfl, fun W hW => by go_simp⟩) (by assumption) ?_
            simp only [Act.put, List.setIfInBounds_toArray, List.set_cons_zero, List.set_cons_succ]
            refine wpAnyH_take (i := 3) (oi := ⟨some 44, .indexAddr 39 (.tmp 43) (.const (.int .i64 0)), _, _, _, _⟩) (v := (.pointer (some ⟨ba, oa, none⟩))) rfl (by kernel_rfl) (by kernel_rfl) (by kernel_rfl) (fun _ _ _ h => h) (Or.inl ⟨by rfl, fun W hW => by go_simp⟩) (by assumption) ?_
            simp only [Act.put, List.setIfInBounds_toArray, List.set_cons_zero, List.set_cons_succ]
            refine wpAnyH_take (i := 4) (oi := ⟨some 45, .load 24 (.tmp 44), _, _, _, _⟩) (v := _) rfl (by kernel_rfl) (by kernel_rfl) (by kernel_rfl) (fun _ _ _ h => h) (yieldsIf_load_mid (by rfl) _ _ rfl _ _ rfl _ _ (fun W hW => hW) hu rfl hi1) (by assumption) ?_
            simp only [Act.put, List.setIfInBounds_toArray, List.set_cons_zero, List.set_cons_succ]
            refine wpAnyH_take (i := 5) (oi := ⟨some 46, .move (.tmp 2), _, _, _, _⟩) (v := (.slice (some ⟨ba, oa, none⟩) 1 1)) rfl (by kernel_rfl) (by kernel_rfl) (by kernel_rfl) (fun _ _ _ h => h) (Or.inl ⟨by rfl, fun W hW => by go_simp⟩) (by assumption) ?_
            simp only [Act.put, List.setIfInBounds_toArray, List.set_cons_zero, List.set_cons_succ]
            refine wpAnyH_take (i := 6) (oi := ⟨some 47, .slice 39 (.tmp 46) (some (.const (.int .i64 1))) none none, _, _, _, _⟩) (v := (.slice (some ⟨ba, oa, none⟩) 0 0)) rfl (by kernel_rfl) (by kernel_rfl) (by kernel_rfl) (fun _ _ _ h => h) (Or.inl ⟨by rfl, fun W hW => by go_simp⟩) (by assumption) ?_
            simp only [Act.put, List.setIfInBounds_toArray, List.set_cons_zero, List.set_cons_succ]
            refine wpAnyH_take (i := 7) (oi := ⟨some 48, .indexAddr 39 (.tmp 41) (.tmp 42), _, _, _, _⟩) (v := (.pointer (some ⟨gr, i * 32 + j * 32, none⟩))) rfl (by kernel_rfl) (by kernel_rfl) (by kernel_rfl) (fun _ _ _ h => h) (Or.inl ⟨by rfl, fun W hW => by go_simp⟩) (by assumption) ?_
            simp only [Act.put, List.setIfInBounds_toArray, List.set_cons_zero, List.set_cons_succ]
            refine wpAnyH_ready (rs := [8]) (by kernel_rfl) (by simp) ?_
            refine AllReadyH.cons (o := ⟨none, .store 24 (.tmp 48) (.tmp 45), _, _, _, _⟩) rfl (fun K hK => ?_) AllReadyH.nil
            refine store_step (.tmp 48) (.tmp 45) HXL.out HST.out ?_
            refine hK.out _ _ HSS.out (fun hHeld => ?_)
            clear hK K
            simp only [Act.put]
            refine wpAnyH_take (i := 9) (oi := ⟨some 2, .assign (.tmp 47), _, _, _, _⟩) (v := (.slice (some ⟨ba, oa, none⟩) 0 0)) rfl (by kernel_rfl) (by kernel_rfl) (by kernel_rfl) (fun _ _ _ h => h) (Or.inl ⟨by rfl, fun W hW => by go_simp⟩) (by assumption) ?_
            simp only [Act.put, List.setIfInBounds_toArray, List.set_cons_zero, List.set_cons_succ]
            refine wpAnyH_done (by kernel_rfl) ?_ _
            go_wp2
            go_roundg (gk - 1)
            case measure => have := HG.out; have := HJ.out; omega
            case rel => exact ⟨j + 1, _, _, _, _, _, _, _, _, rfl, rfl, by go_num, by have := HG.out; have := HJ.out; omega, by have := HG.out; have := HNG.out; have := HJ.out; omega, HKK.out, HRS, HOT, HTE, hAn', hCn', HDN⟩
          · have hc2 : (1 : Int) < (c2 : Int) := by omega
            have hnc' : (n2 : Int) ≤ (c2 : Int) := by omega
            have HNW := Lib.hid (show NotIn (some ⟨ba, oa + 32, none⟩) gr from fun b off h => by simp only [Option.some.injEq, Addr.mk.injEq, and_true] at h; obtain ⟨rfl, _⟩ := h; exact hCn'.out _ oa rfl)
            go_wp2
            refine wp_region_held_drew (S := fun W => W.rangeAt ba oa (x.map B)) (by kernel_rfl) HS0.out (fun hHeld => ?_)
            refine wpAnyH_take (i := 0) (oi := ⟨some 41, .move (.tmp 0), _, _, _, _⟩) (v := (.slice (some ⟨gr, i * 32, none⟩) n cR)) rfl (by kernel_rfl) (by kernel_rfl) (by kernel_rfl) (fun _ _ _ h => h) (Or.inl ⟨by rfl, fun W hW => by go_simp⟩) (by assumption) ?_
            simp only [Act.put, List.setIfInBounds_toArray, List.set_cons_zero, List.set_cons_succ]
            refine wpAnyH_take (i := 1) (oi := ⟨some 42, .move (.tmp 8), _, _, _, _⟩) (v := (.int .i64 (j : Int))) rfl (by kernel_rfl) (by kernel_rfl) (by kernel_rfl) (fun _ _ _ h => h) (Or.inl ⟨by rfl, fun W hW => by go_simp⟩) (by assumption) ?_
            simp only [Act.put, List.setIfInBounds_toArray, List.set_cons_zero, List.set_cons_succ]
            refine wpAnyH_take (i := 2) (oi := ⟨some 43, .move (.tmp 2), _, _, _, _⟩) (v := (.slice (some ⟨ba, oa, none⟩) n2 c2)) rfl (by kernel_rfl) (by kernel_rfl) (by kernel_rfl) (fun _ _ _ h => h) (Or.inl ⟨by rfl, fun W hW => by go_simp⟩) (by assumption) ?_
            simp only [Act.put, List.setIfInBounds_toArray, List.set_cons_zero, List.set_cons_succ]
            refine wpAnyH_take (i := 3) (oi := ⟨some 44, .indexAddr 39 (.tmp 43) (.const (.int .i64 0)), _, _, _, _⟩) (v := (.pointer (some ⟨ba, oa, none⟩))) rfl (by kernel_rfl) (by kernel_rfl) (by kernel_rfl) (fun _ _ _ h => h) (Or.inl ⟨by rfl, fun W hW => by go_simp⟩) (by assumption) ?_
            simp only [Act.put, List.setIfInBounds_toArray, List.set_cons_zero, List.set_cons_succ]
            refine wpAnyH_take (i := 4) (oi := ⟨some 45, .load 24 (.tmp 44), _, _, _, _⟩) (v := _) rfl (by kernel_rfl) (by kernel_rfl) (by kernel_rfl) (fun _ _ _ h => h) (yieldsIf_load_mid (by rfl) _ _ rfl _ _ rfl _ _ (fun W hW => hW) hu rfl hi1) (by assumption) ?_
            simp only [Act.put, List.setIfInBounds_toArray, List.set_cons_zero, List.set_cons_succ]
            refine wpAnyH_take (i := 5) (oi := ⟨some 46, .move (.tmp 2), _, _, _, _⟩) (v := (.slice (some ⟨ba, oa, none⟩) n2 c2)) rfl (by kernel_rfl) (by kernel_rfl) (by kernel_rfl) (fun _ _ _ h => h) (Or.inl ⟨by rfl, fun W hW => by go_simp⟩) (by assumption) ?_
            simp only [Act.put, List.setIfInBounds_toArray, List.set_cons_zero, List.set_cons_succ]
            refine wpAnyH_take (i := 6) (oi := ⟨some 47, .slice 39 (.tmp 46) (some (.const (.int .i64 1))) none none, _, _, _, _⟩) (v := (.slice (some ⟨ba, oa + 32, none⟩) (n2 - 1) (c2 - 1))) rfl (by kernel_rfl) (by kernel_rfl) (by kernel_rfl) (fun _ _ _ h => h) (Or.inl ⟨by rfl, fun W hW => by go_simp⟩) (by assumption) ?_
            simp only [Act.put, List.setIfInBounds_toArray, List.set_cons_zero, List.set_cons_succ]
            refine wpAnyH_take (i := 7) (oi := ⟨some 48, .indexAddr 39 (.tmp 41) (.tmp 42), _, _, _, _⟩) (v := (.pointer (some ⟨gr, i * 32 + j * 32, none⟩))) rfl (by kernel_rfl) (by kernel_rfl) (by kernel_rfl) (fun _ _ _ h => h) (Or.inl ⟨by rfl, fun W hW => by go_simp⟩) (by assumption) ?_
            simp only [Act.put, List.setIfInBounds_toArray, List.set_cons_zero, List.set_cons_succ]
            refine wpAnyH_ready (rs := [8]) (by kernel_rfl) (by simp) ?_
            refine AllReadyH.cons (o := ⟨none, .store 24 (.tmp 48) (.tmp 45), _, _, _, _⟩) rfl (fun K hK => ?_) AllReadyH.nil
            refine store_step (.tmp 48) (.tmp 45) HXL.out HST.out ?_
            refine hK.out _ _ HSS.out (fun hHeld => ?_)
            clear hK K
            simp only [Act.put]
            refine wpAnyH_take (i := 9) (oi := ⟨some 2, .assign (.tmp 47), _, _, _, _⟩) (v := (.slice (some ⟨ba, oa + 32, none⟩) (n2 - 1) (c2 - 1))) rfl (by kernel_rfl) (by kernel_rfl) (by kernel_rfl) (fun _ _ _ h => h) (Or.inl ⟨by rfl, fun W hW => by go_simp⟩) (by assumption) ?_
            simp only [Act.put, List.setIfInBounds_toArray, List.set_cons_zero, List.set_cons_succ]
            refine wpAnyH_done (by kernel_rfl) ?_ _
            go_wp2
            go_roundg (gk - 1)
            case measure => have := HG.out; have := HJ.out; omega
            case rel => exact ⟨j + 1, _, _, _, _, _, _, _, _, rfl, rfl, by go_num, by have := HG.out; have := HJ.out; omega, by have := HG.out; have := HNG.out; have := HJ.out; omega, HKK.out, HRS, HOT, HTL, hAn', HNW, HDN⟩
        · have hn1p : 0 < n1 := by omega
          obtain ⟨x1, T1, hxT, hx1⟩ := hA'.out.cons hn1p
          subst hxT
          have i1 : (0 : Int) < (n1 : Int) := by omega
          obtain ⟨b1, o1, rfl⟩ := hA'.out.some_ hn1p
          obtain ⟨b2, o2, rfl⟩ := hC'.out.some_ hn2p
          have HX1 := Lib.hid hx1
          have HY1 := Lib.hid hy
          have HCX := Lib.hid (show wr.drew.rangeAt b1 o1 (x1.map B) by have := (hA'.out.below (Below.refl _ wr).drew).at_ 0 hn1p; rwa [Nat.zero_mul, Nat.add_zero] at this)
          have HCY := Lib.hid (show wr.drew.rangeAt b2 o2 (y.map B) by have := (hC'.out.below (Below.refl _ wr).drew).at_ 0 hn2p; rwa [Nat.zero_mul, Nat.add_zero] at this)
          have hkd0 := hkw.trans (Kept.of_below (Below.refl _ wr).drew)
          have HRD0 := Lib.hid (hrow.out.below (Below.refl _ wr).drew)
          have HAD0 := Lib.hid (hA'.out.below (Below.refl _ wr).drew)
          have HCD0 := Lib.hid (hC'.out.below (Below.refl _ wr).drew)
          obtain ⟨z, hz⟩ : ∃ z, z = cmpF x1 y := ⟨_, rfl⟩
          have HZ := Lib.hid hz
          have HCM := fun W => Lib.hid (cmpV_any x1 y z W hx1 hy hz)
          have HNP1 := Lib.hid (show 1 ≤ n1 from hn1p)
          have HNP2 := Lib.hid (show 1 ≤ n2 from hn2p)
          clear hx1 hz hrow hA' hC' hkw ha0 hc0
          go_wp2
          refine wp_region_still_tail 15 (by kernel_rfl) (by kernel_rfl) ?_
          simp only [List.take_succ_cons, List.take_zero, List.drop_succ_cons, List.drop_zero]
          still_step
          still_step
          still_step
          still_step
          still_step
          still_step
          still_step
          still_step
          still_step
          still_step
          still_step
          refine still_w (by rfl) (exec_loadId _ rfl _ _ _ HX1.out rfl HCX.out) ?_
          simp only [Act.put, List.setIfInBounds_toArray, List.set_cons_zero, List.set_cons_succ]
          still_step
          still_step
          refine still_w (by rfl) (exec_loadId _ rfl _ _ _ HY1.out rfl HCY.out) ?_
          simp only [Act.put, List.setIfInBounds_toArray, List.set_cons_zero, List.set_cons_succ]
          refine wpStill_nil ?_
          change wpList _ _ _ _ _ wr.drew
          generalize wr.drew = w2 at hkd0 HRD0 HAD0 HCD0 ⊢
          clear HCX HCY
          by_cases hc : z ≤ 0
          · go_wp2_with (go_at_call 53; go_must (refine (HCM _).out.mono ?_); rintro e wq ⟨rfl, hb3⟩)
            have hkd := hkd0.trans (Kept.of_below hb3)
            have HRD := Lib.hid (HRD0.out.below hb3)
            have HAD := Lib.hid (HAD0.out.below hb3)
            have HCD := Lib.hid (HCD0.out.below hb3)
            obtain ⟨x, T, ba, oa, rfl, rfl, rfl, rfl⟩ : ∃ x T ba oa, x = x1 ∧ T = T1 ∧ ba = b1 ∧ oa = o1 := ⟨_, _, _, _, rfl, rfl, rfl, rfl⟩
            have HX := HX1
            have HNP := HNP1
            have HD := Lib.hid (show M.drop j = x :: mrg T (y :: U) by rw [hdrop.out]; exact mrg_left (.inr ⟨y, U, rfl, by rw [← HZ.out]; exact hc⟩))
            clear hc hy
            have HRL := Lib.hid (filled_length (j := j) HIN.out (by rw [HML.out]; exact Nat.le_of_lt HJ.out))
            have HRD2 := Lib.hid (HRD.out.below (Below.refl _ wq).drew)
            have HST := Lib.hid (show wq.drew.there gr (i * 32 + j * 32) 32 from by have := HRD2.out.there_at (i + j) (by rw [HRL.out]; have := HIN.out; have := HML.out; have := HJ.out; omega); rwa [Nat.add_mul] at this)
            have HS0 := Lib.hid (show wq.drew.rangeAt ba oa (x.map B) by have := (HAD.out.below (Below.refl _ wq).drew).at_ 0 (by have := HNP.out; omega); rwa [Nat.zero_mul, Nat.add_zero] at this)
            have HKS := Lib.hid (Kept.setCells gr (i * 32 + j * 32) (x.map B) wq.drew)
            have HSS := Lib.hid (show (wq.drew.setCells gr (i * 32 + j * 32) (x.map B)).rangeAt ba oa (x.map B) from rangeAt_kept HS0.out HKS.out (hAn'.out _ _ rfl))
            have HRS := Lib.hid (show RowC (wq.drew.setCells gr (i * 32 + j * 32) (x.map B)) gr (filled R M i (j + 1)) by have h1 := HRD2.out.store (i + j) (by rw [HRL.out]; have := HIN.out; have := HML.out; have := HJ.out; omega) x HX.out; rw [filled_step HIN.out (by rw [HML.out]; exact HJ.out) HD.out, Nat.add_mul] at h1; exact h1)
            have HTL := Lib.hid ((HAD.out.below (Below.refl _ wq).drew).tail_.kept HKS.out (hAn'.out _ _ rfl))
            have HOT := Lib.hid ((HCD.out.below (Below.refl _ wq).drew).kept_ HKS.out hCn'.out)
            have HKK := Lib.hid (hkd.trans ((Kept.of_below (Below.refl _ wq).drew).trans HKS.out))
            have HDN := Lib.hid (drop_next HD.out)
            have hu := Tryd.underlying24
            have hi1 : (Tryd.prog.info? 24).map (·.size) = some (x.map B).length := by rw [List.length_map, HX.out]; exact info_id
            have HXL := HX
            have hn1 : (1 : Int) ≤ (n1 : Int) := by have := HNP.out; omega
            have hn1' : 1 ≤ n1 := by omega
            have hn0 : 0 < n1 := by omega
            have hcc : (c1 : Int) ≤ 9223372036854775807 := by have := HAD.out.2.2.1; omega
            have hnc : n1 ≤ c1 := HAD.out.2.1
            have HTN := Lib.hid HAD.out.1
            clear hkd
            by_cases hc1 : c1 = 1
            · have hn11 : n1 = 1 := by omega
              subst hn11
              have hTe : T = [] := List.length_eq_zero_iff.1 (by have h := HTN.out; rw [List.length_cons] at h; omega)
              subst hTe
              subst hc1
              have HTE := Lib.hid (show IdsAt (wq.drew.setCells gr (i * 32 + j * 32) (x.map B)) (some ⟨ba, oa, none⟩) 0 0 [] from ⟨rfl, Nat.le_refl _, by omega, (fun _ h => by cases h), .inl ⟨rfl, rfl⟩⟩)
              go_wp2
              refine wp_region_held_drew (S := fun W => W.rangeAt ba oa (x.map B)) (by kernel_rfl) HS0.out (fun hHeld => ?_)
              refine wpAnyH_take (i := 0) (oi := ⟨some 33, .move (.tmp 0), _, _, _, _⟩) (v := (.slice (some ⟨gr, i * 32, none⟩) n cR)) rfl (by kernel_rfl) (by kernel_rfl) (by kernel_rfl) (fun _ _ _ h => h) (Or.inl ⟨by rfl, fun W hW => by go_simp⟩) (by assumption) ?_
              simp only [Act.put, List.setIfInBounds_toArray, List.set_cons_zero, List.set_cons_succ]
              refine wpAnyH_take (i := 1) (oi := ⟨some 34, .move (.tmp 8), _, _, _, _⟩) (v := (.int .i64 (j : Int))) rfl (by kernel_rfl) (by kernel_rfl) (by kernel_rfl) (fun _ _ _ h => h) (Or.inl ⟨by rfl, fun W hW => by go_simp⟩) (by assumption) ?_
              simp only [Act.put, List.setIfInBounds_toArray, List.set_cons_zero, List.set_cons_succ]
              refine wpAnyH_take (i := 2) (oi := ⟨some 35, .move (.tmp 1), _, _, _, _⟩) (v := (.slice (some ⟨ba, oa, none⟩) 1 1)) rfl (by kernel_rfl) (by kernel_rfl) (by kernel_rfl) (fun _ _ _ h => h) (Or.inl ⟨by rfl, fun W hW => by go_simp⟩) (by assumption) ?_
              simp only [Act.put, List.setIfInBounds_toArray, List.set_cons_zero, List.set_cons_succ]
              refine wpAnyH_take (i := 3) (oi := ⟨some 36, .indexAddr 39 (.tmp 35) (.const (.int .i64 0)), _, _, _, _⟩) (v := (.pointer (some ⟨ba, oa, none⟩))) rfl (by kernel_rfl) (by kernel_rfl) (by kernel_rfl) (fun _ _ _ h => h) (Or.inl ⟨by rfl, fun W hW => by go_simp⟩) (by assumption) ?_
              simp only [Act.put, List.setIfInBounds_toArray, List.set_cons_zero, List.set_cons_succ]
              refine wpAnyH_take (i := 4) (oi := ⟨some 37, .load 24 (.tmp 36), _, _, _, _⟩) (v := _) rfl (by kernel_rfl) (by kernel_rfl) (by kernel_rfl) (fun _ _ _ h => h) (yieldsIf_load_mid (by rfl) _ _ rfl _ _ rfl _ _ (fun W hW => hW) hu rfl hi1) (by assumption) ?_
              simp only [Act.put, List.setIfInBounds_toArray, List.set_cons_zero, List.set_cons_succ]
              refine wpAnyH_take (i := 5) (oi := ⟨some 38, .move (.tmp 1), _, _, _, _⟩) (v := (.slice (some ⟨ba, oa, none⟩) 1 1)) rfl (by kernel_rfl) (by kernel_rfl) (by kernel_rfl) (fun _ _ _ h => h) (Or.inl ⟨by rfl, fun W hW => by go_simp⟩) (by assumption) ?_
              simp only [Act.put, List.setIfInBounds_toArray, List.set_cons_zero, List.set_cons_succ]
              refine wpAnyH_take (i := 6) (oi := ⟨some 39, .slice 39 (.tmp 38) (some (.const (.int .i64 1))) none none, _, _, _, _⟩) (v := (.slice (some ⟨ba, oa, none⟩) 0 0)) rfl (by kernel_rfl) (by kernel_rfl) (by kernel_rfl) (fun _ _ _ h => h) (Or.inl ⟨by rfl, fun W hW => by go_simp⟩) (by assumption) ?_
              simp only [Act.put, List.setIfInBounds_toArray, List.set_cons_zero, List.set_cons_succ]
              refine wpAnyH_take (i := 7) (oi := ⟨some 40, .indexAddr 39 (.tmp 33) (.tmp 34), _, _, _, _⟩) (v := (.pointer (some ⟨gr, i * 32 + j * 32, none⟩))) rfl (by kernel_rfl) (by kernel_rfl) (by kernel_rfl) (fun _ _ _ h => h) (Or.inl ⟨by rfl, fun W hW => by go_simp⟩) (by assumption) ?_
              simp only [Act.put, List.setIfInBounds_toArray, List.set_cons_zero, List.set_cons_succ]
              refine wpAnyH_ready (rs := [8]) (by kernel_rfl) (by simp) ?_
              refine AllReadyH.cons (o := ⟨none, .store 24 (.tmp 40) (.tmp 37), _, _, _, _⟩) rfl (fun K hK => ?_) AllReadyH.nil
              refine store_step (.tmp 40) (.tmp 37) HXL.out HST.out ?_
              refine hK.out _ _ HSS.out (fun hHeld => ?_)
              clear hK K
              simp only [Act.put]
              refine wpAnyH_take (i := 9) (oi := ⟨some 1, .assign (.tmp 39), _, _, _, _⟩) (v := (.slice (some ⟨ba, oa, none⟩) 0 0)) rfl (by kernel_rfl) (by kernel_rfl) (by kernel_rfl) (fun _ _ _ h => h) (Or.inl ⟨by rfl, fun W hW => by go_simp⟩) (by assumption) ?_
              simp only [Act.put, List.setIfInBounds_toArray, List.set_cons_zero, List.set_cons_succ]
              refine wpAnyH_done (by kernel_rfl) ?_ _
              go_wp2
              go_roundg (gk - 1)
              case measure => have := HG.out; have := HJ.out; omega
              case rel => exact ⟨j + 1, _, _, _, _, _, _, _, _, rfl, rfl, by go_num, by have := HG.out; have := HJ.out; omega, by have := HG.out; have := HNG.out; have := HJ.out; omega, HKK.out, HRS, HTE, HOT, hAn', hCn', HDN⟩
            · have hc2 : (1 : Int) < (c1 : Int) := by omega
              have hnc' : (n1 : Int) ≤ (c1 : Int) := by omega
              have HNW := Lib.hid (show NotIn (some ⟨ba, oa + 32, none⟩) gr from fun b off h => by simp only [Option.some.injEq, Addr.mk.injEq, and_true] at h; obtain ⟨rfl, _⟩ := h; exact hAn'.out _ oa rfl)
              go_wp2
              refine wp_region_held_drew (S := fun W => W.rangeAt ba oa (x.map B)) (by kernel_rfl) HS0.out (fun hHeld => ?_)
              refine wpAnyH_take (i := 0) (oi := ⟨some 33, .move (.tmp 0), _, _, _, _⟩) (v := (.slice (some ⟨gr, i * 32, none⟩) n cR)) rfl (by kernel_rfl) (by kernel_rfl) (by kernel_rfl) (fun _ _ _ h => h) (Or.inl ⟨by rfl, fun W hW => by go_simp⟩) (by assumption) ?_
              simp only [Act.put, List.setIfInBounds_toArray, List.set_cons_zero, List.set_cons_succ]
              refine wpAnyH_take (i := 1) (oi := ⟨some 34, .move (.tmp 8), _, _, _, _⟩) (v := (.int .i64 (j : Int))) rfl (by kernel_rfl) (by kernel_rfl) (by kernel_rfl) (fun _ _ _ h => h) (Or.inl ⟨by rfl, fun W hW => by go_simp⟩) (by assumption) ?_
              simp only [Act.put, List.setIfInBounds_toArray, List.set_cons_zero, List.set_cons_succ]
              refine wpAnyH_take (i := 2) (oi := ⟨some 35, .move (.tmp 1), _, _, _, _⟩) (v := (.slice (some ⟨ba, oa, none⟩) n1 c1)) rfl (by kernel_rfl) (by kernel_rfl) (by kernel_rfl) (fun _ _ _ h => h) (Or.inl ⟨by rfl, fun W hW => by go_simp⟩) (by assumption) ?_
              simp only [Act.put, List.setIfInBounds_toArray, List.set_cons_zero, List.set_cons_succ]
              refine wpAnyH_take (i := 3) (oi := ⟨some 36, .indexAddr 39 (.tmp 35) (.const (.int .i64 0)), _, _, _, _⟩) (v := (.pointer (some ⟨ba, oa, none⟩))) rfl (by kernel_rfl) (by kernel_rfl) (by kernel_rfl) (fun _ _ _ h => h) (Or.inl ⟨by rfl, fun W hW => by go_simp⟩) (by assumption) ?_
              simp only [Act.put, List.setIfInBounds_toArray, List.set_cons_zero, List.set_cons_succ]
              refine wpAnyH_take (i := 4) (oi := ⟨some 37, .load 24 (.tmp 36), _, _, _, _⟩) (v := _) rfl (by kernel_rfl) (by kernel_rfl) (by kernel_rfl) (fun _ _ _ h => h) (yieldsIf_load_mid (by rfl) _ _ rfl _ _ rfl _ _ (fun W hW => hW) hu rfl hi1) (by assumption) ?_
              simp only [Act.put, List.setIfInBounds_toArray, List.set_cons_zero, List.set_cons_succ]
              refine wpAnyH_take (i := 5) (oi := ⟨some 38, .move (.tmp 1), _, _, _, _⟩) (v := (.slice (some ⟨ba, oa, none⟩) n1 c1)) rfl (by kernel_rfl) (by kernel_rfl) (by kernel_rfl) (fun _ _ _ h => h) (Or.inl ⟨by rfl, fun W hW => by go_simp⟩) (by assumption) ?_
              simp only [Act.put, List.setIfInBounds_toArray, List.set_cons_zero, List.set_cons_succ]
              refine wpAnyH_take (i := 6) (oi := ⟨some 39, .slice 39 (.tmp 38) (some (.const (.int .i64 1))) none none, _, _, _, _⟩) (v := (.slice (some ⟨ba, oa + 32, none⟩) (n1 - 1) (c1 - 1))) rfl (by kernel_rfl) (by kernel_rfl) (by kernel_rfl) (fun _ _ _ h => h) (Or.inl ⟨by rfl, fun W hW => by go_simp⟩) (by assumption) ?_
              simp only [Act.put, List.setIfInBounds_toArray, List.set_cons_zero, List.set_cons_succ]
              refine wpAnyH_take (i := 7) (oi := ⟨some 40, .indexAddr 39 (.tmp 33) (.tmp 34), _, _, _, _⟩) (v := (.pointer (some ⟨gr, i * 32 + j * 32, none⟩))) rfl (by kernel_rfl) (by kernel_rfl) (by kernel_rfl) (fun _ _ _ h => h) (Or.inl ⟨by rfl, fun W hW => by go_simp⟩) (by assumption) ?_
              simp only [Act.put, List.setIfInBounds_toArray, List.set_cons_zero, List.set_cons_succ]
              refine wpAnyH_ready (rs := [8]) (by kernel_rfl) (by simp) ?_
              refine AllReadyH.cons (o := ⟨none, .store 24 (.tmp 40) (.tmp 37), _, _, _, _⟩) rfl (fun K hK => ?_) AllReadyH.nil
              refine store_step (.tmp 40) (.tmp 37) HXL.out HST.out ?_
              refine hK.out _ _ HSS.out (fun hHeld => ?_)
              clear hK K
              simp only [Act.put]
              refine wpAnyH_take (i := 9) (oi := ⟨some 1, .assign (.tmp 39), _, _, _, _⟩) (v := (.slice (some ⟨ba, oa + 32, none⟩) (n1 - 1) (c1 - 1))) rfl (by kernel_rfl) (by kernel_rfl) (by kernel_rfl) (fun _ _ _ h => h) (Or.inl ⟨by rfl, fun W hW => by go_simp⟩) (by assumption) ?_
              simp only [Act.put, List.setIfInBounds_toArray, List.set_cons_zero, List.set_cons_succ]
              refine wpAnyH_done (by kernel_rfl) ?_ _
              go_wp2
              go_roundg (gk - 1)
              case measure => have := HG.out; have := HJ.out; omega
              case rel => exact ⟨j + 1, _, _, _, _, _, _, _, _, rfl, rfl, by go_num, by have := HG.out; have := HJ.out; omega, by have := HG.out; have := HNG.out; have := HJ.out; omega, HKK.out, HRS, HTL, HOT, HNW, hCn', HDN⟩
          · have hcf : decide (z ≤ 0) = false := decide_eq_false hc
            go_wp2_with (go_at_call 53; go_must (refine (HCM _).out.mono ?_); rintro e wq ⟨rfl, hb3⟩)
            have hkd := hkd0.trans (Kept.of_below hb3)
            have HRD := Lib.hid (HRD0.out.below hb3)
            have HAD := Lib.hid (HAD0.out.below hb3)
            have HCD := Lib.hid (HCD0.out.below hb3)
            obtain ⟨x, T, ba, oa, rfl, rfl, rfl, rfl⟩ : ∃ x T ba oa, x = y ∧ T = U ∧ ba = b2 ∧ oa = o2 := ⟨_, _, _, _, rfl, rfl, rfl, rfl⟩
            have HX := HY1
            have HNP := HNP2
            have HD := Lib.hid (show M.drop j = x :: mrg (x1 :: T1) T by rw [hdrop.out]; exact mrg_right (.inr ⟨x1, T1, rfl, by rw [← HZ.out]; omega⟩))
            clear hc hy hcf
            have HRL := Lib.hid (filled_length (j := j) HIN.out (by rw [HML.out]; exact Nat.le_of_lt HJ.out))
            have HRD2 := Lib.hid (HRD.out.below (Below.refl _ wq).drew)
            have HST := Lib.hid (show wq.drew.there gr (i * 32 + j * 32) 32 from by have := HRD2.out.there_at (i + j) (by rw [HRL.out]; have := HIN.out; have := HML.out; have := HJ.out; omega); rwa [Nat.add_mul] at this)
            have HS0 := Lib.hid (show wq.drew.rangeAt ba oa (x.map B) by have := (HCD.out.below (Below.refl _ wq).drew).at_ 0 (by have := HNP.out; omega); rwa [Nat.zero_mul, Nat.add_zero] at this)
            have HKS := Lib.hid (Kept.setCells gr (i * 32 + j * 32) (x.map B) wq.drew)
            have HSS := Lib.hid (show (wq.drew.setCells gr (i * 32 + j * 32) (x.map B)).rangeAt ba oa (x.map B) from rangeAt_kept HS0.out HKS.out (hCn'.out _ _ rfl))
            have HRS := Lib.hid (show RowC (wq.drew.setCells gr (i * 32 + j * 32) (x.map B)) gr (filled R M i (j + 1)) by have h1 := HRD2.out.store (i + j) (by rw [HRL.out]; have := HIN.out; have := HML.out; have := HJ.out; omega) x HX.out; rw [filled_step HIN.out (by rw [HML.out]; exact HJ.out) HD.out, Nat.add_mul] at h1; exact h1)
            have HTL := Lib.hid ((HCD.out.below (Below.refl _ wq).drew).tail_.kept HKS.out (hCn'.out _ _ rfl))
            have HOT := Lib.hid ((HAD.out.below (Below.refl _ wq).drew).kept_ HKS.out hAn'.out)
            have HKK := Lib.hid (hkd.trans ((Kept.of_below (Below.refl _ wq).drew).trans HKS.out))
            have HDN := Lib.hid (drop_next HD.out)
            have hu := Tryd.underlying24
            have hi1 : (Tryd.prog.info? 24).map (·.size) = some (x.map B).length := by rw [List.length_map, HX.out]; exact info_id
            have HXL := HX
            have hn1 : (1 : Int) ≤ (n2 : Int) := by have := HNP.out; omega
            have hn1' : 1 ≤ n2 := by omega
            have hn0 : 0 < n2 := by omega
            have hcc : (c2 : Int) ≤ 9223372036854775807 := by have := HCD.out.2.2.1; omega
            have hnc : n2 ≤ c2 := HCD.out.2.1
            have HTN := Lib.hid HCD.out.1
            clear hkd
            by_cases hc1 : c2 = 1
            · have hn11 : n2 = 1 := by omega
              subst hn11
              have hTe : T = [] := List.length_eq_zero_iff.1 (by have h := HTN.out; rw [List.length_cons] at h; omega)
              subst hTe
              subst hc1
              have HTE := Lib.hid (show IdsAt (wq.drew.setCells gr (i * 32 + j * 32) (x.map B)) (some ⟨ba, oa, none⟩) 0 0 [] from ⟨rfl, Nat.le_refl _, by omega, (fun _ h => by cases h), .inl ⟨rfl, rfl⟩⟩)
              go_wp2
              refine wp_region_held_drew (S := fun W => W.rangeAt ba oa (x.map B)) (by kernel_rfl) HS0.out (fun hHeld => ?_)
              refine wpAnyH_take (i := 0) (oi := ⟨some 41, .move (.tmp 0), _, _, _, _⟩) (v := (.slice (some ⟨gr, i * 32, none⟩) n cR)) rfl (by kernel_rfl) (by kernel_rfl) (by kernel_rfl) (fun _ _ _ h => h) (Or.inl ⟨by rfl, fun W hW => by go_simp⟩) (by assumption) ?_
              simp only [Act.put, List.setIfInBounds_toArray, List.set_cons_zero, List.set_cons_succ]
              refine wpAnyH_take (i := 1) (oi := ⟨some 42, .move (.tmp 8), _, _, _, _⟩) (v := (.int .i64 (j : Int))) rfl (by kernel_rfl) (by kernel_rfl) (by kernel_rfl) (fun _ _ _ h => h) (Or.inl ⟨by rfl, fun W hW => by go_simp⟩) (by assumption) ?_
              simp only [Act.put, List.setIfInBounds_toArray, List.set_cons_zero, List.set_cons_succ]
              refine wpAnyH_take (i := 2) (oi := ⟨some 43, .move (.tmp 2), _, _, _, _⟩) (v := (.slice (some ⟨ba, oa, none⟩) 1 1)) rfl (by kernel_rfl) (by kernel_rfl) (by kernel_rfl) (fun _ _ _ h => h) (Or.inl ⟨by rfl, fun W hW => by go_simp⟩) (by assumption) ?_
              simp only [Act.put, List.setIfInBounds_toArray, List.set_cons_zero, List.set_cons_succ]
              refine wpAnyH_take (i := 3) (oi := ⟨some 44, .indexAddr 39 (.tmp 43) (.const (.int .i64 0)), _, _, _, _⟩) (v := (.pointer (some ⟨ba, oa, none⟩))) rfl (by kernel_rfl) (by kernel_rfl) (by kernel_rfl) (fun _ _ _ h => h) (Or.inl ⟨by rfl, fun W hW => by go_simp⟩) (by assumption) ?_
              simp only [Act.put, List.setIfInBounds_toArray, List.set_cons_zero, List.set_cons_succ]
              refine wpAnyH_take (i := 4) (oi := ⟨some 45, .load 24 (.tmp 44), _, _, _, _⟩) (v := _) rfl (by kernel_rfl) (by kernel_rfl) (by kernel_rfl) (fun _ _ _ h => h) (yieldsIf_load_mid (by rfl) _ _ rfl _ _ rfl _ _ (fun W hW => hW) hu rfl hi1) (by assumption) ?_
              simp only [Act.put, List.setIfInBounds_toArray, List.set_cons_zero, List.set_cons_succ]
              refine wpAnyH_take (i := 5) (oi := ⟨some 46, .move (.tmp 2), _, _, _, _⟩) (v := (.slice (some ⟨ba, oa, none⟩) 1 1)) rfl (by kernel_rfl) (by kernel_rfl) (by kernel_rfl) (fun _ _ _ h => h) (Or.inl ⟨by rfl, fun W hW => by go_simp⟩) (by assumption) ?_
              simp only [Act.put, List.setIfInBounds_toArray, List.set_cons_zero, List.set_cons_succ]
              refine wpAnyH_take (i := 6) (oi := ⟨some 47, .slice 39 (.tmp 46) (some (.const (.int .i64 1))) none none, _, _, _, _⟩) (v := (.slice (some ⟨ba, oa, none⟩) 0 0)) rfl (by kernel_rfl) (by kernel_rfl) (by kernel_rfl) (fun _ _ _ h => h) (Or.inl ⟨by rfl, fun W hW => by go_simp⟩) (by assumption) ?_
              simp only [Act.put, List.setIfInBounds_toArray, List.set_cons_zero, List.set_cons_succ]
              refine wpAnyH_take (i := 7) (oi := ⟨some 48, .indexAddr 39 (.tmp 41) (.tmp 42), _, _, _, _⟩) (v := (.pointer (some ⟨gr, i * 32 + j * 32, none⟩))) rfl (by kernel_rfl) (by kernel_rfl) (by kernel_rfl) (fun _ _ _ h => h) (Or.inl ⟨by rfl, fun W hW => by go_simp⟩) (by assumption) ?_
              simp only [Act.put, List.setIfInBounds_toArray, List.set_cons_zero, List.set_cons_succ]
              refine wpAnyH_ready (rs := [8]) (by kernel_rfl) (by simp) ?_
              refine AllReadyH.cons (o := ⟨none, .store 24 (.tmp 48) (.tmp 45), _, _, _, _⟩) rfl (fun K hK => ?_) AllReadyH.nil
              refine store_step (.tmp 48) (.tmp 45) HXL.out HST.out ?_
              refine hK.out _ _ HSS.out (fun hHeld => ?_)
              clear hK K
              simp only [Act.put]
              refine wpAnyH_take (i := 9) (oi := ⟨some 2, .assign (.tmp 47), _, _, _, _⟩) (v := (.slice (some ⟨ba, oa, none⟩) 0 0)) rfl (by kernel_rfl) (by kernel_rfl) (by kernel_rfl) (fun _ _ _ h => h) (Or.inl ⟨by rfl, fun W hW => by go_simp⟩) (by assumption) ?_
              simp only [Act.put, List.setIfInBounds_toArray, List.set_cons_zero, List.set_cons_succ]
              refine wpAnyH_done (by kernel_rfl) ?_ _
              go_wp2
              go_roundg (gk - 1)
              case measure => have := HG.out; have := HJ.out; omega
              case rel => exact ⟨j + 1, _, _, _, _, _, _, _, _, rfl, rfl, by go_num, by have := HG.out; have := HJ.out; omega, by have := HG.out; have := HNG.out; have := HJ.out; omega, HKK.out, HRS, HOT, HTE, hAn', hCn', HDN⟩
            · have hc2 : (1 : Int) < (c2 : Int) := by omega
              have hnc' : (n2 : Int) ≤ (c2 : Int) := by omega
              have HNW := Lib.hid (show NotIn (some ⟨ba, oa + 32, none⟩) gr from fun b off h => by simp only [Option.some.injEq, Addr.mk.injEq, and_true] at h; obtain ⟨rfl, _⟩ := h; exact hCn'.out _ oa rfl)
              go_wp2
              refine wp_region_held_drew (S := fun W => W.rangeAt ba oa (x.map B)) (by kernel_rfl) HS0.out (fun hHeld => ?_)
              refine wpAnyH_take (i := 0) (oi := ⟨some 41, .move (.tmp 0), _, _, _, _⟩) (v := (.slice (some ⟨gr, i * 32, none⟩) n cR)) rfl (by kernel_rfl) (by kernel_rfl) (by kernel_rfl) (fun _ _ _ h => h) (Or.inl ⟨by rfl, fun W hW => by go_simp⟩) (by assumption) ?_
              simp only [Act.put, List.setIfInBounds_toArray, List.set_cons_zero, List.set_cons_succ]
              refine wpAnyH_take (i := 1) (oi := ⟨some 42, .move (.tmp 8), _, _, _, _⟩) (v := (.int .i64 (j : Int))) rfl (by kernel_rfl) (by kernel_rfl) (by kernel_rfl) (fun _ _ _ h => h) (Or.inl ⟨by rfl, fun W hW => by go_simp⟩) (by assumption) ?_
              simp only [Act.put, List.setIfInBounds_toArray, List.set_cons_zero, List.set_cons_succ]
              refine wpAnyH_take (i := 2) (oi := ⟨some 43, .move (.tmp 2), _, _, _, _⟩) (v := (.slice (some ⟨ba, oa, none⟩) n2 c2)) rfl (by kernel_rfl) (by kernel_rfl) (by kernel_rfl) (fun _ _ _ h => h) (Or.inl ⟨by rfl, fun W hW => by go_simp⟩) (by assumption) ?_
              simp only [Act.put, List.setIfInBounds_toArray, List.set_cons_zero, List.set_cons_succ]
              refine wpAnyH_take (i := 3) (oi := ⟨some 44, .indexAddr 39 (.tmp 43) (.const (.int .i64 0)), _, _, _, _⟩) (v := (.pointer (some ⟨ba, oa, none⟩))) rfl (by kernel_rfl) (by kernel_rfl) (by kernel_rfl) (fun _ _ _ h => h) (Or.inl ⟨by rfl, fun W hW => by go_simp⟩) (by assumption) ?_
              simp only [Act.put, List.setIfInBounds_toArray, List.set_cons_zero, List.set_cons_succ]
              refine wpAnyH_take (i := 4) (oi := ⟨some 45, .load 24 (.tmp 44), _, _, _, _⟩) (v := _) rfl (by kernel_rfl) (by kernel_rfl) (by kernel_rfl) (fun _ _ _ h => h) (yieldsIf_load_mid (by rfl) _ _ rfl _ _ rfl _ _ (fun W hW => hW) hu rfl hi1) (by assumption) ?_
              simp only [Act.put, List.setIfInBounds_toArray, List.set_cons_zero, List.set_cons_succ]
              refine wpAnyH_take (i := 5) (oi := ⟨some 46, .move (.tmp 2), _, _, _, _⟩) (v := (.slice (some ⟨ba, oa, none⟩) n2 c2)) rfl (by kernel_rfl) (by kernel_rfl) (by kernel_rfl) (fun _ _ _ h => h) (Or.inl ⟨by rfl, fun W hW => by go_simp⟩) (by assumption) ?_
              simp only [Act.put, List.setIfInBounds_toArray, List.set_cons_zero, List.set_cons_succ]
              refine wpAnyH_take (i := 6) (oi := ⟨some 47, .slice 39 (.tmp 46) (some (.const (.int .i64 1))) none none, _, _, _, _⟩) (v := (.slice (some ⟨ba, oa + 32, none⟩) (n2 - 1) (c2 - 1))) rfl (by kernel_rfl) (by kernel_rfl) (by kernel_rfl) (fun _ _ _ h => h) (Or.inl ⟨by rfl, fun W hW => by go_simp⟩) (by assumption) ?_
              simp only [Act.put, List.setIfInBounds_toArray, List.set_cons_zero, List.set_cons_succ]
              refine wpAnyH_take (i := 7) (oi := ⟨some 48, .indexAddr 39 (.tmp 41) (.tmp 42), _, _, _, _⟩) (v := (.pointer (some ⟨gr, i * 32 + j * 32, none⟩))) rfl (by kernel_rfl) (by kernel_rfl) (by kernel_rfl) (fun _ _ _ h => h) (Or.inl ⟨by rfl, fun W hW => by go_simp⟩) (by assumption) ?_
              simp only [Act.put, List.setIfInBounds_toArray, List.set_cons_zero, List.set_cons_succ]
              refine wpAnyH_ready (rs := [8]) (by kernel_rfl) (by simp) ?_
              refine AllReadyH.cons (o := ⟨none, .store 24 (.tmp 48) (.tmp 45), _, _, _, _⟩) rfl (fun K hK => ?_) AllReadyH.nil
              refine store_step (.tmp 48) (.tmp 45) HXL.out HST.out ?_
              refine hK.out _ _ HSS.out (fun hHeld => ?_)
              clear hK K
              simp only [Act.put]
              refine wpAnyH_take (i := 9) (oi := ⟨some 2, .assign (.tmp 47), _, _, _, _⟩) (v := (.slice (some ⟨ba, oa + 32, none⟩) (n2 - 1) (c2 - 1))) rfl (by kernel_rfl) (by kernel_rfl) (by kernel_rfl) (fun _ _ _ h => h) (Or.inl ⟨by rfl, fun W hW => by go_simp⟩) (by assumption) ?_
              simp only [Act.put, List.setIfInBounds_toArray, List.set_cons_zero, List.set_cons_succ]
              refine wpAnyH_done (by kernel_rfl) ?_ _
              go_wp2
              go_roundg (gk - 1)
              case measure => have := HG.out; have := HJ.out; omega
              case rel => exact ⟨j + 1, _, _, _, _, _, _, _, _, rfl, rfl, by go_num, by have := HG.out; have := HJ.out; omega, by have := HG.out; have := HNG.out; have := HJ.out; omega, HKK.out, HRS, HOT, HTL, hAn', HNW, HDN⟩
    · have hjn : j = n := by omega
      subst hjn
      clear hg hng
      go_wp2
      go_end0
      exact ⟨rfl, hkw, hrow.out⟩
#print axioms merge_any
end Go.Proofs.YtkhcoefcifaaeaaDoor
