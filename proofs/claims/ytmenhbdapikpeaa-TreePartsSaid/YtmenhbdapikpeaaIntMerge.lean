/-
  The walk of merge at ints: places, compared by their keys.
-/
import Derived.Test.YtmenhbdapikpeaaKeysAt
import Derived.Test.YtmenhbdapikpeaaInts
import Derived.Maps.AppendAt
namespace Go.Proofs.Ytmenhbdapikpeaa
open Go.RowKit

def NotInG (a : Option Addr) (g : Nat) : Prop := ∀ b off, a = some ⟨b, off, none⟩ → b ≠ g
theorem cell_grown {w w' : World} {b o gr : Nat} {v : Value} (h : w.cell? ⟨b, o, none⟩ = some v) (hg : w.grownBy w' (some gr)) (hne : b ≠ gr) : w'.cell? ⟨b, o, none⟩ = some v := by
  have hlt : b < w.heap.size := World.block_lt_of_cell? _ _ h
  have hb := hg.block b hlt (by simpa using hne)
  rw [← h]
  unfold World.cell?
  rw [hb]
theorem At1.keptG {w w' : World} {a : Option Addr} {n c gr : Nat} {L : List Nat} (h : At1 N w a n c L) (hg : w.grownBy w' (some gr)) (hn : NotInG a gr) : At1 N w' a n c L := by
  obtain ⟨h1, h2, h3, h4⟩ := h
  refine ⟨h1, h2, h3, ?_⟩
  rcases h4 with h4 | ⟨b, off, ha, hc⟩
  · exact .inl h4
  · exact .inr ⟨b, off, ha, fun j hj => cell_grown (hc j hj) hg (hn b off ha)⟩
theorem KeysAt.keptG {w w' : World} {a : Option Addr} {n c gr : Nat} {K : List KeyV} (h : KeysAt w a n c K) (hg : w.grownBy w' (some gr)) (hn : NotInG a gr) : KeysAt w' a n c K := by
  obtain ⟨h1, h2, h3, h5, h4⟩ := h
  refine ⟨h1, h2, h3, h5, ?_⟩
  rcases h4 with h4 | ⟨b, off, ha, hc⟩
  · exact .inl h4
  · exact .inr ⟨b, off, ha, fun j hj i v hv => cell_grown (hc j hj i v hv) hg (hn b off ha)⟩
theorem At1.tailG {w : World} {b o n c x : Nat} {T : List Nat} (h : At1 N w (some ⟨b, o, none⟩) n c (x :: T)) (_ : c ≠ 1) : At1 N w (some ⟨b, o + 1, none⟩) (n - 1) (c - 1) T := by
  have hl := h.1
  simp at hl
  refine ⟨by omega, by have := h.2.1; omega, by have := h.2.2.1; omega, .inr ⟨b, o + 1, rfl, fun j hj => ?_⟩⟩
  have := h.cell (j + 1) (by omega)
  rw [show o + 1 + j = o + (j + 1) from by omega, this]
  simp
theorem At1.lastG {w : World} {b o n x : Nat} {T : List Nat} (h : At1 N w (some ⟨b, o, none⟩) n 1 (x :: T)) : T = [] ∧ n = 1 := by
  have hl := h.1
  have h2 := h.2.1
  simp at hl
  have : T.length = 0 := by omega
  exact ⟨List.length_eq_zero_iff.1 this, by omega⟩
theorem grown_below {w w' : World} (h : Below w.heap.size w w') (gr : Option Nat) : w.grownBy w' gr := ⟨h.os, h.tape, h.output, h.size, fun k hk _ => h.block k hk⟩
theorem grown_set (w : World) (g p : Nat) (v : Value) : w.grownBy (w.setCell ⟨g, p, none⟩ v) (some g) :=
  ⟨rfl, rfl, rfl, by simp [World.setCell], fun k _ hn => Below.heap_setCell _ _ _ _ (by intro e; apply hn; simp only at e; rw [e])⟩

/-- The row, as far as it is filled. -/
def fillG (R M : List Nat) (i j : Nat) : List Nat := R.take i ++ (M.take j ++ R.drop (i + j))
theorem fillG_length {R M : List Nat} {i j : Nat} (h : i + M.length ≤ R.length) (hj : j ≤ M.length) : (fillG R M i j).length = R.length := by
  unfold fillG; simp; omega
theorem fillG_zero (R M : List Nat) (i : Nat) : fillG R M i 0 = R := by unfold fillG; simp
theorem fillG_step {R M : List Nat} {i j x : Nat} {T : List Nat} (h : i + M.length ≤ R.length) (hj : j < M.length) (hd : M.drop j = x :: T) : (fillG R M i j).set (i + j) x = fillG R M i (j + 1) := by
  unfold fillG
  have hx : M[j] = x := by
    have := List.drop_eq_getElem_cons hj
    rw [hd] at this
    exact (List.cons.inj this).1.symm
  rw [List.set_append_right _ _ (by simp; omega), List.length_take, show i + j - min i R.length = j from by omega, List.set_append_right _ _ (by simp; omega), List.length_take,
    show j - min j M.length = 0 from by omega, List.take_succ_eq_append_getElem hj, hx]
  rw [List.drop_eq_getElem_cons (show i + j < R.length by omega), List.set_cons_zero]
  simp [Nat.add_assoc]
theorem drop_nextG {M T : List Nat} {j x : Nat} (hd : M.drop j = x :: T) : M.drop (j + 1) = T := by
  rw [← List.drop_drop, hd]; rfl
theorem own_frozenN {w : World} {base g n c : Nat} {U : List Nat} (h : Own1 N 3 w base (.slice (some ⟨g, 0, none⟩) n c) U) (hn : 0 < n) (j : Nat) : w.frozen? ⟨g, j, none⟩ = false := by
  obtain ⟨g', hg, _, _, _, hf⟩ := h.row hn
  cases hg
  exact hf j
theorem Own1.drewG {w : World} {base : Nat} {v : Value} {L : List Nat} (h : Own1 N 3 w base v L) (n : Nat) : Own1 N 3 (w.drewN n) base v L := h
theorem belowG (w : World) (n : Nat) : Below w.heap.size w (w.drewN n) := below_drewK (Below.refl _ _) n

/-- What comparing places wants of a world. -/
structure Ctx (w : World) (gr g : Nat) (ak : Option Addr) (nk ck : Nat) (K : List KeyV) : Prop where
  keys : KeysAt w ak nk ck K
  cell : w.cell? ⟨g, 0, none⟩ = some (.slice ak nk ck)
  ne : g ≠ gr
  apart : NotInG ak gr
theorem Ctx.kept {w w' : World} {gr g : Nat} {ak : Option Addr} {nk ck : Nat} {K : List KeyV} (h : Ctx w gr g ak nk ck K) (hg : w.grownBy w' (some gr)) : Ctx w' gr g ak nk ck K :=
  ⟨h.keys.keptG hg h.apart, cell_grown h.cell hg h.ne, h.ne, h.apart⟩

def clV (g : Nat) : Value := .func (.func 43) #[] #[.pointer (some ⟨g, 0, none⟩)]

set_option maxRecDepth 100000 in
set_option maxHeartbeats 4000000 in
theorem mergeP_any (gr i n cS NR cR base g : Nat) (R : List Nat) (aA aC : Option Addr) (nA cA nC cC : Nat) (A C : List Nat) (ak : Option Addr) (nk ck : Nat) (K : List KeyV) (w : World)
    (hR : Own1 N 3 w base (.slice (some ⟨gr, 0, none⟩) NR cR) R) (hin : i + n ≤ NR) (hA : At1 N w aA nA cA A) (hC : At1 N w aC nC cC C) (hAn : NotInG aA gr) (hCn : NotInG aC gr) (hnn : nA + nC = n) (hn : NR ≤ 1000000000)
    (hX : Ctx w gr g ak nk ck K) (hbA : ∀ x ∈ A, x < nk) (hbC : ∀ x ∈ C, x < nk) (hlt : ∀ x ∈ A, ∀ y ∈ C, x < y) :
    Calls Try.prog 47 #[.slice (some ⟨gr, i, none⟩) n cS, .slice aA nA cA, .slice aC nC cC, clV g] w
      fun e w' => e = .returned (.tuple #[]) ∧ w.grownBy w' (some gr) ∧ Own1 N 3 w' base (.slice (some ⟨gr, 0, none⟩) NR cR) (fillG R (mrgG (plB K) A C) i n) := by
  obtain ⟨M, hM⟩ : ∃ M, M = mrgG (plB K) A C := ⟨_, rfl⟩
  have hMl : M.length = n := by rw [hM, mrgG_length, hA.1, hC.1]; exact hnn
  rw [← hM]
  have hRl := hR.len
  have HR := Lib.hid hR
  have HRL := Lib.hid hRl
  have HIN := Lib.hid (show i + M.length ≤ R.length by omega)
  have HML := Lib.hid hMl
  have HINN := Lib.hid hin
  have hnI : (n : Int) ≤ 1000000000 := by omega
  have HA := Lib.hid hA
  have HC := Lib.hid hC
  have HAN := Lib.hid hAn
  have HCN := Lib.hid hCn
  have HM := Lib.hid (show M.drop 0 = mrgG (plB K) A C by rw [List.drop_zero]; exact hM)
  have HNN := Lib.hid hnn
  have HX := Lib.hid hX
  have HBA := Lib.hid hbA
  have HBC := Lib.hid hbC
  have HLT := Lib.hid hlt
  clear hR hin hA hC hAn hCn hnn hn hM hMl hX hbA hbC hlt hRl
  unfold clV
  go_enter Try.func47, Try.ntmps47
  go_wp2
  go_loopg [1, 2, 11] n (fun g_ v1 v2 v11 W => ∃ (j : Nat) (A' C' : List Nat) (a1 a2 : Option Addr) (n1 c1 n2 c2 : Nat), v1 = .slice a1 n1 c1 ∧ v2 = .slice a2 n2 c2 ∧ v11 = .int .i64 j ∧ g_ + j = n ∧ n1 + n2 = g_ ∧ Hid (w.grownBy W (some gr)) ∧ Hid (Own1 N 3 W base (.slice (some ⟨gr, 0, none⟩) NR cR) (fillG R M i j)) ∧ Hid (At1 N W a1 n1 c1 A') ∧ Hid (At1 N W a2 n2 c2 C') ∧ Hid (NotInG a1 gr) ∧ Hid (NotInG a2 gr) ∧ Hid (M.drop j = mrgG (plB K) A' C') ∧ Hid ((∀ x ∈ A', x ∈ A) ∧ ∀ y ∈ C', y ∈ C))
  case atStart => exact ⟨0, A, C, aA, aC, nA, cA, nC, cC, rfl, rfl, rfl, rfl, HNN.out, Lib.hid ⟨rfl, rfl, rfl, Nat.le_refl _, fun _ _ _ => rfl⟩, Lib.hid (by rw [fillG_zero]; exact HR.out), HA, HC, HAN, HCN, HM, Lib.hid ⟨fun _ h => h, fun _ h => h⟩⟩
  case round =>
    obtain ⟨j, A', C', a1, a2, n1, c1, n2, c2, rfl, rfl, rfl, hg, hng, hkw, hrow, hA', hC', hAn', hCn', hdrop, hsub⟩ := hrel
    have HG := Lib.hid hg
    have HNG := Lib.hid hng
    have h0 : (0 : Int) ≤ (j : Int) := by omega
    have h2 : (j : Int) ≤ (n : Int) := by omega
    by_cases hlt : (j : Int) < (n : Int)
    · have hjn : j < n := by omega
      have HJ := Lib.hid hjn
      clear hg hng
      by_cases hc0 : n2 = 0
      · subst hc0
        have hCe : C' = [] := List.length_eq_zero_iff.1 hC'.out.1
        subst hCe
        have hn1p : 0 < n1 := by have := HNG.out; have := HG.out; omega
        obtain ⟨x, T, rfl⟩ : ∃ x T, A' = x :: T := by
          cases A' with
          | nil => have := hA'.out.1; simp at this; omega
          | cons x T => exact ⟨x, T, rfl⟩
        have HD := Lib.hid (show M.drop j = x :: mrgG (plB K) T [] by rw [hdrop.out]; exact mrgG_left (.inl rfl))
        obtain ⟨ba, oa, rfl⟩ := hA'.out.some_ hn1p
        have HNP := Lib.hid (show 1 ≤ n1 from hn1p)
        go_wp2
        go_quiet (fail)
        have HKD := Lib.hid (hkw.out.trans (grown_below (belowG wr nq) (some gr)))
        have HRD := Lib.hid (hrow.out.drewG nq)
        have HAD := Lib.hid (hA'.out.below (belowG wr nq))
        have HCD := Lib.hid (hC'.out.below (belowG wr nq))
        clear hkw hrow hA' hC'
        generalize wr.drewN nq = wq at HKD HRD HAD HCD ⊢
        have hcx := HAD.out.cell 0 (by have := HNP.out; omega)
        rw [Nat.add_zero] at hcx
        have hcx' : wq.cell? ⟨ba, oa, none⟩ = some (.int .i64 (x : Int)) := hcx
        have HLN := Lib.hid (show (fillG R M i j).length = NR by rw [fillG_length HIN.out (by rw [HML.out]; exact Nat.le_of_lt HJ.out)]; exact HRL.out)
        have hfz := own_frozenN HRD.out (show 0 < NR by have := HINN.out; have := HJ.out; omega) (i + j)
        have hce := HRD.out.at1.cell (i + j) (by have := HINN.out; have := HJ.out; omega)
        rw [Nat.zero_add] at hce
        obtain ⟨old, hold⟩ : ∃ old, old = (fillG R M i j).getD (i + j) 0 := ⟨_, rfl⟩
        have hce' : wq.cell? ⟨gr, i + j, none⟩ = some (.int .i64 (old : Int)) := by rw [hold]; exact hce
        have hjn2 : j < n := HJ.out
        have hn1 : (1 : Int) ≤ (n1 : Int) := by have := HNP.out; omega
        have hn1' : 1 ≤ n1 := by omega
        have hnc : n1 ≤ c1 := HAD.out.2.1
        have hcc : (c1 : Int) ≤ 9223372036854775807 := by have := HAD.out.2.2.1; omega
        have HN1 := Lib.hid hn1'
        have HKS := Lib.hid (show wq.grownBy (wq.setCell ⟨gr, i + j, none⟩ (.int .i64 (x : Int))).drew (some gr) from (grown_set wq gr (i + j) _).trans (grown_below (belowG _ 1) (some gr)))
        have HRS := Lib.hid (show Own1 N 3 (wq.setCell ⟨gr, i + j, none⟩ (.int .i64 (x : Int))).drew base (.slice (some ⟨gr, 0, none⟩) NR cR) (fillG R M i (j + 1)) by
          have h1 := (HRD.out.store HLN.out (i + j) x).drewG 1
          rw [fillG_step HIN.out (by rw [HML.out]; exact HJ.out) HD.out] at h1
          exact h1)
        have HOT := Lib.hid (HCD.out.keptG HKS.out hCn'.out)
        have HKK := Lib.hid (HKD.out.trans HKS.out)
        have HDN := Lib.hid (drop_nextG HD.out)
        have HSB := Lib.hid (show (∀ u ∈ T, u ∈ A) ∧ ∀ u ∈ [], u ∈ C from ⟨fun u hu => hsub.out.1 u (List.mem_cons_of_mem _ hu), hsub.out.2⟩)
        clear hcx hce hold hn1'
        by_cases hc1 : c1 = 1
        · subst hc1
          obtain ⟨hT, hn1e⟩ := HAD.out.lastG
          subst hT
          subst hn1e
          have HTE := Lib.hid (show At1 N (wq.setCell ⟨gr, i + j, none⟩ (.int .i64 (x : Int))).drew (some ⟨ba, oa, none⟩) 0 0 [] from ⟨rfl, Nat.le_refl _, by omega, .inl ⟨rfl, rfl⟩⟩)
          go_wp2
          go_region
          go_wp2
          go_roundg (gk - 1)
          case measure => have := HG.out; have := HJ.out; omega
          case rel => exact ⟨j + 1, [], [], some ⟨ba, oa, none⟩, a2, 0, 0, 0, c2, rfl, rfl, by go_num, by have := HG.out; have := HJ.out; omega, by have := HG.out; have := HNG.out; have := HJ.out; omega, HKK, HRS, HTE, HOT, hAn', hCn', HDN, HSB⟩
        · have HTL := Lib.hid ((HAD.out.tailG hc1).keptG HKS.out (fun b' off' hh => by cases hh; exact hAn'.out _ _ rfl))
          have HNW := Lib.hid (show NotInG (some ⟨ba, oa + 1, none⟩) gr from fun b' off' hh => by cases hh; exact hAn'.out _ _ rfl)
          have hcf1 : (c1 = 1) = False := by simp [hc1]
          go_wp2
          go_region
          go_wp2
          go_roundg (gk - 1)
          case measure => have := HG.out; have := HJ.out; omega
          case rel => exact ⟨j + 1, T, [], some ⟨ba, oa + 1, none⟩, a2, n1 - 1, c1 - 1, 0, c2, rfl, rfl, by go_num, by have := HG.out; have := HJ.out; omega, by have := HG.out; have := HNG.out; have := HJ.out; have := HN1.out; omega, HKK, HRS, HTL, HOT, HNW, hCn', HDN, HSB⟩
      · have hn2p : 0 < n2 := by omega
        obtain ⟨y, U, rfl⟩ : ∃ y U, C' = y :: U := by
          cases C' with
          | nil => have := hC'.out.1; simp at this; omega
          | cons x T => exact ⟨x, T, rfl⟩
        have d2 : ((n2 : Int) == 0) = false := by simp; omega
        have d2' : (n2 == 0) = false := by simp; omega
        by_cases ha0 : n1 = 0
        · subst ha0
          have hAe : A' = [] := List.length_eq_zero_iff.1 hA'.out.1
          subst hAe
          obtain ⟨x, T, rfl, rfl⟩ : ∃ x T, x = y ∧ T = U := ⟨y, U, rfl, rfl⟩
          have HD := Lib.hid (show M.drop j = x :: mrgG (plB K) [] T by rw [hdrop.out]; exact mrgG_right (.inl rfl))
          obtain ⟨ba, oa, rfl⟩ := hC'.out.some_ hn2p
          have HNP := Lib.hid (show 1 ≤ n2 from hn2p)
          clear hc0
          go_wp2
          go_quiet (fail)
          have HKD := Lib.hid (hkw.out.trans (grown_below (belowG wr nq) (some gr)))
          have HRD := Lib.hid (hrow.out.drewG nq)
          have HAD := Lib.hid (hA'.out.below (belowG wr nq))
          have HCD := Lib.hid (hC'.out.below (belowG wr nq))
          clear hkw hrow hA' hC'
          generalize wr.drewN nq = wq at HKD HRD HAD HCD ⊢
          have hcx := HCD.out.cell 0 (by have := HNP.out; omega)
          rw [Nat.add_zero] at hcx
          have hcx' : wq.cell? ⟨ba, oa, none⟩ = some (.int .i64 (x : Int)) := hcx
          have HLN := Lib.hid (show (fillG R M i j).length = NR by rw [fillG_length HIN.out (by rw [HML.out]; exact Nat.le_of_lt HJ.out)]; exact HRL.out)
          have hfz := own_frozenN HRD.out (show 0 < NR by have := HINN.out; have := HJ.out; omega) (i + j)
          have hce := HRD.out.at1.cell (i + j) (by have := HINN.out; have := HJ.out; omega)
          rw [Nat.zero_add] at hce
          obtain ⟨old, hold⟩ : ∃ old, old = (fillG R M i j).getD (i + j) 0 := ⟨_, rfl⟩
          have hce' : wq.cell? ⟨gr, i + j, none⟩ = some (.int .i64 (old : Int)) := by rw [hold]; exact hce
          have hjn2 : j < n := HJ.out
          have hn1 : (1 : Int) ≤ (n2 : Int) := by have := HNP.out; omega
          have hn1' : 1 ≤ n2 := by omega
          have hnc : n2 ≤ c2 := HCD.out.2.1
          have hcc : (c2 : Int) ≤ 9223372036854775807 := by have := HCD.out.2.2.1; omega
          have HN1 := Lib.hid hn1'
          have HKS := Lib.hid (show wq.grownBy (wq.setCell ⟨gr, i + j, none⟩ (.int .i64 (x : Int))).drew (some gr) from (grown_set wq gr (i + j) _).trans (grown_below (belowG _ 1) (some gr)))
          have HRS := Lib.hid (show Own1 N 3 (wq.setCell ⟨gr, i + j, none⟩ (.int .i64 (x : Int))).drew base (.slice (some ⟨gr, 0, none⟩) NR cR) (fillG R M i (j + 1)) by
            have h1 := (HRD.out.store HLN.out (i + j) x).drewG 1
            rw [fillG_step HIN.out (by rw [HML.out]; exact HJ.out) HD.out] at h1
            exact h1)
          have HOT := Lib.hid (HAD.out.keptG HKS.out hAn'.out)
          have HKK := Lib.hid (HKD.out.trans HKS.out)
          have HDN := Lib.hid (drop_nextG HD.out)
          have HSB := Lib.hid (show (∀ u ∈ [], u ∈ A) ∧ ∀ u ∈ T, u ∈ C from ⟨hsub.out.1, fun u hu => hsub.out.2 u (List.mem_cons_of_mem _ hu)⟩)
          clear hcx hce hold hn1'
          by_cases hc1 : c2 = 1
          · subst hc1
            obtain ⟨hT, hn1e⟩ := HCD.out.lastG
            subst hT
            subst hn1e
            have HTE := Lib.hid (show At1 N (wq.setCell ⟨gr, i + j, none⟩ (.int .i64 (x : Int))).drew (some ⟨ba, oa, none⟩) 0 0 [] from ⟨rfl, Nat.le_refl _, by omega, .inl ⟨rfl, rfl⟩⟩)
            go_wp2
            go_region
            go_wp2
            go_roundg (gk - 1)
            case measure => have := HG.out; have := HJ.out; omega
            case rel => exact ⟨j + 1, [], [], a1, some ⟨ba, oa, none⟩, 0, c1, 0, 0, rfl, rfl, by go_num, by have := HG.out; have := HJ.out; omega, by have := HG.out; have := HNG.out; have := HJ.out; omega, HKK, HRS, HOT, HTE, hAn', hCn', HDN, HSB⟩
          · have HTL := Lib.hid ((HCD.out.tailG hc1).keptG HKS.out (fun b' off' hh => by cases hh; exact hCn'.out _ _ rfl))
            have HNW := Lib.hid (show NotInG (some ⟨ba, oa + 1, none⟩) gr from fun b' off' hh => by cases hh; exact hCn'.out _ _ rfl)
            have hcf1 : (c2 = 1) = False := by simp [hc1]
            go_wp2
            go_region
            go_wp2
            go_roundg (gk - 1)
            case measure => have := HG.out; have := HJ.out; omega
            case rel => exact ⟨j + 1, [], T, a1, some ⟨ba, oa + 1, none⟩, 0, c1, n2 - 1, c2 - 1, rfl, rfl, by go_num, by have := HG.out; have := HJ.out; omega, by have := HG.out; have := HNG.out; have := HJ.out; have := HN1.out; omega, HKK, HRS, HOT, HTL, hAn', HNW, HDN, HSB⟩
        · have hn1p : 0 < n1 := by omega
          obtain ⟨x1, T1, rfl⟩ : ∃ x T, A' = x :: T := by
            cases A' with
            | nil => have := hA'.out.1; simp at this; omega
            | cons x T => exact ⟨x, T, rfl⟩
          have i1 : (0 : Int) < (n1 : Int) := by omega
          obtain ⟨b1, o1, rfl⟩ := hA'.out.some_ hn1p
          obtain ⟨b2, o2, rfl⟩ := hC'.out.some_ hn2p
          have hcx : wr.drew.cell? ⟨b1, o1, none⟩ = some (.int .i64 (x1 : Int)) := hA'.out.cell 0 hn1p
          have hcy : wr.drew.cell? ⟨b2, o2, none⟩ = some (.int .i64 (y : Int)) := hC'.out.cell 0 hn2p
          have hxA := hsub.out.1 x1 (List.mem_cons_self ..)
          have hyC := hsub.out.2 y (List.mem_cons_self ..)
          have HXY := Lib.hid (plB_lt K (HLT.out x1 hxA y hyC))
          obtain ⟨z, hz⟩ : ∃ z, keyF (kOf K x1) (kOf K y) = z := ⟨_, rfl⟩
          rw [hz] at HXY
          have HCX := Lib.hid (HX.out.kept hkw.out)
          have HCM := Lib.hid (fun W (hb : Below wr.heap.size wr W) => placed_any x1 y g ak nk ck K W ((HCX.out.kept (grown_below hb (some gr))).keys) (HBA.out x1 hxA) (HBC.out y hyC) (HCX.out.kept (grown_below hb (some gr))).cell)
          rw [hz] at HCM
          have HNP1 := Lib.hid hn1p
          have HNP2 := Lib.hid hn2p
          clear hxA hyC hz ha0 hc0
          go_wp2
          refine wp_region_still_tail 15 (by kernel_rfl) (by kernel_rfl) ?_
          simp only [List.take_succ_cons, List.take_zero, List.drop_succ_cons, List.drop_zero]
          repeat still_step
          refine wpStill_nil ?_
          change wpList _ _ _ _ _ wr.drew
          have HKD0 := Lib.hid (hkw.out.trans (grown_below (belowG wr 1) (some gr)))
          have HRD0 := Lib.hid (hrow.out.drewG 1)
          have HAD0 := Lib.hid (hA'.out.below (belowG wr 1))
          have HCD0 := Lib.hid (hC'.out.below (belowG wr 1))
          have HBD0 := Lib.hid (show Below wr.heap.size wr wr.drew from belowG wr 1)
          clear hkw hrow hA' hC' hcx hcy
          by_cases hc : z ≤ 0
          · go_wp2_with (go_at_call 43; (with_reducible refine (HCM.out _ HBD0.out).mono ?_); rintro e wq ⟨rfl, hb3⟩)
            have HKD := Lib.hid (HKD0.out.trans (grown_below hb3 (some gr)))
            have HRD := Lib.hid (HRD0.out.below hb3)
            have HAD := Lib.hid (HAD0.out.below hb3)
            have HCD := Lib.hid (HCD0.out.below hb3)
            obtain ⟨x, T, ba, oa, rfl, rfl, rfl, rfl⟩ : ∃ x T ba oa, x = x1 ∧ T = T1 ∧ ba = b1 ∧ oa = o1 := ⟨_, _, _, _, rfl, rfl, rfl, rfl⟩
            have HNP := Lib.hid (show 1 ≤ n1 from HNP1.out)
            have HD := Lib.hid (show M.drop j = x :: mrgG (plB K) T (y :: U) by rw [hdrop.out]; exact mrgG_left (.inr ⟨y, U, rfl, by rw [HXY.out]; exact decide_eq_true hc⟩))
            clear hc hb3
            have hcx := HAD.out.cell 0 (by have := HNP.out; omega)
            rw [Nat.add_zero] at hcx
            have hcx' : wq.cell? ⟨ba, oa, none⟩ = some (.int .i64 (x : Int)) := hcx
            have HLN := Lib.hid (show (fillG R M i j).length = NR by rw [fillG_length HIN.out (by rw [HML.out]; exact Nat.le_of_lt HJ.out)]; exact HRL.out)
            have hfz := own_frozenN HRD.out (show 0 < NR by have := HINN.out; have := HJ.out; omega) (i + j)
            have hce := HRD.out.at1.cell (i + j) (by have := HINN.out; have := HJ.out; omega)
            rw [Nat.zero_add] at hce
            obtain ⟨old, hold⟩ : ∃ old, old = (fillG R M i j).getD (i + j) 0 := ⟨_, rfl⟩
            have hce' : wq.cell? ⟨gr, i + j, none⟩ = some (.int .i64 (old : Int)) := by rw [hold]; exact hce
            have hjn2 : j < n := HJ.out
            have hn1 : (1 : Int) ≤ (n1 : Int) := by have := HNP.out; omega
            have hn1' : 1 ≤ n1 := by omega
            have hnc : n1 ≤ c1 := HAD.out.2.1
            have hcc : (c1 : Int) ≤ 9223372036854775807 := by have := HAD.out.2.2.1; omega
            have HN1 := Lib.hid hn1'
            have HKS := Lib.hid (show wq.grownBy (wq.setCell ⟨gr, i + j, none⟩ (.int .i64 (x : Int))).drew (some gr) from (grown_set wq gr (i + j) _).trans (grown_below (belowG _ 1) (some gr)))
            have HRS := Lib.hid (show Own1 N 3 (wq.setCell ⟨gr, i + j, none⟩ (.int .i64 (x : Int))).drew base (.slice (some ⟨gr, 0, none⟩) NR cR) (fillG R M i (j + 1)) by
              have h1 := (HRD.out.store HLN.out (i + j) x).drewG 1
              rw [fillG_step HIN.out (by rw [HML.out]; exact HJ.out) HD.out] at h1
              exact h1)
            have HOT := Lib.hid (HCD.out.keptG HKS.out hCn'.out)
            have HKK := Lib.hid (HKD.out.trans HKS.out)
            have HDN := Lib.hid (drop_nextG HD.out)
            have HSB := Lib.hid (show (∀ u ∈ T, u ∈ A) ∧ ∀ u ∈ (y :: U), u ∈ C from ⟨fun u hu => hsub.out.1 u (List.mem_cons_of_mem _ hu), hsub.out.2⟩)
            clear hcx hce hold hn1'
            by_cases hc1 : c1 = 1
            · subst hc1
              obtain ⟨hT, hn1e⟩ := HAD.out.lastG
              subst hT
              subst hn1e
              have HTE := Lib.hid (show At1 N (wq.setCell ⟨gr, i + j, none⟩ (.int .i64 (x : Int))).drew (some ⟨ba, oa, none⟩) 0 0 [] from ⟨rfl, Nat.le_refl _, by omega, .inl ⟨rfl, rfl⟩⟩)
              go_wp2
              go_region
              go_wp2
              go_roundg (gk - 1)
              case measure => have := HG.out; have := HJ.out; omega
              case rel => exact ⟨j + 1, [], (y :: U), some ⟨ba, oa, none⟩, some ⟨b2, o2, none⟩, 0, 0, n2, c2, rfl, rfl, by go_num, by have := HG.out; have := HJ.out; omega, by have := HG.out; have := HNG.out; have := HJ.out; omega, HKK, HRS, HTE, HOT, hAn', hCn', HDN, HSB⟩
            · have HTL := Lib.hid ((HAD.out.tailG hc1).keptG HKS.out (fun b' off' hh => by cases hh; exact hAn'.out _ _ rfl))
              have HNW := Lib.hid (show NotInG (some ⟨ba, oa + 1, none⟩) gr from fun b' off' hh => by cases hh; exact hAn'.out _ _ rfl)
              have hcf1 : (c1 = 1) = False := by simp [hc1]
              go_wp2
              go_region
              go_wp2
              go_roundg (gk - 1)
              case measure => have := HG.out; have := HJ.out; omega
              case rel => exact ⟨j + 1, T, (y :: U), some ⟨ba, oa + 1, none⟩, some ⟨b2, o2, none⟩, n1 - 1, c1 - 1, n2, c2, rfl, rfl, by go_num, by have := HG.out; have := HJ.out; omega, by have := HG.out; have := HNG.out; have := HJ.out; have := HN1.out; omega, HKK, HRS, HTL, HOT, HNW, hCn', HDN, HSB⟩
          · have hcf : decide (z ≤ 0) = false := decide_eq_false hc
            go_wp2_with (go_at_call 43; (with_reducible refine (HCM.out _ HBD0.out).mono ?_); rintro e wq ⟨rfl, hb3⟩)
            have HKD := Lib.hid (HKD0.out.trans (grown_below hb3 (some gr)))
            have HRD := Lib.hid (HRD0.out.below hb3)
            have HAD := Lib.hid (HAD0.out.below hb3)
            have HCD := Lib.hid (HCD0.out.below hb3)
            obtain ⟨x, T, ba, oa, rfl, rfl, rfl, rfl⟩ : ∃ x T ba oa, x = y ∧ T = U ∧ ba = b2 ∧ oa = o2 := ⟨_, _, _, _, rfl, rfl, rfl, rfl⟩
            have HNP := Lib.hid (show 1 ≤ n2 from HNP2.out)
            have HD := Lib.hid (show M.drop j = x :: mrgG (plB K) (x1 :: T1) T by rw [hdrop.out]; exact mrgG_right (.inr ⟨x1, T1, rfl, by rw [HXY.out]; exact hcf⟩))
            clear hc hcf hb3
            have hcx := HCD.out.cell 0 (by have := HNP.out; omega)
            rw [Nat.add_zero] at hcx
            have hcx' : wq.cell? ⟨ba, oa, none⟩ = some (.int .i64 (x : Int)) := hcx
            have HLN := Lib.hid (show (fillG R M i j).length = NR by rw [fillG_length HIN.out (by rw [HML.out]; exact Nat.le_of_lt HJ.out)]; exact HRL.out)
            have hfz := own_frozenN HRD.out (show 0 < NR by have := HINN.out; have := HJ.out; omega) (i + j)
            have hce := HRD.out.at1.cell (i + j) (by have := HINN.out; have := HJ.out; omega)
            rw [Nat.zero_add] at hce
            obtain ⟨old, hold⟩ : ∃ old, old = (fillG R M i j).getD (i + j) 0 := ⟨_, rfl⟩
            have hce' : wq.cell? ⟨gr, i + j, none⟩ = some (.int .i64 (old : Int)) := by rw [hold]; exact hce
            have hjn2 : j < n := HJ.out
            have hn1 : (1 : Int) ≤ (n2 : Int) := by have := HNP.out; omega
            have hn1' : 1 ≤ n2 := by omega
            have hnc : n2 ≤ c2 := HCD.out.2.1
            have hcc : (c2 : Int) ≤ 9223372036854775807 := by have := HCD.out.2.2.1; omega
            have HN1 := Lib.hid hn1'
            have HKS := Lib.hid (show wq.grownBy (wq.setCell ⟨gr, i + j, none⟩ (.int .i64 (x : Int))).drew (some gr) from (grown_set wq gr (i + j) _).trans (grown_below (belowG _ 1) (some gr)))
            have HRS := Lib.hid (show Own1 N 3 (wq.setCell ⟨gr, i + j, none⟩ (.int .i64 (x : Int))).drew base (.slice (some ⟨gr, 0, none⟩) NR cR) (fillG R M i (j + 1)) by
              have h1 := (HRD.out.store HLN.out (i + j) x).drewG 1
              rw [fillG_step HIN.out (by rw [HML.out]; exact HJ.out) HD.out] at h1
              exact h1)
            have HOT := Lib.hid (HAD.out.keptG HKS.out hAn'.out)
            have HKK := Lib.hid (HKD.out.trans HKS.out)
            have HDN := Lib.hid (drop_nextG HD.out)
            have HSB := Lib.hid (show (∀ u ∈ (x1 :: T1), u ∈ A) ∧ ∀ u ∈ T, u ∈ C from ⟨hsub.out.1, fun u hu => hsub.out.2 u (List.mem_cons_of_mem _ hu)⟩)
            clear hcx hce hold hn1'
            by_cases hc1 : c2 = 1
            · subst hc1
              obtain ⟨hT, hn1e⟩ := HCD.out.lastG
              subst hT
              subst hn1e
              have HTE := Lib.hid (show At1 N (wq.setCell ⟨gr, i + j, none⟩ (.int .i64 (x : Int))).drew (some ⟨ba, oa, none⟩) 0 0 [] from ⟨rfl, Nat.le_refl _, by omega, .inl ⟨rfl, rfl⟩⟩)
              go_wp2
              go_region
              go_wp2
              go_roundg (gk - 1)
              case measure => have := HG.out; have := HJ.out; omega
              case rel => exact ⟨j + 1, (x1 :: T1), [], some ⟨b1, o1, none⟩, some ⟨ba, oa, none⟩, n1, c1, 0, 0, rfl, rfl, by go_num, by have := HG.out; have := HJ.out; omega, by have := HG.out; have := HNG.out; have := HJ.out; omega, HKK, HRS, HOT, HTE, hAn', hCn', HDN, HSB⟩
            · have HTL := Lib.hid ((HCD.out.tailG hc1).keptG HKS.out (fun b' off' hh => by cases hh; exact hCn'.out _ _ rfl))
              have HNW := Lib.hid (show NotInG (some ⟨ba, oa + 1, none⟩) gr from fun b' off' hh => by cases hh; exact hCn'.out _ _ rfl)
              have hcf1 : (c2 = 1) = False := by simp [hc1]
              go_wp2
              go_region
              go_wp2
              go_roundg (gk - 1)
              case measure => have := HG.out; have := HJ.out; omega
              case rel => exact ⟨j + 1, (x1 :: T1), T, some ⟨b1, o1, none⟩, some ⟨ba, oa + 1, none⟩, n1, c1, n2 - 1, c2 - 1, rfl, rfl, by go_num, by have := HG.out; have := HJ.out; omega, by have := HG.out; have := HNG.out; have := HJ.out; have := HN1.out; omega, HKK, HRS, HOT, HTL, hAn', HNW, HDN, HSB⟩
    · have hjn : j = n := by omega
      subst hjn
      clear hg hng
      go_wp2
      go_end0
      exact ⟨rfl, hkw.out, hrow.out⟩
#print axioms mergeP_any
end Go.Proofs.Ytmenhbdapikpeaa
