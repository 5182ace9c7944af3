/-
  The walks of part, Minus and Both.
-/
import Derived.Test.YtkhcoefcifaaeaaDoorGrp18
import Derived.Test.YtkhcoefcifaaeaaDoorGrp2
namespace Go.Proofs.YtkhcoefcifaaeaaDoor
open Go.RowKit

/-! ### Two sets side by side, plainly -/
structure Past (A B : List (List UInt8)) (j p : Nat) : Prop where
  le : p ≤ B.length
  lt : ∀ i, i < p → ∀ m, j ≤ m → m < A.length → cmpF (B.getD i []) (A.getD m []) < 0
theorem Past.zero (A B : List (List UInt8)) : Past A B 0 0 := ⟨Nat.zero_le _, fun i hi => by omega⟩
theorem Past.next {A B : List (List UInt8)} {j p : Nat} (h : Past A B j p) : Past A B (j + 1) p := ⟨h.le, fun i hi m hm => h.lt i hi m (by omega)⟩
theorem Past.step {A B : List (List UInt8)} {j p : Nat} (hs : SetF A) (h : Past A B j p) (hp : p < B.length) (hc : cmpF (B.getD p []) (A.getD j []) < 0) : Past A B j (p + 1) := by
  refine ⟨by omega, fun i hi m hm1 hm2 => ?_⟩
  rcases Nat.lt_or_ge i p with h1 | h1
  · exact h.lt i h1 m hm1 hm2
  · obtain rfl : i = p := by omega
    rcases Nat.lt_or_ge j m with h2 | h2
    · exact cmpF_lt_le_trans hc (up_at hs.up h2 hm2)
    · obtain rfl : m = j := by omega
      exact hc
theorem Past.mem {A B : List (List UInt8)} {j p : Nat} (hs : SetF B) (h : Past A B j p) (hj : j < A.length) (hc : p < B.length → 0 ≤ cmpF (B.getD p []) (A.getD j [])) : A.getD j [] ∈ B ↔ p < B.length ∧ B.getD p [] = A.getD j [] := by
  have e : p = aheadF B (A.getD j []) := aheadF_of h.le (fun i hi => h.lt i hi j (Nat.le_refl _) hj) hc
  rw [mem_at hs, ← e]

theorem inF_set {l : List (List UInt8)} (h : SetF l) (b : List (List UInt8)) (t : Bool) : SetF (inF b t l) := h.sublist List.filter_sublist
theorem inF_setF (l b : List (List UInt8)) (t : Bool) : inF b t (setF l) = setF (inF b t l) :=
  setF_of (inF_set (setF_set l) b t) (fun x => by rw [inF_mem, inF_mem, setF_mem])
theorem inF_congr {b c : List (List UInt8)} (h : ∀ x, x ∈ b ↔ x ∈ c) (t : Bool) (l : List (List UInt8)) : inF b t l = inF c t l := by
  unfold inF
  congr 1
  funext x
  rw [decide_eq_decide.2 (h x)]

/-- An append, its result written out, and where it lies. -/
theorem app_told {w : World} {ops : Array Oper} {rest : List Oper} {o : Oper} {a : Act} {Q : Exit → Act → World → Prop} (hgd : o.guard = none) (s x : Operand)
    (ho : o.op = .call { callee := .builtin .append, args := #[s, x], argTypes := #[39, 39] })
    (base : Nat) (v : Value) (l : List (List UInt8)) (hs : a.eval s = v) (hown : OwnI w base v l)
    (g : Nat) (y : List UInt8) (hx : a.eval x = .slice (some ⟨g, 0, none⟩) 1 1) (hsrc : IdAt w g y)
    (h48 : (l.length + 1) * 32 ≤ 140737488355328) (hbase : base ≤ w.heap.size) (r : Nat) (hr : r = l.length + 1)
    (h : ∀ a' c' w', OwnI w' base (.slice a' r c') (l ++ [y]) → w.grownBy w' v.ownBlock → Told w v (.slice a' r c') → wpList Tryd.prog ops Q rest (a.put o.dst (.slice a' r c')) w') : wpList Tryd.prog ops Q (o :: rest) a w := by
  obtain ⟨i0, hi, hz0, hz1, hz2⟩ := info_parts Tryd.infoI24
  have hrg := hsrc.range
  have e1 : flat [y] = y.map B := by simp [flat]
  obtain ⟨v', w', hrn, h5, h6, h7⟩ := run_append_tell (P := Tryd.prog) w base 39 o.type 24 i0 (.agg (idCells idZero)) 32 32 Tryd.underlying39 hi hz0 hz1 hz2 (idCells_size idZero_length) (by decide) v l.length (flat l) hown.1
    ⟨g, 0, none⟩ 1 1 (y.map B) (by simp [hsrc.1]) (fun j u hu => by rw [Addr.add_lit]; exact hrg j u hu) (fun u hu => by obtain ⟨b, _, rfl⟩ := List.mem_map.1 hu; rfl) (by unfold maxLen; omega) (by omega) hbase
  have hW : W32 (l ++ [y]) := fun z hz => by
    rcases List.mem_append.1 hz with hz | hz
    · exact hown.2 z hz
    · simp only [List.mem_singleton] at hz; subst hz; exact hsrc.1
  have hoI : OwnI w' base v' (l ++ [y]) := ⟨by rw [List.length_append, flat_append, e1]; exact h5, hW⟩
  obtain ⟨a', c', rfl, _⟩ := hoI.ids
  have e : (l ++ [y]).length = r := by simp [hr]
  rw [e] at hoI hrn h7
  exact Lib.wpList_append_run w hgd s x 39 39 ho _ _ hs hx _ _ hrn (h a' c' w' hoI h6 h7)

theorem Apart.nil (v : Value) : Apart (.slice none 0 0) v := fun k hk => by cases hk
theorem OwnI.kept {w w' : World} {base : Nat} {row : Option Nat} {v : Value} {L : List (List UInt8)} (h : OwnI w base v L) (hg : w.grownBy w' row) (hne : v.ownBlock = none ∨ v.ownBlock ≠ row) : OwnI w' base v L := ⟨World.ownsRow.kept h.1 hg hne, h.2⟩
theorem idAt_alloc {w : World} {g : Nat} {l : List UInt8} (h : IdAt w g l) (o : Obj) : IdAt (w.alloc o) g l := h.below ((Below.refl _ _).alloc (Nat.le_refl _) _)

set_option maxRecDepth 100000 in
set_option maxHeartbeats 4000000 in
theorem part_any (a : Option Addr) (n c : Nat) (l : List (List UInt8)) (b : Option Addr) (m d : Nat) (k : List (List UInt8)) (w : World) (ha : IdsAt w a n c l) (hb : IdsAt w b m d k) (hn : n ≤ 1000000) (hm : m ≤ 1000000) :
    Calls Tryd.prog 29 #[.slice a n c, .slice b m d] w fun e w' => ∃ a1 n1 c1 a2 n2 c2, e = .returned (.tuple #[.slice a1 n1 c1, .slice a2 n2 c2]) ∧ IdsAt w' a1 n1 c1 (inF k true (setF l)) ∧ IdsAt w' a2 n2 c2 (inF k false (setF l)) ∧ Below w.heap.size w w' := by
  obtain ⟨SA, hSA⟩ : ∃ SA, SA = setF l := ⟨_, rfl⟩
  obtain ⟨SB, hSB⟩ : ∃ SB, SB = setF k := ⟨_, rfl⟩
  obtain ⟨nA, hnA⟩ : ∃ nA, nA = SA.length := ⟨_, rfl⟩
  obtain ⟨nB, hnB⟩ : ∃ nB, nB = SB.length := ⟨_, rfl⟩
  have hlA : nA ≤ 1000000 := by have := setF_length_le l; rw [hnA, hSA]; have := ha.1; omega
  have hlB : nB ≤ 1000000 := by have := setF_length_le k; rw [hnB, hSB]; have := hb.1; omega
  have HA := Lib.hid ha
  have HB := Lib.hid hb
  have HSA := Lib.hid hSA
  have HSB := Lib.hid hSB
  have HNA := Lib.hid hnA
  have HNB := Lib.hid hnB
  have HUA := Lib.hid (show SetF SA by rw [hSA]; exact setF_set l)
  have HUB := Lib.hid (show SetF SB by rw [hSB]; exact setF_set k)
  have HMB := Lib.hid (show ∀ x, x ∈ SB ↔ x ∈ k by intro x; rw [hSB]; exact setF_mem k x)
  have HN := Lib.hid (show n ≤ 1000000000 by omega)
  have HM := Lib.hid (show m ≤ 1000000000 by omega)
  have hnI : (nA : Int) ≤ 1000000 := by omega
  have hn0 : (0 : Int) ≤ (nA : Int) := by omega
  have HLB := Lib.hid hlB
  clear ha hb hSA hSB hnA hnB hn hm hlA hlB
  go_enter Tryd.func29, Tryd.ntmps29
  go_wp2_with (first
    | (go_at_call 52; (refine (set_of b m d nB k SB w _ HB.out HM.out HSB.out HNB.out (Below.refl _ _)).mono ?_); rintro e w1 ⟨aB, cB, rfl, hiB, hb1⟩; have HIB := Lib.hid hiB; have HB1 := Lib.hid hb1; clear hiB hb1)
    | (go_at_call 52; (refine (set_of a n c nA l SA w1 w1 (HA.out.below HB1.out) HN.out HSA.out HNA.out (Below.refl _ _)).mono ?_); rintro e w2 ⟨aA, cA, rfl, hiA, hb2⟩; have HIA := Lib.hid hiA; have HB12 := Lib.hid hb2; have HB2 := Lib.hid (HB1.out.trans (hb2.mono HB1.out.size)); clear hiA hb2))
  have HBS := Lib.hid HB2.out.size
  have HIB2 := Lib.hid (HIB.out.below ((Below.refl _ _).trans (show Below w1.heap.size w1 w2 from HB12.out)))
  have HWB := Lib.hid HIB.out.2.2.2.1
  clear HIB
  have HO4 := Lib.hid (OwnI.nil w2 w2.heap.size)
  have HC0 := Lib.hid (show ([] : List (List UInt8)) = inF k true (SA.take 0) from rfl)
  have HD0 := Lib.hid (show ([] : List (List UInt8)) = inF k false (SA.take 0) from rfl)
  have HP0 := Lib.hid (Past.zero SA SB)
  have HAP := Lib.hid (Apart.nil (.slice none 0 0))
  go_loopg [4, 5, 6, 14] nA (fun g v4 v5 v6 v14 W => ∃ (j p : Nat) (a1 : Option Addr) (r1 c1 : Nat) (C : List (List UInt8)) (a2 : Option Addr) (r2 c2 : Nat) (D : List (List UInt8)) (aO : Option Addr) (nO cO : Nat), v4 = .slice a1 r1 c1 ∧ v5 = .slice a2 r2 c2 ∧ v6 = .slice aO nO cO ∧ v14 = .int .i64 j ∧ g + j = nA ∧ Below w2.heap.size w2 W ∧ Hid (OwnI W w2.heap.size (.slice a1 r1 c1) C) ∧ Hid (OwnI W w2.heap.size (.slice a2 r2 c2) D) ∧ Hid (Apart (.slice a1 r1 c1) (.slice a2 r2 c2)) ∧ Hid (C.length = r1 ∧ D.length = r2 ∧ r1 + r2 ≤ j) ∧ Hid (C = inF k true (SA.take j)) ∧ Hid (D = inF k false (SA.take j)) ∧ Hid (IdsAt w2 aO nO cO (SB.drop p)) ∧ Hid (Past SA SB j p))
  case atStart => exact ⟨0, 0, none, 0, 0, [], none, 0, 0, [], aB, nB, cB, rfl, rfl, rfl, rfl, rfl, Below.refl _ _, HO4, HO4, HAP, Lib.hid ⟨rfl, rfl, Nat.le_refl _⟩, HC0, HD0, HIB2, HP0⟩
  case round =>
    clear HO4 HC0 HD0 HP0 HAP HIB2
    obtain ⟨j, p, a1, r1, c1, C, a2, r2, c2, D, aO, nO, cO, rfl, rfl, rfl, rfl, hg, hbw, HO4, HO5, HAP, HRS, HC, HD, HIO, HPA⟩ := hrel
    obtain ⟨wo, rfl⟩ : ∃ wo : World, wo = wr := ⟨_, rfl⟩
    have HG := Lib.hid hg
    have hj0 : (0 : Int) ≤ (j : Int) := by omega
    have hjI : (j : Int) ≤ (nA : Int) := by omega
    by_cases hj : (j : Int) < (nA : Int)
    · obtain ⟨ba, oa, rfl⟩ := HIA.out.some_ (by omega)
      obtain ⟨x, hx⟩ : ∃ x, x = SA.getD j [] := ⟨_, rfl⟩
      have HXE := Lib.hid hx
      have HX := Lib.hid (show x.length = 32 by rw [hx]; exact getD_32 HIA.out.2.2.2.1 (by rw [← HNA.out]; omega))
      have HCA := Lib.hid (show wo.rangeAt ba (oa + j * 32) (x.map B) by have := (HIA.out.below hbw).at_ j (by omega); rwa [← hx] at this)
      have HIN := Lib.hid (show j < nA by omega)
      have HBS2 := Lib.hid hbw.size
      clear hg hx
      go_wp2_with (first
        | ((with_reducible show wpList _ _ _ (⟨some 17, _, _, _, _, _⟩ :: _) _ _); refine wl_load (wanted_plain rfl) _ rfl ba (oa + j * 32) x HX.out rfl HCA.out ?_)
        | ((with_reducible show wpList _ _ _ (⟨some 8, _, _, _, _, _⟩ :: _) _ _); refine alloc_id rfl rfl ?_; intro w3 hid3 hb3 hsz3; have HID3 := Lib.hid hid3; have HB3 := Lib.hid hb3; have HSZ3 := Lib.hid hsz3; clear hid3 hb3 hsz3)
        | ((with_reducible show wpList _ _ _ (⟨none, .store 24 _ _, _, _, _, _⟩ :: _) _ _); refine store_id rfl (.tmp 8) (.tmp 17) rfl _ _ x rfl rfl HID3.out HX.out ?_; intro w4 hid4 hgr4 hsz4; have HX8 := Lib.hid hid4; have HB4 := Lib.hid (HB3.out.grown hgr4 HB3.out.size (fun k hk => by cases hk; exact Nat.le_refl _)); clear hid4 hgr4 hsz4))
      have HO4' := Lib.hid (HO4.out.below HB4.out)
      have HO5' := Lib.hid (HO5.out.below HB4.out)
      have HBW4 := Lib.hid (hbw.trans (HB4.out.mono HBS2.out))
      have HBS4 := Lib.hid HBW4.out.size
      have HJA := Lib.hid (show j < SA.length by rw [← HNA.out]; exact HIN.out)
      clear HO4 HO5 hbw HCA HB3 HSZ3 HB4
      go_frame
      go_loopg [6] nO (fun g' v6 W => ∃ (p : Nat) (aO : Option Addr) (nO cO : Nat), v6 = .slice aO nO cO ∧ Hid (g' = nO) ∧ Below w4.heap.size w4 W ∧ Hid (IdsAt w2 aO nO cO (SB.drop p)) ∧ Hid (Past SA SB j p))
      case atStart => exact ⟨p, aO, nO, cO, rfl, Lib.hid rfl, Below.refl _ _, HIO, HPA⟩
      case round =>
        clear HIO HPA
        obtain ⟨p, aO, nO, cO, rfl, HG2, hb, HIO, HPA⟩ := hrel
        have HBO := Lib.hid (HBW4.out.trans (hb.mono HBS4.out))
        have HPL := Lib.hid (show p + nO = SB.length by have h := HIO.out.1; have := HPA.out.le; rw [List.length_drop] at h; omega)
        have hcO : (cO : Int) ≤ 9223372036854775807 := by have := HIO.out.2.2.1; omega
        have hnc : nO ≤ cO := HIO.out.2.1
        by_cases hn0' : nO = 0
        · -- none is left
          subst hn0'
          have HQ := Lib.hid (show x ∉ k by
            intro hm
            have h := (HPA.out.mem HUB.out HJA.out (fun h => by have := HPL.out; omega)).1 (by rw [← HXE.out]; exact (HMB.out x).2 hm)
            have := HPL.out; omega)
          go_wp2
          go_quiet (fail)
          have hb5 := Go.below_drewN hb nq
          clear hb
          generalize wr.drewN nq = w5 at hb5 ⊢
          go_wp2
          go_quiet (fail)
          have hb6 := Go.below_drewN hb5 nq
          clear hb5
          generalize w5.drewN nq = w6 at hb6 ⊢
          have HBF := Lib.hid (HBW4.out.trans (hb6.mono HBS4.out))
          have HOM := Lib.hid ((HO5'.out.below hb6).alloc (.cells (idCells x) 24))
          have HOO := Lib.hid ((HO4'.out.below hb6).alloc (.cells (idCells x) 24))
          have HX9 := Lib.hid (HX8.out.below hb6)
          have HXN := Lib.hid (idAt_new w6 x HX.out)
          have HBA := Lib.hid (show w2.heap.size ≤ (w6.alloc (.cells (idCells x) 24)).heap.size by have := HBF.out.size; simp; omega)
          have H48 := Lib.hid (show (D.length + 1) * 32 ≤ 140737488355328 by have := HRS.out; have := HIN.out; omega)
          have HR1 := Lib.hid (show r2 + 1 = D.length + 1 by have := HRS.out; omega)
          clear hb6
          go_wp2_with (first
            | ((with_reducible show wpList _ _ _ (⟨some 46, _, _, _, _, _⟩ :: _) _ _); refine load_id rfl (.tmp 8) rfl _ x rfl HX9.out ?_)
            | ((with_reducible show wpList _ _ _ (⟨some 47, _, _, _, _, _⟩ :: _) _ _); refine wl_one rfl _ rfl x HX.out rfl ?_)
            | (at_builtin; go_must (refine app_told rfl (.tmp 45) (.tmp 47) rfl w2.heap.size _ D rfl HOM.out _ x rfl HXN.out H48.out HBA.out (r2 + 1) HR1.out ?_); intro a9 c9 w9 hown9 hgr9 htold9; have HO9 := Lib.hid hown9; have HGR := Lib.hid hgr9; have HTD := Lib.hid htold9; clear hown9 hgr9 htold9))
          have HBN := Lib.hid ((HBF.out.alloc HBF.out.size (.cells (idCells x) 24)).grown HGR.out HBA.out (fun k hk => (HOM.out.lt k hk).1))
          have HON := Lib.hid (HOO.out.kept HGR.out HAP.out.kept)
          have HAN := Lib.hid (HAP.out.told HTD.out (fun k hk => (HOO.out.lt k hk).2))
          have HNC := Lib.hid (show C = inF k true (SA.take (j + 1)) by rw [take_snoc HJA.out, ← HXE.out, inF_snoc, ← HC.out, if_neg (fun h => Bool.noConfusion (h.symm.trans (decide_eq_false HQ.out)))])
          have HND := Lib.hid (show D ++ [x] = inF k false (SA.take (j + 1)) by rw [take_snoc HJA.out, ← HXE.out, inF_snoc, ← HD.out, if_pos (decide_eq_false HQ.out)])
          have HRN := Lib.hid (show C.length = r1 ∧ (D ++ [x]).length = r2 + 1 ∧ r1 + (r2 + 1) ≤ j + 1 by have := HRS.out; simp only [List.length_append, List.length_cons, List.length_nil]; omega)
          go_roundg (nA - (j + 1))
          case measure => have := HG.out; have := HIN.out; omega
          case rel => exact ⟨j + 1, p, a1, r1, c1, C, a9, r2 + 1, c9, D ++ [x], aO, 0, cO, rfl, rfl, rfl, by go_num, by have := HIN.out; omega, HBN.out, HON, HO9, HAN, HRN, HNC, HND, HIO, Lib.hid HPA.out.next⟩
        · obtain ⟨bo, oo, rfl⟩ := HIO.out.some_ (by omega)
          obtain ⟨y, hy⟩ : ∃ y, y = SB.getD p [] := ⟨_, rfl⟩
          have HPB := Lib.hid (show p < SB.length by have := HPL.out; omega)
          have HDE := Lib.hid (show SB.drop p = y :: SB.drop (p + 1) by rw [hy]; exact drop_getD HPB.out)
          have HYE := Lib.hid hy
          have HY := Lib.hid (show y.length = 32 by rw [hy]; exact getD_32 HWB.out HPB.out)
          have HIO' := Lib.hid (show IdsAt w2 (some ⟨bo, oo, none⟩) nO cO (y :: SB.drop (p + 1)) by rw [← HDE.out]; exact HIO.out)
          have HCY := Lib.hid (show wr.drew.rangeAt bo oo (y.map B) by have := (HIO'.out.below HBO.out.drew).at_ 0 (by omega); rwa [Nat.zero_mul, Nat.add_zero] at this)
          have HXR := Lib.hid (show wr.drew.rangeAt wo.heap.size 0 (x.map B) from (HX8.out.below hb.drew).range)
          have hbd := hb.drew
          have n1 : (0 : Int) < (nO : Int) := by omega
          have n2 : 0 < nO := by omega
          have n3 : (1 : Int) ≤ (nO : Int) := by omega
          have n4 : 1 ≤ nO := by omega
          have HNP := Lib.hid n2
          clear hy hb HBO hn0'
          go_wp2
          refine wp_region_still_tail 8 (by kernel_rfl) (by kernel_rfl) ?_
          simp only [List.take_succ_cons, List.take_zero, List.drop_succ_cons, List.drop_zero]
          still_step
          still_step
          still_step
          still_step
          still_step
          still_step
          refine still_w (by rfl) (exec_loadId _ rfl _ _ _ HY.out rfl HCY.out) ?_
          simp only [Act.put, List.setIfInBounds_toArray, List.set_cons_zero, List.set_cons_succ]
          refine still_w (by rfl) (exec_loadId _ rfl _ _ _ HX.out rfl HXR.out) ?_
          simp only [Act.put, List.setIfInBounds_toArray, List.set_cons_zero, List.set_cons_succ]
          refine wpStill_nil ?_
          change wpList _ _ _ _ _ wr.drew
          generalize wr.drew = w5 at HCY HXR hbd ⊢
          obtain ⟨z, hz⟩ : ∃ z, z = cmpF y x := ⟨_, rfl⟩
          have HZ := Lib.hid hz
          have HCM := fun W => Lib.hid (cmp_is y x z W HY.out HX.out hz)
          clear hz
          by_cases hc : z < 0
          · have HPN := Lib.hid (HPA.out.step HUA.out HPB.out (by rw [← HYE.out, ← HXE.out, ← HZ.out]; exact hc))
            by_cases hc1 : cO = 1
            · have HE1 := Lib.hid (show nO - 1 = 0 by omega)
              have HIN1 := Lib.hid (show IdsAt w2 (some ⟨bo, oo, none⟩) 0 0 (SB.drop (p + 1)) by
                have h := HIO'.out.tail_
                rw [HE1.out] at h
                have e := h.empty
                rw [e]
                exact ⟨rfl, Nat.le_refl _, by omega, (fun _ h => by cases h), .inl ⟨rfl, rfl⟩⟩)
              subst hc1
              obtain rfl : nO = 1 := by omega
              go_wp2_with (go_at_call 53; go_must (refine (HCM _).out.mono ?_); rintro e w6 ⟨rfl, hb6⟩)
              go_roundg 0
              case measure => have := HG2.out; omega
              case rel => exact ⟨p + 1, some ⟨bo, oo, none⟩, 0, 0, rfl, Lib.hid rfl, hbd.trans (hb6.mono hbd.size), HIN1, HPN⟩
            · have hc2 : (cO = 1) = False := eq_false hc1
              have HIN1 := Lib.hid HIO'.out.tail_
              clear hc1
              go_wp2_with (go_at_call 53; go_must (refine (HCM _).out.mono ?_); rintro e w6 ⟨rfl, hb6⟩)
              go_roundg (nO - 1)
              case measure => have := HG2.out; have := HNP.out; omega
              case rel => exact ⟨p + 1, some ⟨bo, oo + 32, none⟩, nO - 1, cO - 1, rfl, Lib.hid rfl, hbd.trans (hb6.mono hbd.size), HIN1, HPN⟩
          · have hcf : decide (z < 0) = false := decide_eq_false hc
            have HMM := Lib.hid (show x ∈ k ↔ y = x by
              have h := HPA.out.mem HUB.out HJA.out (fun _ => by rw [← HYE.out, ← HXE.out, ← HZ.out]; omega)
              rw [← HXE.out, ← HYE.out, HMB.out] at h
              exact ⟨fun hm => (h.1 hm).2, fun he => h.2 ⟨HPB.out, he⟩⟩)
            clear hc
            go_wp2_with (go_at_call 53; go_must (refine (HCM _).out.mono ?_); rintro e w6 ⟨rfl, hb6⟩)
            have hb7 := (hbd.trans (hb6.mono hbd.size)).drew
            have HCY7 := Lib.hid (show w6.drew.rangeAt bo oo (y.map B) from rangeAt_below HCY.out hb6.drew)
            have HXR7 := Lib.hid (show w6.drew.rangeAt wo.heap.size 0 (x.map B) from rangeAt_below HXR.out hb6.drew)
            refine wp_region_still_lit (by kernel_rfl) (by kernel_rfl) ?_
            still_step
            still_step
            still_step
            still_step
            still_step
            still_step
            refine still_w (by rfl) (exec_loadId _ rfl _ _ _ HY.out rfl HCY7.out) ?_
            simp only [Act.put, List.setIfInBounds_toArray, List.set_cons_zero, List.set_cons_succ]
            refine still_w (by rfl) (exec_loadId _ rfl _ _ _ HX.out rfl HXR7.out) ?_
            simp only [Act.put, List.setIfInBounds_toArray, List.set_cons_zero, List.set_cons_succ]
            refine still_w (by rfl) (exec_eqlId _ _ _ rfl _ _ HY.out HX.out rfl rfl) ?_
            simp only [Act.put, List.setIfInBounds_toArray, List.set_cons_zero, List.set_cons_succ]
            still_step
            refine wpStill_nil ?_
            change Exit.then _ _ _ _ w6.drew
            clear HCY7 HXR7
            generalize w6.drew = w7 at hb7 ⊢
            by_cases he : y = x
            · have HQ := Lib.hid (HMM.out.2 he)
              rw [decide_eq_true he]
              clear he
              have HBF := Lib.hid (HBW4.out.trans (hb7.mono HBS4.out))
              have HOM := Lib.hid ((HO4'.out.below hb7).alloc (.cells (idCells x) 24))
              have HOO := Lib.hid ((HO5'.out.below hb7).alloc (.cells (idCells x) 24))
              have HX9 := Lib.hid (HX8.out.below hb7)
              have HXN := Lib.hid (idAt_new w7 x HX.out)
              have HBA := Lib.hid (show w2.heap.size ≤ (w7.alloc (.cells (idCells x) 24)).heap.size by have := HBF.out.size; simp; omega)
              have H48 := Lib.hid (show (C.length + 1) * 32 ≤ 140737488355328 by have := HRS.out; have := HIN.out; omega)
              have HR1 := Lib.hid (show r1 + 1 = C.length + 1 by have := HRS.out; omega)
              clear hb7
              go_wp2_with (first
                | ((with_reducible show wpList _ _ _ (⟨some 42, _, _, _, _, _⟩ :: _) _ _); refine load_id rfl (.tmp 8) rfl _ x rfl HX9.out ?_)
                | ((with_reducible show wpList _ _ _ (⟨some 43, _, _, _, _, _⟩ :: _) _ _); refine wl_one rfl _ rfl x HX.out rfl ?_)
                | (at_builtin; go_must (refine app_told rfl (.tmp 41) (.tmp 43) rfl w2.heap.size _ C rfl HOM.out _ x rfl HXN.out H48.out HBA.out (r1 + 1) HR1.out ?_); intro a9 c9 w9 hown9 hgr9 htold9; have HO9 := Lib.hid hown9; have HGR := Lib.hid hgr9; have HTD := Lib.hid htold9; clear hown9 hgr9 htold9))
              have HBN := Lib.hid ((HBF.out.alloc HBF.out.size (.cells (idCells x) 24)).grown HGR.out HBA.out (fun k hk => (HOM.out.lt k hk).1))
              have HON := Lib.hid (HOO.out.kept HGR.out HAP.out.symm.kept)
              have HAN := Lib.hid ((HAP.out.symm.told HTD.out (fun k hk => (HOO.out.lt k hk).2)).symm)
              have HNC := Lib.hid (show C ++ [x] = inF k true (SA.take (j + 1)) by rw [take_snoc HJA.out, ← HXE.out, inF_snoc, ← HC.out, if_pos (decide_eq_true HQ.out)])
              have HND := Lib.hid (show D = inF k false (SA.take (j + 1)) by rw [take_snoc HJA.out, ← HXE.out, inF_snoc, ← HD.out, if_neg (fun h => Bool.noConfusion (h.symm.trans (decide_eq_true HQ.out)))])
              have HRN := Lib.hid (show (C ++ [x]).length = r1 + 1 ∧ D.length = r2 ∧ r1 + 1 + r2 ≤ j + 1 by have := HRS.out; simp only [List.length_append, List.length_cons, List.length_nil]; omega)
              go_roundg (nA - (j + 1))
              case measure => have := HG.out; have := HIN.out; omega
              case rel => exact ⟨j + 1, p, a9, r1 + 1, c9, C ++ [x], a2, r2, c2, D, some ⟨bo, oo, none⟩, nO, cO, rfl, rfl, rfl, by go_num, by have := HIN.out; omega, HBN.out, HO9, HON, HAN, HRN, HNC, HND, HIO, Lib.hid HPA.out.next⟩
            · have HQ := Lib.hid (show x ∉ k from fun hm => he (HMM.out.1 hm))
              rw [decide_eq_false he]
              clear he
              have HBF := Lib.hid (HBW4.out.trans (hb7.mono HBS4.out))
              have HOM := Lib.hid ((HO5'.out.below hb7).alloc (.cells (idCells x) 24))
              have HOO := Lib.hid ((HO4'.out.below hb7).alloc (.cells (idCells x) 24))
              have HX9 := Lib.hid (HX8.out.below hb7)
              have HXN := Lib.hid (idAt_new w7 x HX.out)
              have HBA := Lib.hid (show w2.heap.size ≤ (w7.alloc (.cells (idCells x) 24)).heap.size by have := HBF.out.size; simp; omega)
              have H48 := Lib.hid (show (D.length + 1) * 32 ≤ 140737488355328 by have := HRS.out; have := HIN.out; omega)
              have HR1 := Lib.hid (show r2 + 1 = D.length + 1 by have := HRS.out; omega)
              clear hb7
              go_wp2_with (first
                | ((with_reducible show wpList _ _ _ (⟨some 46, _, _, _, _, _⟩ :: _) _ _); refine load_id rfl (.tmp 8) rfl _ x rfl HX9.out ?_)
                | ((with_reducible show wpList _ _ _ (⟨some 47, _, _, _, _, _⟩ :: _) _ _); refine wl_one rfl _ rfl x HX.out rfl ?_)
                | (at_builtin; go_must (refine app_told rfl (.tmp 45) (.tmp 47) rfl w2.heap.size _ D rfl HOM.out _ x rfl HXN.out H48.out HBA.out (r2 + 1) HR1.out ?_); intro a9 c9 w9 hown9 hgr9 htold9; have HO9 := Lib.hid hown9; have HGR := Lib.hid hgr9; have HTD := Lib.hid htold9; clear hown9 hgr9 htold9))
              have HBN := Lib.hid ((HBF.out.alloc HBF.out.size (.cells (idCells x) 24)).grown HGR.out HBA.out (fun k hk => (HOM.out.lt k hk).1))
              have HON := Lib.hid (HOO.out.kept HGR.out HAP.out.kept)
              have HAN := Lib.hid (HAP.out.told HTD.out (fun k hk => (HOO.out.lt k hk).2))
              have HNC := Lib.hid (show C = inF k true (SA.take (j + 1)) by rw [take_snoc HJA.out, ← HXE.out, inF_snoc, ← HC.out, if_neg (fun h => Bool.noConfusion (h.symm.trans (decide_eq_false HQ.out)))])
              have HND := Lib.hid (show D ++ [x] = inF k false (SA.take (j + 1)) by rw [take_snoc HJA.out, ← HXE.out, inF_snoc, ← HD.out, if_pos (decide_eq_false HQ.out)])
              have HRN := Lib.hid (show C.length = r1 ∧ (D ++ [x]).length = r2 + 1 ∧ r1 + (r2 + 1) ≤ j + 1 by have := HRS.out; simp only [List.length_append, List.length_cons, List.length_nil]; omega)
              go_roundg (nA - (j + 1))
              case measure => have := HG.out; have := HIN.out; omega
              case rel => exact ⟨j + 1, p, a1, r1, c1, C, a9, r2 + 1, c9, D ++ [x], some ⟨bo, oo, none⟩, nO, cO, rfl, rfl, rfl, by go_num, by have := HIN.out; omega, HBN.out, HON, HO9, HAN, HRN, HNC, HND, HIO, Lib.hid HPA.out.next⟩
    · have HFC := Lib.hid (show C = inF k true (setF l) by rw [HC.out, List.take_of_length_le (by rw [← HNA.out]; omega), HSA.out])
      have HFD := Lib.hid (show D = inF k false (setF l) by rw [HD.out, List.take_of_length_le (by rw [← HNA.out]; omega), HSA.out])
      clear hg
      go_wp2
      go_ret2
      exact ⟨a1, r1, c1, a2, r2, c2, rfl, by rw [← HFC.out]; exact HO4.out.isIds, by rw [← HFD.out]; exact HO5.out.isIds, HB2.out.trans (hbw.mono HBS.out)⟩
#print axioms part_any

theorem part_is (a : Option Addr) (n c : Nat) (l : List (List UInt8)) (b : Option Addr) (m d : Nat) (k L M : List (List UInt8)) (q r : Nat) (w : World) (ha : IdsAt w a n c l) (hb : IdsAt w b m d k) (hn : n ≤ 1000000) (hm : m ≤ 1000000) (hL : L = setF (inF k true l)) (hM : M = setF (inF k false l)) (hq : q = L.length) (hr : r = M.length) :
    Calls Tryd.prog 29 #[.slice a n c, .slice b m d] w fun e w' => ∃ a1 c1 a2 c2, e = .returned (.tuple #[.slice a1 q c1, .slice a2 r c2]) ∧ IdsAt w' a1 q c1 L ∧ IdsAt w' a2 r c2 M ∧ Below w.heap.size w w' := by
  refine (part_any a n c l b m d k w ha hb hn hm).mono ?_
  rintro e w' ⟨a1, n1, c1, a2, n2, c2, rfl, h1, h2, h3⟩
  rw [inF_setF, ← hL] at h1
  rw [inF_setF, ← hM] at h2
  obtain rfl : q = n1 := hq.trans h1.1
  obtain rfl : r = n2 := hr.trans h2.1
  exact ⟨a1, c1, a2, c2, rfl, h1, h2, h3⟩

set_option maxRecDepth 100000 in
set_option maxHeartbeats 400000 in
theorem minus_any (a : Option Addr) (n c : Nat) (l : List (List UInt8)) (b : Option Addr) (m d : Nat) (k L : List (List UInt8)) (q : Nat) (w : World) (ha : IdsAt w a n c l) (hb : IdsAt w b m d k) (hn : n ≤ 1000000) (hm : m ≤ 1000000) (hL : L = setF (inF k false l)) (hq : q = L.length) :
    Calls Tryd.prog 14 #[.slice a n c, .slice b m d] w fun e w' => ∃ a1 c1, e = .returned (.slice a1 q c1) ∧ IdsAt w' a1 q c1 L ∧ Below w.heap.size w w' := by
  obtain ⟨M, hM⟩ : ∃ M, M = setF (inF k true l) := ⟨_, rfl⟩
  obtain ⟨r, hr⟩ : ∃ r, r = M.length := ⟨_, rfl⟩
  have HC := Lib.hid (part_is a n c l b m d k M L r q w ha hb hn hm hM hL hr hq)
  clear ha hb hn hm hL hq hM hr
  go_enter Tryd.func14, Tryd.ntmps14
  go_wp2_with (go_at_call 29; go_must (refine HC.out.mono ?_); rintro e w1 ⟨a1, c1, a2, c2, rfl, h1, h2, hb1⟩)
  go_ret
  exact ⟨a2, c2, rfl, h2, hb1⟩
#print axioms minus_any

end Go.Proofs.YtkhcoefcifaaeaaDoor
