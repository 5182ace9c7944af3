/-
  The law that no two paths clash, that they are told in order, that each is found: walked.
-/
import Derived.Test.YtkahldoognofeaaDoorRegTurned
import Derived.Deep.CutRange
namespace Go.Proofs.YtkahldoognofeaaDoor
open Go.RowKit

/-- A struct stored into a block of such, in a drawn region. -/
theorem wp_store_blk {E : TypeId} {w : World} {g : Nat} {us vs : List Value} (h : BlkAt E w g us) (hk : (Tryd.prog.info? E).map (·.size) = some vs.length) (hl : us.length = vs.length) (h1 : ∀ v ∈ vs, v.oneCell' = true) {o : Oper} {a : Act} {K : Act → World → Prop} {Q : Exit → Act → World → Prop} (x y : Operand) (ho : o.op = .store E x y)
    (hx : a.eval x = .pointer (some ⟨g, 0, none⟩)) (hy : a.eval y = .agg vs.toArray)
    (hK : ∀ W, BlkAt E W g vs → w.grownBy W (some g) → K (a.put o.dst undef) W) : o.wp Tryd.prog a w K Q := by
  have hs : vs.toArray.size = vs.length := by simp
  refine wp_store_row E x y ho g vs.toArray hx hy E us.toArray h (by rw [hs]; exact hk) (by simp [hl]) ?_ (hK _ (setRow_heap _ _ us.toArray vs.toArray _ _ h) ?_)
  · rw [Array.all_eq_true_iff_forall_mem]
    intro v hv
    exact h1 v (by simpa using hv)
  · refine ⟨rfl, rfl, rfl, by simp [World.setRow], fun k hk hne => ?_⟩
    unfold World.setRow
    rw [Array.getElem?_modify, if_neg (fun e => hne (by rw [e]))]
theorem found_is {S : List ClaimV} {P : List (List UInt8)} {i : Nat} {X : NamedV} {s : List UInt8} {k : KeyV} {q : Bool} (hP : PathsTo S P) (hi : i < S.length) (hs : s = P.getD i default) (hX : X = ((S.getD i default).doc, P.getD i default))
    (h : (q = true ∧ ∃ j, j < S.length ∧ P.getD j default = s ∧ k = (S.getD j default).doc) ∨ (q = false ∧ k = zeroK ∧ ∀ j, j < S.length → P.getD j default ≠ s)) : q = true ∧ k = X.1 := by
  rcases h with ⟨h1, j, hj, h2, h3⟩ | ⟨_, _, h3⟩
  · have e := hP.inj hj hi (h2.trans hs)
    subst e
    exact ⟨h1, by rw [h3, hX]⟩
  · exact absurd hs.symm (h3 i hi)
theorem clash_is (a b : ByteArray) (q : Bool) (w : World) (h : clashF a.data.toList b.data.toList = q) : Calls Tryd.prog 11 #[.string a, .string b] w fun e w' => e = .returned (.bool q) ∧ w = w' := by subst h; exact clash_any a b w

set_option maxRecDepth 100000 in
set_option maxHeartbeats 1600000 in
theorem registerApart_any (a : Option Addr) (n c : Nat) (L : List ClaimV) (w : World) (h : AtG clK w a n c L) (hT : PTabs w) :
    Calls Tryd.prog 3 #[.slice a n c] w fun e w' => e = .returned (.bool true) ∧ Below w.heap.size w w' := by
  obtain ⟨q, hq⟩ := light_cases n L
  have HLI := Lib.hid (light_any a n c L w h q hq)
  cases q
  · clear h hT hq
    go_enter Tryd.func3, Tryd.ntmps3
    go_wp2_with (go_at_call 6; go_must (refine HLI.out.mono ?_); rintro e w1 ⟨rfl, rfl⟩)
    go_ret
    exact ⟨rfl, Below.refl _ _⟩
  obtain ⟨hn40, hl⟩ := hq.1 rfl
  have HM := Lib.hid hn40
  have HM60 := Lib.hid (Nat.le_trans hn40 (by decide) : n ≤ 60)
  have HL := Lib.hid h.1
  have HLL := Lib.hid (fun c hc => (Nat.le_trans (hl c hc) (by decide) : c.path.length ≤ 100000))
  have HT := Lib.hid hT
  have HTO := Lib.hid (fun W (hW : Below w.heap.size w W) => told_any a n c L W (h.below hW) (by omega))
  have AW := Lib.hid (fun W (hW : Below w.heap.size w W) => regAwake_any W (hT.below hW))
  clear h hT hq hn40 hl
  go_enter Tryd.func3, Tryd.ntmps3
  go_wp2_with (first
    | (go_at_call 6; go_must (refine HLI.out.mono ?_); rintro e w1 ⟨rfl, rfl⟩)
    | (go_at_call 8; go_must (refine (HTO.out _ (Below.refl _ _)).mono ?_); rintro e w2 ⟨a2, c2, rfl, ho2, hb2⟩; rw [HL.out] at ho2 ⊢; have HA2 := Lib.hid ho2.atG; have HB2 := Lib.hid hb2; have HP2 := Lib.hid (paths_any a2 n c2 L w2 HA2.out HM60.out HLL.out (HT.out.below HB2.out)); clear ho2 hb2)
    | (go_at_call 7; go_must (refine HP2.out.mono ?_); rintro e w3 ⟨S, P, a3, c3, rfl, hsh, hp, hat, hb3⟩; have HS := Lib.hid hsh; have HP := Lib.hid hp; have HA := Lib.hid hat; have HB3 := Lib.hid (HB2.out.trans (hb3.mono HB2.out.size)); clear hsh hp hat hb3))
  obtain ⟨m, hm⟩ : ∃ m, S.length = m := ⟨_, rfl⟩
  rw [hm] at HA ⊢
  have HML := Lib.hid hm
  have hmI : (m : Int) ≤ 40 := by
    have h1 := HS.out.length
    rw [HL.out, hm] at h1
    have := HM.out
    omega
  clear hm
  go_loopg [4] m (fun g v4 W => ∃ i : Nat, v4 = .int .i64 i ∧ g + i = m ∧ Hid (Below w3.heap.size w3 W))
  case atStart => exact ⟨0, rfl, rfl, Lib.hid (Below.refl _ _)⟩
  case round =>
    obtain ⟨i, rfl, hg, HB⟩ := hrel
    have HG := Lib.hid hg
    have hi0 : (0 : Int) ≤ (i : Int) := by omega
    have hiI : (i : Int) ≤ (m : Int) := by omega
    by_cases hi : (i : Int) < (m : Int)
    · have him : i < m := by omega
      have HI := Lib.hid him
      obtain ⟨b, o, rfl⟩ := HA.out.some_ (by omega)
      obtain ⟨X, hX⟩ : ∃ X, X = gd (zipN S P) i := ⟨_, rfl⟩
      have HX : Hid (X.1.c.length = 32) := Lib.hid (hX ▸ HA.out.ok him)
      have hXE : X = ((S.getD i default).doc, P.getD i default) := by rw [hX]; exact zipN_at HP.out (by rw [HML.out]; exact him)
      have HXE := Lib.hid hXE
      have HXR := Lib.hid (fun W (hW : Below w3.heap.size w3 W) => (hX ▸ nm_doc (HA.out.below hW) him : W.rangeAt b (o + i * 35) (keyL X.1)))
      obtain ⟨p, hp⟩ : ∃ p, strB X.2 = p := ⟨_, rfl⟩
      have HPE := Lib.hid hp
      have HXP := Lib.hid (fun W (hW : Below w3.heap.size w3 W) => (hp ▸ hX ▸ nm_path (HA.out.below hW) him : W.cell? ⟨b, o + i * 35 + 34, none⟩ = some (.string p)))
      have HPL : Hid (p.data.toList = P.getD i default) := Lib.hid (by rw [← hp, strB_list, hXE])
      have HFI := Lib.hid (fun W a c h hT => find_any a n c L p W h HM60.out HLL.out hT)
      clear hg hX hXE hp
      go_wp2
      go_cut [5, 6] from 20 to 30 (fun v5 v6 W => ∃ g5, v5 = .pointer (some ⟨g5, 0, none⟩) ∧ v6 = .bool true ∧ Hid (BlkAt 31 W g5 (keyL X.1)) ∧ Hid (Below w3.heap.size w3 W))
      case first =>
        have HBd := Lib.hid HB.out.drew
        refine wp_region_held_drew (S := fun W => Below w3.heap.size w3 W) (by kernel_rfl) HBd.out (fun hHeld => ?_)
        refine wpAnyH_take (i := 0) (oi := ⟨some 21, .move (.tmp 0), _, _, _, _⟩) (v := (.slice a n c)) rfl (by kernel_rfl) (by kernel_rfl) (by kernel_rfl) (fun _ _ _ h => h) (Or.inl ⟨by rfl, fun W hW => by go_simp⟩) (by assumption) ?_
        simp only [Act.put, List.setIfInBounds_toArray, List.set_cons_zero, List.set_cons_succ]
        refine wpAnyH_take (i := 2) (oi := ⟨some 23, .move (.tmp 3), _, _, _, _⟩) (v := (.slice (some ⟨b, o, none⟩) m c3)) rfl (by kernel_rfl) (by kernel_rfl) (by kernel_rfl) (fun _ _ _ h => h) (Or.inl ⟨by rfl, fun W hW => by go_simp⟩) (by assumption) ?_
        simp only [Act.put, List.setIfInBounds_toArray, List.set_cons_zero, List.set_cons_succ]
        refine wpAnyH_take (i := 3) (oi := ⟨some 24, .move (.tmp 4), _, _, _, _⟩) (v := (.int .i64 (i : Nat))) rfl (by kernel_rfl) (by kernel_rfl) (by kernel_rfl) (fun _ _ _ h => h) (Or.inl ⟨by rfl, fun W hW => by go_simp⟩) (by assumption) ?_
        simp only [Act.put, List.setIfInBounds_toArray, List.set_cons_zero, List.set_cons_succ]
        refine wpAnyH_take (i := 4) (oi := ⟨some 25, .indexAddr 24 (.tmp 23) (.tmp 24), _, _, _, _⟩) (v := (.pointer (some ⟨b, o + i * 35, none⟩))) rfl (by kernel_rfl) (by kernel_rfl) (by kernel_rfl) (fun _ _ _ h => h) (Or.inl ⟨by rfl, fun W hW => by go_simp⟩) (by assumption) ?_
        simp only [Act.put, List.setIfInBounds_toArray, List.set_cons_zero, List.set_cons_succ]
        refine wpAnyH_take (i := 5) (oi := ⟨some 26, .fieldAddr NEr (.tmp 25) 1, _, _, _, _⟩) (v := (.pointer (some ⟨b, o + i * 35 + 34, none⟩))) rfl (by kernel_rfl) (by kernel_rfl) (by kernel_rfl) (fun _ _ _ h => h) (Or.inl ⟨by rfl, fun W hW => by go_simp⟩) (by assumption) ?_
        simp only [Act.put, List.setIfInBounds_toArray, List.set_cons_zero, List.set_cons_succ]
        refine wpAnyH_take (i := 6) (oi := ⟨some 27, .load 9 (.tmp 26), _, _, _, _⟩) (v := (.string p)) rfl (by kernel_rfl) (by kernel_rfl) (by kernel_rfl) (fun _ _ _ h => h) (Or.inl ⟨by rfl, fun W hW => by have hcell := HXP.out W hW; go_simp⟩) (by assumption) ?_
        simp only [Act.put, List.setIfInBounds_toArray, List.set_cons_zero, List.set_cons_succ]
        refine wpAnyH_ready (rs := [1, 11]) (by kernel_rfl) (by simp) ?_
        refine AllReadyH.cons (o := ⟨some 22, .call { callee := .value (.func 8), args := #[.tmp 21], argTypes := #[22] }, _, _, _, _⟩) rfl (fun K hK => ?_) (AllReadyH.cons (o := ⟨some 5, .alloc 31, _, _, _, _⟩) rfl (fun K hK => ?_) AllReadyH.nil)
        · go_simp
          go_wp2_with (go_at_call 8; go_must (refine (HTO.out _ (HB3.out.trans (HBd.out.mono HB3.out.size))).mono ?_); rintro e wt ⟨a5, c5, rfl, ho5, hb5⟩; rw [HL.out] at ho5 ⊢; have HA5 := Lib.hid ho5.atG; have HX1 := Lib.hid (HBd.out.trans (hb5.mono HBd.out.size)); have HBT := Lib.hid hb5; clear ho5 hb5)
          refine hK.out _ _ HX1.out (fun hHeld => ?_)
          clear hK K
          refine wpAnyH_ready (rs := [7, 11]) (by kernel_rfl) (by simp) ?_
          refine AllReadyH.cons (o := ⟨some 28, .call { callee := .value (.func 9), args := #[.tmp 22, .tmp 27], argTypes := #[26, 9] }, _, _, _, _⟩) rfl (fun K hK => ?_) (AllReadyH.cons (o := ⟨some 5, .alloc 31, _, _, _, _⟩) rfl (fun K hK => ?_) AllReadyH.nil)
          · go_simp
            go_wp2_with (go_at_call 9; go_must (refine (HFI.out _ _ _ (HA5.out) (HT.out.below (HB3.out.trans (HX1.out.mono HB3.out.size)))).mono ?_); rintro e wf ⟨S2, P2, k2, q2, rfl, hsh, hp2, hk2, hfd, hb6⟩; obtain rfl := hsh.uniq (List.Perm.refl _) HS.out; obtain rfl := hp2.uniq HP.out; obtain ⟨rfl, rfl⟩ := found_is HP.out (by rw [HML.out]; exact HI.out) HPL.out HXE.out hfd; have HX2 := Lib.hid (HX1.out.trans (hb6.mono HX1.out.size)); have HBF := Lib.hid hb6; clear hsh hp2 hk2 hfd hb6)
            refine hK.out _ _ HX2.out (fun hHeld => ?_)
            clear hK K
            refine wpAnyH_take (i := 8) (oi := ⟨some 20, .move (.tmp 28), _, _, _, _⟩) (v := (.tuple #[.agg (keyC X.1), .bool true])) rfl (by kernel_rfl) (by kernel_rfl) (by kernel_rfl) (fun _ _ _ h => h) (Or.inl ⟨by rfl, fun W hW => by go_simp⟩) (by assumption) ?_
            simp only [Act.put, List.setIfInBounds_toArray, List.set_cons_zero, List.set_cons_succ]
            refine wpAnyH_take (i := 9) (oi := ⟨some 29, .extract (.tmp 20) 0, _, _, _, _⟩) (v := (.agg (keyC X.1))) rfl (by kernel_rfl) (by kernel_rfl) (by kernel_rfl) (fun _ _ _ h => h) (Or.inl ⟨by rfl, fun W hW => by go_simp⟩) (by assumption) ?_
            simp only [Act.put, List.setIfInBounds_toArray, List.set_cons_zero, List.set_cons_succ]
            refine wpAnyH_take (i := 10) (oi := ⟨some 30, .extract (.tmp 20) 1, _, _, _, _⟩) (v := (.bool true)) rfl (by kernel_rfl) (by kernel_rfl) (by kernel_rfl) (fun _ _ _ h => h) (Or.inl ⟨by rfl, fun W hW => by go_simp⟩) (by assumption) ?_
            simp only [Act.put, List.setIfInBounds_toArray, List.set_cons_zero, List.set_cons_succ]
            refine wpAnyH_ready (rs := [11]) (by kernel_rfl) (by simp) ?_
            refine AllReadyH.cons (o := ⟨some 5, .alloc 31, _, _, _, _⟩) rfl (fun K hK => ?_) AllReadyH.nil
            go_simp
            have HK0 := Lib.hid (BlkAt.new wf 31 (keyC zeroK))
            have HX3 := Lib.hid (HX2.out.alloc HX2.out.size (.cells (keyC zeroK) 31))
            have HGK := Lib.hid (HX2.out.size)
            have HAB := Lib.hid ((Below.refl wf.heap.size wf).alloc (Nat.le_refl _) (.cells (keyC zeroK) 31))
            refine hK.out _ _ HX3.out (fun hHeld => ?_)
            clear hK K
            refine wpAnyH_ready (rs := [12]) (by kernel_rfl) (by simp) ?_
            refine AllReadyH.cons (o := ⟨none, .store 31 (.tmp 5) (.tmp 29), _, _, _, _⟩) rfl (fun K hK => ?_) AllReadyH.nil
            refine ready_step (wp_store_blk (vs := keyL X.1) HK0.out (by rw [keyL_length HX.out]; exact info34) (by rw [keyL_length HX.out]; rfl) (keyL_one _) _ _ rfl rfl rfl ?_)
            intro Ws hks hgs
            have HBS := Lib.hid (HX3.out.grown hgs HX3.out.size (fun q hq => by cases hq; exact HGK.out))
            have HKS := Lib.hid hks
            clear hks hgs
            refine hK.out _ _ HBS.out (fun hHeld => ?_)
            clear hK K
            refine wpAnyH_take (i := 13) (oi := ⟨some 6, .assign (.tmp 30), _, _, _, _⟩) (v := (.bool true)) rfl (by kernel_rfl) (by kernel_rfl) (by kernel_rfl) (fun _ _ _ h => h) (Or.inl ⟨by rfl, fun W hW => by go_simp⟩) (by assumption) ?_
            simp only [Act.put, List.setIfInBounds_toArray, List.set_cons_zero, List.set_cons_succ]
            refine wpAnyH_done (by kernel_rfl) ?_ _
            go_wp2_with fail
            go_meet
            exact ⟨_, rfl, rfl, HKS, HBS⟩
          · go_simp
            have HK0 := Lib.hid (BlkAt.new wt 31 (keyC zeroK))
            have HX2 := Lib.hid (HX1.out.alloc HX1.out.size (.cells (keyC zeroK) 31))
            have HGK := Lib.hid (HX1.out.size)
            have HAB := Lib.hid ((Below.refl wt.heap.size wt).alloc (Nat.le_refl _) (.cells (keyC zeroK) 31))
            refine hK.out _ _ HX2.out (fun hHeld => ?_)
            clear hK K
            refine wpAnyH_ready (rs := [7]) (by kernel_rfl) (by simp) ?_
            refine AllReadyH.cons (o := ⟨some 28, .call { callee := .value (.func 9), args := #[.tmp 22, .tmp 27], argTypes := #[26, 9] }, _, _, _, _⟩) rfl (fun K hK => ?_) AllReadyH.nil
            go_simp
            go_wp2_with (go_at_call 9; go_must (refine (HFI.out _ _ _ (HA5.out.below HAB.out) (HT.out.below (HB3.out.trans (HX2.out.mono HB3.out.size)))).mono ?_); rintro e wf ⟨S2, P2, k2, q2, rfl, hsh, hp2, hk2, hfd, hb6⟩; obtain rfl := hsh.uniq (List.Perm.refl _) HS.out; obtain rfl := hp2.uniq HP.out; obtain ⟨rfl, rfl⟩ := found_is HP.out (by rw [HML.out]; exact HI.out) HPL.out HXE.out hfd; have HX3 := Lib.hid (HX2.out.trans (hb6.mono HX2.out.size)); have HBF := Lib.hid hb6; clear hsh hp2 hk2 hfd hb6)
            refine hK.out _ _ HX3.out (fun hHeld => ?_)
            clear hK K
            refine wpAnyH_take (i := 8) (oi := ⟨some 20, .move (.tmp 28), _, _, _, _⟩) (v := (.tuple #[.agg (keyC X.1), .bool true])) rfl (by kernel_rfl) (by kernel_rfl) (by kernel_rfl) (fun _ _ _ h => h) (Or.inl ⟨by rfl, fun W hW => by go_simp⟩) (by assumption) ?_
            simp only [Act.put, List.setIfInBounds_toArray, List.set_cons_zero, List.set_cons_succ]
            refine wpAnyH_take (i := 9) (oi := ⟨some 29, .extract (.tmp 20) 0, _, _, _, _⟩) (v := (.agg (keyC X.1))) rfl (by kernel_rfl) (by kernel_rfl) (by kernel_rfl) (fun _ _ _ h => h) (Or.inl ⟨by rfl, fun W hW => by go_simp⟩) (by assumption) ?_
            simp only [Act.put, List.setIfInBounds_toArray, List.set_cons_zero, List.set_cons_succ]
            refine wpAnyH_take (i := 10) (oi := ⟨some 30, .extract (.tmp 20) 1, _, _, _, _⟩) (v := (.bool true)) rfl (by kernel_rfl) (by kernel_rfl) (by kernel_rfl) (fun _ _ _ h => h) (Or.inl ⟨by rfl, fun W hW => by go_simp⟩) (by assumption) ?_
            simp only [Act.put, List.setIfInBounds_toArray, List.set_cons_zero, List.set_cons_succ]
            refine wpAnyH_ready (rs := [12]) (by kernel_rfl) (by simp) ?_
            refine AllReadyH.cons (o := ⟨none, .store 31 (.tmp 5) (.tmp 29), _, _, _, _⟩) rfl (fun K hK => ?_) AllReadyH.nil
            refine ready_step (wp_store_blk (vs := keyL X.1) (HK0.out.below HBF.out) (by rw [keyL_length HX.out]; exact info34) (by rw [keyL_length HX.out]; rfl) (keyL_one _) _ _ rfl rfl rfl ?_)
            intro Ws hks hgs
            have HBS := Lib.hid (HX3.out.grown hgs HX3.out.size (fun q hq => by cases hq; exact HGK.out))
            have HKS := Lib.hid hks
            clear hks hgs
            refine hK.out _ _ HBS.out (fun hHeld => ?_)
            clear hK K
            refine wpAnyH_take (i := 13) (oi := ⟨some 6, .assign (.tmp 30), _, _, _, _⟩) (v := (.bool true)) rfl (by kernel_rfl) (by kernel_rfl) (by kernel_rfl) (fun _ _ _ h => h) (Or.inl ⟨by rfl, fun W hW => by go_simp⟩) (by assumption) ?_
            simp only [Act.put, List.setIfInBounds_toArray, List.set_cons_zero, List.set_cons_succ]
            refine wpAnyH_done (by kernel_rfl) ?_ _
            go_wp2_with fail
            go_meet
            exact ⟨_, rfl, rfl, HKS, HBS⟩
        · go_simp
          have HK0 := Lib.hid (BlkAt.new wr.drew 31 (keyC zeroK))
          have HX1 := Lib.hid (HBd.out.alloc HBd.out.size (.cells (keyC zeroK) 31))
          have HGK := Lib.hid (HBd.out.size)
          have HAB := Lib.hid ((Below.refl wr.drew.heap.size wr.drew).alloc (Nat.le_refl _) (.cells (keyC zeroK) 31))
          refine hK.out _ _ HX1.out (fun hHeld => ?_)
          clear hK K
          refine wpAnyH_ready (rs := [1]) (by kernel_rfl) (by simp) ?_
          refine AllReadyH.cons (o := ⟨some 22, .call { callee := .value (.func 8), args := #[.tmp 21], argTypes := #[22] }, _, _, _, _⟩) rfl (fun K hK => ?_) AllReadyH.nil
          go_simp
          go_wp2_with (go_at_call 8; go_must (refine (HTO.out _ (HB3.out.trans (HX1.out.mono HB3.out.size))).mono ?_); rintro e wt ⟨a5, c5, rfl, ho5, hb5⟩; rw [HL.out] at ho5 ⊢; have HA5 := Lib.hid ho5.atG; have HX2 := Lib.hid (HX1.out.trans (hb5.mono HX1.out.size)); have HBT := Lib.hid hb5; clear ho5 hb5)
          refine hK.out _ _ HX2.out (fun hHeld => ?_)
          clear hK K
          refine wpAnyH_ready (rs := [7]) (by kernel_rfl) (by simp) ?_
          refine AllReadyH.cons (o := ⟨some 28, .call { callee := .value (.func 9), args := #[.tmp 22, .tmp 27], argTypes := #[26, 9] }, _, _, _, _⟩) rfl (fun K hK => ?_) AllReadyH.nil
          go_simp
          go_wp2_with (go_at_call 9; go_must (refine (HFI.out _ _ _ HA5.out (HT.out.below (HB3.out.trans (HX2.out.mono HB3.out.size)))).mono ?_); rintro e wf ⟨S2, P2, k2, q2, rfl, hsh, hp2, hk2, hfd, hb6⟩; obtain rfl := hsh.uniq (List.Perm.refl _) HS.out; obtain rfl := hp2.uniq HP.out; obtain ⟨rfl, rfl⟩ := found_is HP.out (by rw [HML.out]; exact HI.out) HPL.out HXE.out hfd; have HX3 := Lib.hid (HX2.out.trans (hb6.mono HX2.out.size)); have HBF := Lib.hid hb6; clear hsh hp2 hk2 hfd hb6)
          refine hK.out _ _ HX3.out (fun hHeld => ?_)
          clear hK K
          refine wpAnyH_take (i := 8) (oi := ⟨some 20, .move (.tmp 28), _, _, _, _⟩) (v := (.tuple #[.agg (keyC X.1), .bool true])) rfl (by kernel_rfl) (by kernel_rfl) (by kernel_rfl) (fun _ _ _ h => h) (Or.inl ⟨by rfl, fun W hW => by go_simp⟩) (by assumption) ?_
          simp only [Act.put, List.setIfInBounds_toArray, List.set_cons_zero, List.set_cons_succ]
          refine wpAnyH_take (i := 9) (oi := ⟨some 29, .extract (.tmp 20) 0, _, _, _, _⟩) (v := (.agg (keyC X.1))) rfl (by kernel_rfl) (by kernel_rfl) (by kernel_rfl) (fun _ _ _ h => h) (Or.inl ⟨by rfl, fun W hW => by go_simp⟩) (by assumption) ?_
          simp only [Act.put, List.setIfInBounds_toArray, List.set_cons_zero, List.set_cons_succ]
          refine wpAnyH_take (i := 10) (oi := ⟨some 30, .extract (.tmp 20) 1, _, _, _, _⟩) (v := (.bool true)) rfl (by kernel_rfl) (by kernel_rfl) (by kernel_rfl) (fun _ _ _ h => h) (Or.inl ⟨by rfl, fun W hW => by go_simp⟩) (by assumption) ?_
          simp only [Act.put, List.setIfInBounds_toArray, List.set_cons_zero, List.set_cons_succ]
          refine wpAnyH_ready (rs := [12]) (by kernel_rfl) (by simp) ?_
          refine AllReadyH.cons (o := ⟨none, .store 31 (.tmp 5) (.tmp 29), _, _, _, _⟩) rfl (fun K hK => ?_) AllReadyH.nil
          refine ready_step (wp_store_blk (vs := keyL X.1) ((HK0.out.below HBT.out).below HBF.out) (by rw [keyL_length HX.out]; exact info34) (by rw [keyL_length HX.out]; rfl) (keyL_one _) _ _ rfl rfl rfl ?_)
          intro Ws hks hgs
          have HBS := Lib.hid (HX3.out.grown hgs HX3.out.size (fun q hq => by cases hq; exact HGK.out))
          have HKS := Lib.hid hks
          clear hks hgs
          refine hK.out _ _ HBS.out (fun hHeld => ?_)
          clear hK K
          refine wpAnyH_take (i := 13) (oi := ⟨some 6, .assign (.tmp 30), _, _, _, _⟩) (v := (.bool true)) rfl (by kernel_rfl) (by kernel_rfl) (by kernel_rfl) (fun _ _ _ h => h) (Or.inl ⟨by rfl, fun W hW => by go_simp⟩) (by assumption) ?_
          simp only [Act.put, List.setIfInBounds_toArray, List.set_cons_zero, List.set_cons_succ]
          refine wpAnyH_done (by kernel_rfl) ?_ _
          go_wp2_with fail
          go_meet
          exact ⟨_, rfl, rfl, HKS, HBS⟩
      case rest =>
        obtain ⟨g5, rfl, rfl, HKB, HBC⟩ := hcut
        have HRX := Lib.hid (HXR.out _ HBC.out.drew)
        have HKD := Lib.hid (HKB.out.below (Below.refl _ _).drew)
        have hk0 : (keyF X.1 X.1 = 0) := keyF_self _
        have HNQ := Lib.hid (show false = !decide (keyF X.1 X.1 = 0) by rw [decide_eq_true hk0]; rfl)
        clear hk0 HFI
        have hloop : ∀ wd, Below w3.heap.size w3 wd → True := fun _ _ => trivial
        clear hloop
        by_cases hi00 : i = 0
        · subst hi00
          go_wp2
          refine wp_region_still_tail 26 (by kernel_rfl) (by kernel_rfl) ?_
          simp only [List.take_succ_cons, List.take_zero, List.drop_succ_cons, List.drop_zero]
          iterate 3 still_step
          refine still_w (by rfl) (exec_loadKey _ rfl _ _ X.1 HX.out rfl HKD.out.range) ?_
          simp only [Act.put, List.setIfInBounds_toArray, List.set_cons_zero, List.set_cons_succ]
          iterate 4 still_step
          refine still_w (by rfl) (exec_loadKey _ rfl _ _ X.1 HX.out rfl HRX.out) ?_
          simp only [Act.put, List.setIfInBounds_toArray, List.set_cons_zero, List.set_cons_succ]
          refine still_w (by rfl) (exec_neqKey _ _ _ rfl X.1 X.1 HX.out HX.out rfl rfl false HNQ.out) ?_
          simp only [Act.put, List.setIfInBounds_toArray, List.set_cons_zero, List.set_cons_succ]
          iterate 4 still_step
          with_reducible refine still_w (v := .bool false) ?_ ?_ ?_
          · kernel_rfl
          · go_simp
          simp only [Act.put, List.setIfInBounds_toArray, List.set_cons_zero, List.set_cons_succ]
          with_reducible refine still_skip ?_ ?_
          · kernel_rfl
          simp only [Act.put, List.setIfInBounds_toArray, List.set_cons_zero, List.set_cons_succ]
          with_reducible refine still_skip ?_ ?_
          · kernel_rfl
          simp only [Act.put, List.setIfInBounds_toArray, List.set_cons_zero, List.set_cons_succ]
          with_reducible refine still_skip ?_ ?_
          · kernel_rfl
          simp only [Act.put, List.setIfInBounds_toArray, List.set_cons_zero, List.set_cons_succ]
          with_reducible refine still_skip ?_ ?_
          · kernel_rfl
          simp only [Act.put, List.setIfInBounds_toArray, List.set_cons_zero, List.set_cons_succ]
          with_reducible refine still_skip ?_ ?_
          · kernel_rfl
          simp only [Act.put, List.setIfInBounds_toArray, List.set_cons_zero, List.set_cons_succ]
          with_reducible refine still_skip ?_ ?_
          · kernel_rfl
          simp only [Act.put, List.setIfInBounds_toArray, List.set_cons_zero, List.set_cons_succ]
          with_reducible refine still_skip ?_ ?_
          · kernel_rfl
          simp only [Act.put, List.setIfInBounds_toArray, List.set_cons_zero, List.set_cons_succ]
          with_reducible refine still_skip ?_ ?_
          · kernel_rfl
          simp only [Act.put, List.setIfInBounds_toArray, List.set_cons_zero, List.set_cons_succ]
          with_reducible refine still_skip ?_ ?_
          · kernel_rfl
          simp only [Act.put, List.setIfInBounds_toArray, List.set_cons_zero, List.set_cons_succ]
          with_reducible refine still_skip ?_ ?_
          · kernel_rfl
          simp only [Act.put, List.setIfInBounds_toArray, List.set_cons_zero, List.set_cons_succ]
          with_reducible refine still_skip ?_ ?_
          · kernel_rfl
          simp only [Act.put, List.setIfInBounds_toArray, List.set_cons_zero, List.set_cons_succ]
          with_reducible refine wpStill_nil ?_
          change wpList _ _ _ _ _ wc.drew
          have HBW := Lib.hid HBC.out.drew
          generalize wc.drew = wd at HBW ⊢
          go_wp2
          go_loopg [7] 0 (fun g v7 W => ∃ k : Nat, v7 = .int .i64 k ∧ g + k = 0 ∧ Hid (Below w3.heap.size w3 W))
          case atStart => exact ⟨0, rfl, rfl, HBW⟩
          case round =>
            obtain ⟨k, rfl, hgk, HBk⟩ := hrel
            have HGk := Lib.hid hgk
            have hk0 : (0 : Int) ≤ (k : Int) := by omega
            have hkI : (k : Int) ≤ ((0 : Nat) : Int) := by omega
            by_cases hk : (k : Int) < ((0 : Nat) : Int)
            · exact absurd (show k < 0 by omega) (Nat.not_lt_zero _)
            · have hki : k = 0 := by omega
              subst hki
              clear hgk
              go_wp2
              go_roundg (m - (0 + 1))
              case measure => have := HG.out; have := HI.out; omega
              case rel => exact ⟨0 + 1, by go_num, by have := HI.out; omega, HBk⟩
        · obtain ⟨j, rfl⟩ : ∃ j, i = j + 1 := ⟨i - 1, by omega⟩
          have hjI : (j : Int) ≤ 39 := by omega
          have hj0 : (0 : Int) ≤ (j : Int) := by omega
          have hjm : (j : Int) < (m : Int) := by omega
          have hj1 : (j : Int) + 1 - 1 = (j : Int) := by omega
          have hjp : (0 : Int) < (j : Int) + 1 := by omega
          have hjW : IntKind.i64.wrap (j : Int) = (j : Int) := IntWalk.i64_in _ (by omega)
          have hjA : (0 : Int) ≤ (j : Int) + 1 := by omega
          have hjB : (j : Int) + 1 < (m : Int) := by omega
          obtain ⟨Y, hY⟩ : ∃ Y, Y = gd (zipN S P) j := ⟨_, rfl⟩
          have hjmn : j < m := by have := HI.out; omega
          have HY : Hid (Y.1.c.length = 32) := Lib.hid (hY ▸ HA.out.ok hjmn)
          have HYR := Lib.hid (hY ▸ nm_doc (HA.out.below HBC.out.drew) hjmn : wc.drew.rangeAt b (o + j * 35) (keyL Y.1))
          obtain ⟨z, hz⟩ : ∃ z, keyF Y.1 X.1 = z := ⟨_, rfl⟩
          have hl1 : j < S.length := by rw [HML.out]; exact hjmn
          have hl2 : j + 1 < S.length := by rw [HML.out]; exact HI.out
          have hz0 : z < 0 := by
            have h1 := List.pairwise_iff_getElem.1 HS.out.sorted j (j + 1) hl1 hl2 (by omega)
            have e1 : S.getD j default = S[j] := by simp [hl1]
            have e2 : S.getD (j + 1) default = S[j + 1] := by simp [hl2]
            rw [← hz, hY, HXE.out, show gd (zipN S P) j = _ from zipN_at HP.out hl1, e1, e2]
            exact h1
          have dz : decide (0 ≤ z) = false := decide_eq_false (by omega)
          have KA := Lib.hid (fun W => keys_is Y.1 X.1 z hz W HY.out HX.out)
          clear hY hz hl1 hl2 hz0
          go_wp2
          refine wp_region_still_tail 26 (by kernel_rfl) (by kernel_rfl) ?_
          simp only [List.take_succ_cons, List.take_zero, List.drop_succ_cons, List.drop_zero]
          iterate 3 still_step
          refine still_w (by rfl) (exec_loadKey _ rfl _ _ X.1 HX.out rfl HKD.out.range) ?_
          simp only [Act.put, List.setIfInBounds_toArray, List.set_cons_zero, List.set_cons_succ]
          iterate 4 still_step
          refine still_w (by rfl) (exec_loadKey _ rfl _ _ X.1 HX.out rfl HRX.out) ?_
          simp only [Act.put, List.setIfInBounds_toArray, List.set_cons_zero, List.set_cons_succ]
          refine still_w (by rfl) (exec_neqKey _ _ _ rfl X.1 X.1 HX.out HX.out rfl rfl false HNQ.out) ?_
          simp only [Act.put, List.setIfInBounds_toArray, List.set_cons_zero, List.set_cons_succ]
          iterate 4 still_step
          with_reducible refine still_w (v := .bool true) ?_ ?_ ?_
          · kernel_rfl
          · go_simp
          simp only [Act.put, List.setIfInBounds_toArray, List.set_cons_zero, List.set_cons_succ]
          iterate 5 still_step
          refine still_w (by rfl) (exec_loadKey _ rfl _ _ Y.1 HY.out rfl HYR.out) ?_
          simp only [Act.put, List.setIfInBounds_toArray, List.set_cons_zero, List.set_cons_succ]
          iterate 4 still_step
          refine still_w (by rfl) (exec_loadKey _ rfl _ _ X.1 HX.out rfl HRX.out) ?_
          simp only [Act.put, List.setIfInBounds_toArray, List.set_cons_zero, List.set_cons_succ]
          with_reducible refine wpStill_nil ?_
          change wpList _ _ _ _ _ wc.drew
          have HBV := Lib.hid HBC.out.drew
          generalize wc.drew = wd0 at HBV ⊢
          go_wp2_with (go_at_call 10; go_must (refine (KA.out _).mono ?_); rintro e wd ⟨rfl, hbk⟩; have HBW := Lib.hid (HBV.out.trans (hbk.mono HBV.out.size)); clear hbk)
          go_loopg [7] (j + 1) (fun g v7 W => ∃ k : Nat, v7 = .int .i64 k ∧ g + k = (j + 1) ∧ Hid (Below w3.heap.size w3 W))
          case atStart => exact ⟨0, rfl, rfl, HBW⟩
          case round =>
            obtain ⟨k, rfl, hgk, HBk⟩ := hrel
            have HGk := Lib.hid hgk
            have hk0 : (0 : Int) ≤ (k : Int) := by omega
            have hkI : (k : Int) ≤ ((j + 1 : Nat) : Int) := by omega
            by_cases hk : (k : Int) < ((j + 1 : Nat) : Int)
            · have hki : k < (j + 1) := by omega
              have hkm : k < m := by have := HI.out; omega
              have hkmI : (k : Int) < (m : Int) := by omega
              have HKI := Lib.hid hki
              obtain ⟨p2, hp2⟩ : ∃ p2, strB (P.getD k default) = p2 := ⟨_, rfl⟩
              have hc2 : wr.cell? ⟨b, o + k * 35 + 34, none⟩ = some (.string p2) := by
                have := nm_path (HA.out.below HBk.out) hkm
                rw [show gd (zipN S P) k = _ from zipN_at HP.out (by rw [HML.out]; exact hkm)] at this
                rw [← hp2]; exact this
              have hc1 : wr.cell? ⟨b, o + ((j + 1)) * 35 + 34, none⟩ = some (.string p) := HXP.out _ HBk.out
              have hcf : clashF p.data.toList p2.data.toList = false := by
                rw [HPL.out, ← hp2, strB_list]
                exact HP.out.apart (by rw [HML.out]; exact HI.out) hki
              have CL := Lib.hid (fun W => clash_is p p2 false W hcf)
              clear hgk hp2 hcf hki hkm
              go_wp2
              go_quiet ((go_at_call 11; exact Calls.quiet_of_same ((CL.out _).mono fun e w' ⟨h1, h2⟩ => ⟨h1, h2.symm⟩)))
              have HBn := Lib.hid (below_drewK HBk.out nq)
              generalize wr.drewN nq = wn at HBn ⊢
              go_wp2
              go_roundg ((j + 1) - (k + 1))
              case measure => have := HGk.out; have := HKI.out; omega
              case rel => exact ⟨k + 1, by go_num, by have := HKI.out; omega, HBn⟩
            · have hki : k = (j + 1) := by omega
              subst hki
              clear hgk
              go_wp2
              go_roundg (m - ((j + 1) + 1))
              case measure => have := HG.out; have := HI.out; omega
              case rel => exact ⟨(j + 1) + 1, by go_num, by have := HI.out; omega, HBk⟩
    · have him : i = m := by omega
      subst him
      have HBZ := Lib.hid (HB3.out.trans (HB.out.mono HB3.out.size))
      clear hg
      go_wp2_with (go_at_call 12; go_must (refine (AW.out _ HBZ.out).mono ?_); rintro e w9 ⟨rfl, hb9⟩)
      go_ret
      exact ⟨rfl, HBZ.out.trans (hb9.mono HBZ.out.size)⟩
#print axioms registerApart_any
end Go.Proofs.YtkahldoognofeaaDoor
