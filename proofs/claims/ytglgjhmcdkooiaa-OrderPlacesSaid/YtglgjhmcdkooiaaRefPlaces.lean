/-
  The walk of the document's SortKeys: one more place put where it belongs.
-/
import Derived.Test.YtglgjhmcdkooiaaPlaceIns
import Derived.Test.YtglgjhmcdkooiaaIntSort
namespace Go.Proofs.Ytglgjhmcdkooiaa
open Go.RowKit

theorem litN (w : World) (x : Nat) (T : TypeId) : At1 N (w.alloc (.cells #[N x] T)) (some ⟨w.heap.size, 0, none⟩) 1 1 [x] :=
  ⟨rfl, Nat.le_refl _, by omega, .inr ⟨_, 0, rfl, fun j hj => by
    obtain rfl : j = 0 := by omega
    rw [World.cell?_alloc_at _ _ _ _ rfl]
    rfl⟩⟩
theorem moreN {base : Nat} {w w1 w' : World} {v : Value} {a : Option Addr} {n c : Nat} {L : List Nat} (h : Own1 N 3 w' base (.slice a n c) L) (hp : 0 < n) (hb : Below base w w1) (hg : w1.grownBy w' v.ownBlock) (hv : ∀ k, v.ownBlock = some k → base ≤ k) (hs : base ≤ w1.heap.size) :
    ∃ g, a = some ⟨g, 0, none⟩ ∧ base ≤ g ∧ Below base w w' := by
  obtain ⟨g, rfl, hgb, _⟩ := h.row hp
  exact ⟨g, rfl, hgb, hb.grown hg hs hv⟩
theorem ownN_cell {w : World} {base g n c : Nat} {L : List Nat} (h : Own1 N 3 w base (.slice (some ⟨g, 0, none⟩) n c) L) {j : Nat} (hj : j < n) : w.cell? ⟨g, j, none⟩ = some (.int .i64 ((L.getD j 0 : Nat) : Int)) := by
  have := h.at1.cell j hj
  rwa [Nat.zero_add] at this
theorem ownN_put {w0 w : World} {base g n c : Nat} {L : List Nat} (hb : Below base w0 w) (hs : base ≤ w.heap.size) (hg : base ≤ g) (h : Own1 N 3 w base (.slice (some ⟨g, 0, none⟩) n c) L) (j x : Nat) :
    Below base w0 (w.setCell ⟨g, j, none⟩ (.int .i64 (x : Int))) ∧ Own1 N 3 (w.setCell ⟨g, j, none⟩ (.int .i64 (x : Int))) base (.slice (some ⟨g, 0, none⟩) n c) (L.set j x) :=
  ⟨hb.grown (grown_set w g j _) hs (fun k hk => by cases hk; exact hg), h.store h.len j x⟩

set_option maxRecDepth 100000 in
set_option maxHeartbeats 4000000 in
theorem refKeysSort_any (a : Option Addr) (n c : Nat) (K : List KeyV) (w : World) (hb : KeysAt w a n c K) (hl : n ≤ 1000000000) :
    Calls Try.prog 6 #[.slice a n c] w fun e w' => ∃ a1 c1 L, e = .returned (.slice a1 n c1) ∧ Own1 N 3 w' w.heap.size (.slice a1 n c1) L ∧ L.Perm (List.range n) ∧ UpG (plB K) L ∧ Below w.heap.size w w' := by
  have HA := Lib.hid hb
  have hnI : (n : Int) ≤ 1000000000 := by omega
  have hn0 : (0 : Int) ≤ (n : Int) := by omega
  have HO := Lib.hid (show Own1 N 3 w w.heap.size (.slice none 0 0) [] from Own1.nil)
  have HUP := Lib.hid (show UpG (plB K) [] ∧ ([] : List Nat).Perm (List.range 0) from ⟨List.Pairwise.nil, List.Perm.refl _⟩)
  clear hb hl
  go_enter Try.func6, Try.ntmps6
  go_wp2
  go_loopg [3, 4] n (fun g v3 v4 W => ∃ (i : Nat) (S : List Nat) (aS : Option Addr) (cS : Nat), v3 = .slice aS i cS ∧ v4 = .int .i64 i ∧ g + i = n ∧ Below w.heap.size w W ∧ Hid (Own1 N 3 W w.heap.size (.slice aS i cS) S) ∧ Hid (UpG (plB K) S ∧ S.Perm (List.range i)))
  case atStart => exact ⟨0, [], none, 0, rfl, rfl, rfl, Below.refl _ _, HO, HUP⟩
  case round =>
    clear HO HUP
    obtain ⟨i, S, aS, cS, rfl, rfl, hg, hbw, HOW, HUP⟩ := hrel
    have HG := Lib.hid hg
    have hi0 : (0 : Int) ≤ (i : Int) := by omega
    have hiI : (i : Int) ≤ (n : Int) := by omega
    by_cases hi : (i : Int) < (n : Int)
    · obtain ⟨ba, oa, rfl⟩ := HA.out.some_ (by omega)
      have HIN := Lib.hid (show i < n by omega)
      have HX := Lib.hid (HA.out.len32 HIN.out)
      have HSL := Lib.hid (show S.length = i from HOW.out.len)
      have HBS := Lib.hid hbw.size
      have HOWA := Lib.hid (HOW.out.alloc (.cells #[N i] 3))
      have HLT := Lib.hid (litN wr i 3)
      have HBW := Lib.hid (hbw.alloc HBS.out (.cells #[N i] 3))
      have H48 := Lib.hid (show (S.length + 1) * (8 + 1) ≤ 140737488355328 by rw [HSL.out]; have := HIN.out; omega)
      have HBA := Lib.hid (show w.heap.size ≤ (wr.alloc (.cells #[N i] 3)).heap.size by have := HBS.out; simp; omega)
      have hSL1 : i + 1 = S.length + 1 := by rw [HSL.out]
      have HSL1 := Lib.hid hSL1
      clear hg hSL1
      go_wp2_with (at_builtin; go_must (refine app1 N oneN Try.underlying24 infoN rfl rfl (.tmp 14) (.tmp 16) rfl w.heap.size _ S rfl HOWA.out _ 1 1 [i] rfl HLT.out H48.out HBA.out (i + 1) HSL1.out ?_); intro a1 cv w1 hown1 hgr1)
      obtain ⟨g, rfl, hgb, hbw1⟩ := moreN hown1 (by omega) HBW.out hgr1 (fun k hk => (HOW.out.lt k hk).1) HBA.out
      have HOW1 := Lib.hid hown1
      have HB1 := Lib.hid hbw1
      have HGB := Lib.hid hgb
      have HI := Lib.hid (show InsN K S i i (S ++ [i]) from by have := InsN.start K S i i; rwa [HSL.out] at this)
      clear hown1 hgr1 hbw1 hgb hbw HOW HOWA HLT HBW H48 HBA
      go_loopg [5] i (fun g' v5 W => ∃ (k : Nat) (R : List Nat), v5 = .int .i64 k ∧ Hid (g' = k) ∧ (k : Int) ≤ (i : Int) ∧ Hid (Below w.heap.size w W) ∧ Hid (Own1 N 3 W w.heap.size (.slice (some ⟨g, 0, none⟩) (i + 1) cv) R) ∧ Hid (InsN K S i k R))
      case atStart => exact ⟨i, S ++ [i], rfl, Lib.hid rfl, by omega, HB1, HOW1, HI⟩
      case round =>
        clear HB1 HOW1 HI
        obtain ⟨k, R, rfl, HG2, hkI, hbw, HOW, HINS⟩ := hrel
        have HK := Lib.hid hkI
        by_cases hk : k = 0
        · subst hk
          have HF := Lib.hid (HINS.out.next HUP.out.1 HUP.out.2 (.inl rfl))
          go_wp2
          go_quiet (fail)
          have hbd := below_drewN hbw.out nq
          have HOD := Lib.hid (HOW.out.drewG nq)
          clear hbw
          generalize wr.drewN nq = w2 at HOD hbd ⊢
          have hfz := own_frozenN HOD.out (by omega) 0
          have hce := ownN_cell HOD.out (show 0 < i + 1 by omega)
          obtain ⟨old, hold⟩ : ∃ old, old = R.getD 0 0 := ⟨_, rfl⟩
          rw [← hold] at hce
          have HP := Lib.hid (ownN_put hbd hbd.size HGB.out HOD.out 0 i)
          clear hold hbd
          go_wp2
          go_roundg (n - (i + 1))
          case measure => have := HG.out; have := HIN.out; omega
          case rel => exact ⟨i + 1, R.set 0 i, some ⟨g, 0, none⟩, cv, rfl, by go_num, by have := HIN.out; omega, HP.out.1, Lib.hid HP.out.2, HF⟩
        · obtain ⟨y, hy⟩ : ∃ y, y = S.getD (k - 1) 0 := ⟨_, rfl⟩
          have HYE := Lib.hid hy
          have hyn : y < n := by
            have hm : y ∈ S := by
              have hkl : k - 1 < S.length := by rw [HSL.out]; omega
              have eg : S.getD (k - 1) 0 = S[k - 1] := by simp [hkl]
              rw [hy, eg]; exact List.getElem_mem _
            have := HUP.out.2.mem_iff.1 hm
            simp at this
            omega
          have HY := Lib.hid (HA.out.len32 hyn)
          have HKD := Lib.hid (HA.out.below (below_drewK hbw.out 1))
          have HCY := Lib.hid (show wr.drew.rangeAt ba (oa + y * 34) (keyL (kOf K y)) from HKD.out.at_ y hyn)
          have HCX := Lib.hid (show wr.drew.rangeAt ba (oa + i * 34) (keyL (kOf K i)) from HKD.out.at_ i HIN.out)
          have HOD := Lib.hid (show Own1 N 3 wr.drew w.heap.size (.slice (some ⟨g, 0, none⟩) (i + 1) cv) R from HOW.out)
          have hcy : wr.drew.cell? ⟨g, k - 1, none⟩ = some (.int .i64 (y : Int)) := by
            have := ownN_cell HOD.out (show k - 1 < i + 1 by omega)
            rwa [HINS.out.read (by omega), ← hy] at this
          have hbd : Below w.heap.size w wr.drew := below_drewK hbw.out 1
          have hy0 : (0 : Int) ≤ (y : Int) := by omega
          have hyI : (y : Int) < (n : Int) := by omega
          have k0 : (0 : Int) < (k : Int) := by omega
          have k6 : 0 < k := by omega
          have k1 : IntKind.i64.wrap ((k : Int) - 1) = (k : Int) - 1 := IntWalk.i64_in _ (by omega)
          have k2 : 0 ≤ (k : Int) - 1 := by omega
          have k3 : ((k : Int) - 1).toNat = k - 1 := by omega
          have k4 : (k : Int) - 1 < (i : Int) + 1 := by omega
          have k7 : (1 : Int) ≤ (k : Int) := by omega
          have k5 : k - 1 < i + 1 := by omega
          have HKP := Lib.hid (show 0 < k by omega)
          clear hk hy hbw hyn
          go_wp2
          refine wp_region_still_tail 15 (by kernel_rfl) (by kernel_rfl) ?_
          simp only [List.take_succ_cons, List.take_zero, List.drop_succ_cons, List.drop_zero]
          still_step
          still_step
          still_step
          still_step
          still_step
          still_step
          still_step
          still_step
          still_step
          still_step
          refine still_w (by rfl) (exec_loadKey _ rfl _ _ _ HY.out rfl HCY.out) ?_
          simp only [Act.put, List.setIfInBounds_toArray, List.set_cons_zero, List.set_cons_succ]
          still_step
          still_step
          still_step
          refine still_w (by rfl) (exec_loadKey _ rfl _ _ _ HX.out rfl HCX.out) ?_
          simp only [Act.put, List.setIfInBounds_toArray, List.set_cons_zero, List.set_cons_succ]
          refine wpStill_nil ?_
          change wpList _ _ _ _ _ wr.drew
          clear k1 k3
          generalize wr.drew = w2 at HCY HCX HKD HOD hcy hbd ⊢
          obtain ⟨z, hz⟩ : ∃ z, z = keyF (kOf K y) (kOf K i) := ⟨_, rfl⟩
          have HZ := Lib.hid hz
          have HC := fun W => Lib.hid (show Calls Try.prog 11 #[.agg (keyC (kOf K y)), .agg (keyC (kOf K i))] W fun e w' => e = .returned (.int .i64 z) ∧ Below W.heap.size W w' by
            have := refKeys_any (kOf K y) (kOf K i) W HY.out HX.out
            unfold KeyIs at this
            rwa [← hz] at this)
          clear hz hcy
          by_cases hc : 0 < z
          · have HIS := Lib.hid (show InsN K S i (k - 1) (R.set k y) by have h := HINS.out.step HKP.out (by rw [← HYE.out, ← HZ.out]; exact hc); rwa [← HYE.out] at h)
            have hc1 : 1 ≤ z := by omega
            go_wp2_with (go_at_call 11; go_must (refine (HC _).out.mono ?_); rintro e w3 ⟨rfl, hb3⟩; have HO3 := Lib.hid (HOD.out.below hb3); have hcy3 := ownN_cell HO3.out k5; rw [HINS.out.read HKP.out, ← HYE.out] at hcy3; have hfz := own_frozenN HO3.out (by omega) k; have hck := ownN_cell HO3.out (show k < i + 1 by omega))
            have HP := Lib.hid (ownN_put (hbd.trans (hb3.mono hbd.size)) (hbd.trans (hb3.mono hbd.size)).size HGB.out HO3.out k y)
            go_roundg (k - 1)
            case measure => have := HG2.out; have := HKP.out; omega
            case rel => exact ⟨k - 1, R.set k y, by congr 1; have := HKP.out; omega, Lib.hid rfl, by have := HK.out; omega, Lib.hid HP.out.1, Lib.hid HP.out.2, HIS⟩
          · have HF := Lib.hid (HINS.out.next HUP.out.1 HUP.out.2 (.inr (by rw [← HYE.out, ← HZ.out]; omega)))
            have hcf : decide (0 < z) = false := decide_eq_false hc
            clear hc
            go_wp2_with (go_at_call 11; go_must (refine (HC _).out.mono ?_); rintro e w3 ⟨rfl, hb3⟩; have HO3 := Lib.hid (HOD.out.below hb3); have hfz := own_frozenN HO3.out (by omega) k; have hck := ownN_cell HO3.out (show k < i + 1 by omega))
            have HP := Lib.hid (ownN_put (hbd.trans (hb3.mono hbd.size)) (hbd.trans (hb3.mono hbd.size)).size HGB.out HO3.out k i)
            go_roundg (n - (i + 1))
            case measure => have := HG.out; have := HIN.out; omega
            case rel => exact ⟨i + 1, R.set k i, some ⟨g, 0, none⟩, cv, rfl, by go_num, by have := HIN.out; omega, HP.out.1, Lib.hid HP.out.2, HF⟩
    · have hin : i = n := by omega
      subst hin
      clear hg
      go_wp2
      go_ret
      exact ⟨_, _, rfl, S, HOW.out, HUP.out.2, HUP.out.1, hbw⟩
#print axioms refKeysSort_any
end Go.Proofs.Ytglgjhmcdkooiaa
