/-
  The walk of Last, whatever the claims are.
-/
import Derived.Test.YtipoielcmaegaaaGreatDoorRgLawAll
namespace Go.Proofs.YtipoielcmaegaaaGreatDoor
open Go.RowKit Go.Maps

/-- A document's last claim, or that there is none. -/
def LastIsP (L : List ClaimV) (d : KeyV) (X : ClaimV) (β : Bool) : Prop := (β = true ∧ RightR L ∧ IsLast L X ∧ X.doc = d) ∨ (β = false ∧ X = default ∧ (RightR L → ∀ c ∈ L, c.doc ≠ d))
theorem kl_zeroG : ∃ l, KlK (default : ClaimV).key l := Option.isSome_iff_exists.1 (by kernel_rfl)
theorem ok_defaultG : ClOk default := ⟨rfl, rfl, kl_zeroG, kl_zeroG, by decide⟩
theorem LastIsP.ok {L : List ClaimV} {d : KeyV} {X : ClaimV} {β : Bool} (h : LastIsP L d X β) (hL : ∀ c ∈ L, clK.ok c) : ClOk X := by
  rcases h with ⟨_, _, h, _⟩ | ⟨_, rfl, _⟩
  · exact hL X h.1
  · exact ok_defaultG
theorem lastP_some (L : List ClaimV) (d : KeyV) : ∃ X β, LastIsP L d X β := by
  by_cases hR : RightR L
  · by_cases h : ∃ c ∈ L, c.doc = d
    · obtain ⟨c, hc, hd⟩ := h
      obtain ⟨X, hX, hXd⟩ := last_exists hc
      exact ⟨X, true, .inl ⟨rfl, hR, hX, hXd.trans hd⟩⟩
    · exact ⟨default, false, .inr ⟨rfl, rfl, fun _ c hc e => h ⟨c, hc, e⟩⟩⟩
  · exact ⟨default, false, .inr ⟨rfl, rfl, fun h => absurd h hR⟩⟩
theorem counts_some (L : List ClaimV) : ∃ T, Counts L T := by
  by_cases hR : RightR L
  · exact ⟨L, .inl ⟨hR, rfl⟩⟩
  · exact ⟨[], .inr ⟨hR, rfl⟩⟩
theorem last_lookG {L T : List ClaimV} {D : DataW Unit} {X : ClaimV} {β : Bool} {d : KeyV} {kl : Lit} (hC : Counts L T) (hld : LastD T D) (hP : LastIsP L d X β) (hk : KlK d kl) : Maps.has D kl = β ∧ D.atKey kl (clD default) = clD X := by
  rcases hP with ⟨rfl, hR, hX, hd⟩ | ⟨rfl, rfl, hno⟩
  · rcases hC with ⟨_, rfl⟩ | ⟨h, _⟩
    · exact last_look hld ⟨hR, hX⟩ hk hd
    · exact absurd hR h
  · have hn : Maps.has D kl = false := by
      refine hld.none hk fun c hc e => ?_
      rcases hC with ⟨hR, rfl⟩ | ⟨_, rfl⟩
      · exact hno hR c hc e
      · cases hc
    exact ⟨hn, Maps.atKey_of_not_has hn _⟩

set_option maxRecDepth 100000 in
set_option maxHeartbeats 1600000 in
theorem lastG_any (a : Option Addr) (n c : Nat) (L : List ClaimV) (X : ClaimV) (β : Bool) (d : KeyV) (kl : Lit) (w : World) (h : AtG clK w a n c L) (hn : n ≤ 1000) (hl : ∀ c ∈ L, c.path.length ≤ 100000) (hT : PTabs w) (hdl : d.c.length = 32) (hkl : KlK d kl) (hP : LastIsP L d X β) :
    Calls Tryz.prog 12 #[.slice a n c, .agg (keyC d)] w fun e w' => e = .returned (.tuple #[.agg (claimC X), .bool β]) ∧ Below w.heap.size w w' := by
  have hok : ClOk X := hP.ok h.2.2.2.1
  obtain ⟨T, hC⟩ := counts_some L
  have HLA := Lib.hid (fun W (hW : Below w.heap.size w W) => lasts_any a n c L T W (h.below hW) hn hl (hT.below hW) hC)
  have HX := Lib.hid (fun D (hld : LastD T D) => last_lookG hC hld hP hkl)
  have HXO := Lib.hid hok
  have HXC : Hid (X.key.c.length = 32 ∧ X.doc.c.length = 32) := Lib.hid ⟨hok.1, hok.2.1⟩
  have HKL := Lib.hid hkl
  have HDL := Lib.hid hdl
  clear h hn hl hT hok hkl hP hdl hC
  go_enter Tryz.func12, Tryz.ntmps12
  go_wp2
  have HK3 : Hid (BlkAt 35 ((w.alloc (.cells (keyC d) 35)).alloc (.cells (claimC default) 40)) w.heap.size (keyL d)) := Lib.hid ((BlkAt.new w 35 (keyC d)).below ((Below.refl _ _).alloc (Nat.le_refl _) _))
  have HZ4 : Hid (∃ us, us.length = 70 ∧ BlkAt CEr ((w.alloc (.cells (keyC d) 35)).alloc (.cells (claimC default) 40)) (w.heap.size + 1) us) := Lib.hid ⟨_, rfl, by have := BlkAt.new (w.alloc (.cells (keyC d) 35)) CEr (claimC default); rwa [show (w.alloc (.cells (keyC d) 35)).heap.size = w.heap.size + 1 from by simp] at this⟩
  have HG4 : Hid (w.heap.size ≤ (w.heap.size + 1)) := Lib.hid (Nat.le_succ _)
  have HBB : Hid (Below w.heap.size w ((w.alloc (.cells (keyC d) 35)).alloc (.cells (claimC default) 40))) := Lib.hid (((Below.refl w.heap.size w).alloc (Nat.le_refl _) _).alloc (size_alloc_le _ _) _)
  rw [show Tryz.zeroCells40 = claimC default from by kernel_rfl]
  generalize hwb : (w.alloc (.cells (keyC d) 35)).alloc (.cells (claimC default) 40) = wb at HK3 HZ4 HBB ⊢
  generalize hg4 : (w.heap.size + 1) = g4 at HZ4 HG4 ⊢
  clear hwb hg4
  obtain ⟨us, hus, hbk4⟩ := HZ4.out
  have HZ4 := Lib.hid hbk4
  have HZL := Lib.hid hus
  clear hbk4 hus
  have HBd : Hid (Below wb.heap.size wb wb.drew) := Lib.hid (Below.refl _ _).drew
  refine wp_region_held_drew (S := fun W => Below wb.heap.size wb W) (by kernel_rfl) HBd.out (fun hHeld => ?_)
  refine wpAnyH_take (i := 0) (oi := ⟨some 9, .move (.tmp 0), _, _, _, _⟩) (v := (.slice a n c)) rfl (by kernel_rfl) (by kernel_rfl) (by kernel_rfl) (fun _ _ _ h => h) (Or.inl ⟨by rfl, fun W hW => by go_simp⟩) (by assumption) ?_
  simp only [Act.put, List.setIfInBounds_toArray, List.set_cons_zero, List.set_cons_succ]
  refine wpAnyH_take (i := 2) (oi := ⟨some 11, .load 35 (.tmp 3), _, _, _, _⟩) (v := (.agg (keyC d))) rfl (by kernel_rfl) (by kernel_rfl) (by kernel_rfl) (fun _ _ _ h => h) (Or.inl ⟨by rfl, fun W hW => exec_loadKey _ rfl _ _ d HDL.out rfl (HK3.out.below hW).range⟩) (by assumption) ?_
  simp only [Act.put, List.setIfInBounds_toArray, List.set_cons_zero, List.set_cons_succ]
  refine wpAnyH_ready (rs := [1, 7]) (by kernel_rfl) (by simp) ?_
  refine AllReadyH.cons (o := ⟨some 10, .call { callee := .value (.func 22), args := #[.tmp 9], argTypes := #[26] }, _, _, _, _⟩) rfl (fun K hK => ?_) (AllReadyH.cons (o := ⟨some 6, .alloc CEr, _, _, _, _⟩) rfl (fun K hK => ?_) AllReadyH.nil)
  · go_simp
    go_wp2_with (go_at_call 22; go_must (refine (HLA.out _ (HBB.out.trans (HBd.out.mono HBB.out.size))).mono ?_); rintro e wt ⟨g, k, D, rfl, _, _, hmap, hld, hb5⟩; have HMP := Lib.hid hmap; have HLK := Lib.hid (HX.out D hld); have HX1 := Lib.hid (HBd.out.trans (hb5.mono HBd.out.size)); have HBT := Lib.hid hb5; clear hmap hld hb5)
    refine hK.out _ _ HX1.out (fun hHeld => ?_)
    clear hK K
    refine wpAnyH_ready (rs := [3, 7]) (by kernel_rfl) (by simp) ?_
    refine AllReadyH.cons (o := ⟨some 12, .lookup 59 (.tmp 10) (.tmp 11) true, _, _, _, _⟩) rfl (fun K hK => ?_) (AllReadyH.cons (o := ⟨some 6, .alloc CEr, _, _, _, _⟩) rfl (fun K hK => ?_) AllReadyH.nil)
    · refine ready_step (wp_look _ _ rfl g k D HMP.out rfl d rfl kl HKL.out X β HLK.out.1 HLK.out.2 ?_)
      simp only [Act.put, List.setIfInBounds_toArray, List.set_cons_zero, List.set_cons_succ]
      refine hK.out _ _ HX1.out (fun hHeld => ?_)
      clear hK K
      refine wpAnyH_take (i := 4) (oi := ⟨some 8, .move (.tmp 12), _, _, _, _⟩) (v := (.tuple #[.agg (claimC X), .bool β])) rfl (by kernel_rfl) (by kernel_rfl) (by kernel_rfl) (fun _ _ _ h => h) (Or.inl ⟨by rfl, fun W hW => by go_simp⟩) (by assumption) ?_
      simp only [Act.put, List.setIfInBounds_toArray, List.set_cons_zero, List.set_cons_succ]
      refine wpAnyH_take (i := 5) (oi := ⟨some 13, .extract (.tmp 8) 0, _, _, _, _⟩) (v := (.agg (claimC X))) rfl (by kernel_rfl) (by kernel_rfl) (by kernel_rfl) (fun _ _ _ h => h) (Or.inl ⟨by rfl, fun W hW => by go_simp⟩) (by assumption) ?_
      simp only [Act.put, List.setIfInBounds_toArray, List.set_cons_zero, List.set_cons_succ]
      refine wpAnyH_take (i := 6) (oi := ⟨some 14, .extract (.tmp 8) 1, _, _, _, _⟩) (v := (.bool β)) rfl (by kernel_rfl) (by kernel_rfl) (by kernel_rfl) (fun _ _ _ h => h) (Or.inl ⟨by rfl, fun W hW => by go_simp⟩) (by assumption) ?_
      simp only [Act.put, List.setIfInBounds_toArray, List.set_cons_zero, List.set_cons_succ]
      refine wpAnyH_ready (rs := [7]) (by kernel_rfl) (by simp) ?_
      refine AllReadyH.cons (o := ⟨some 6, .alloc CEr, _, _, _, _⟩) rfl (fun K hK => ?_) AllReadyH.nil
      go_simp
      have HK0 := Lib.hid (BlkAt.new wt CEr (claimC default))
      have HX2 := Lib.hid (HX1.out.alloc HX1.out.size (.cells (claimC default) CEr))
      have HGK := Lib.hid (HX1.out.size)
      have HAB := Lib.hid ((Below.refl wt.heap.size wt).alloc (Nat.le_refl _) (.cells (claimC default) CEr))
      refine hK.out _ _ HX2.out (fun hHeld => ?_)
      clear hK K
      refine wpAnyH_ready (rs := [8]) (by kernel_rfl) (by simp) ?_
      refine AllReadyH.cons (o := ⟨none, .store CEr (.tmp 6) (.tmp 13), _, _, _, _⟩) rfl (fun K hK => ?_) AllReadyH.nil
      refine ready_step (wp_store_blk (vs := claimL X) HK0.out (size70L X HXC.out) (by rw [claimL_len HXC.out.1 HXC.out.2]; rfl) (claimL_one _) _ _ rfl rfl rfl ?_)
      intro Ws hks hgs
      have HBS := Lib.hid (HX2.out.grown hgs HX2.out.size (fun q hq => by cases hq; exact HGK.out))
      have HKS := Lib.hid hks
      clear hks hgs
      refine hK.out _ _ HBS.out (fun hHeld => ?_)
      clear hK K
      refine wpAnyH_take (i := 9) (oi := ⟨some 7, .assign (.tmp 14), _, _, _, _⟩) (v := (.bool β)) rfl (by kernel_rfl) (by kernel_rfl) (by kernel_rfl) (fun _ _ _ h => h) (Or.inl ⟨by rfl, fun W hW => by go_simp⟩) (by assumption) ?_
      simp only [Act.put, List.setIfInBounds_toArray, List.set_cons_zero, List.set_cons_succ]
      refine wpAnyH_done (by kernel_rfl) ?_ _
      go_wp2_with (first
        | ((with_reducible show wpList _ _ _ (⟨some 15, _, _, _, _, _⟩ :: _) _ _); go_must (refine wl_ex rfl (exec_loadClaim _ rfl _ _ X HXC.out rfl HKS.out.range) ?_))
        | ((with_reducible show wpList _ _ _ (⟨_, Op.store _ (.tmp 4) _, _, _, _, _⟩ :: _) _ _); go_must (refine store_blk (vs := claimL X) (HZ4.out.below HBS.out) (size70L X HXC.out) (by rw [claimL_len HXC.out.1 HXC.out.2]; exact HZL.out) (claimL_one _) rfl _ _ rfl rfl rfl ?_); intro W4 hk4 hg4))
      refine bodyPost_ret (results_blk2 (run_loadClaim HXO.out hk4.range) rfl _ rfl) rfl ?_
      refine ⟨rfl, ?_⟩
      exact (HBB.out.trans (HBS.out.mono HBB.out.size)).grown hg4 (HBB.out.trans (HBS.out.mono HBB.out.size)).size (fun q hq => by cases hq; exact HG4.out)
    · go_simp
      have HK0 := Lib.hid (BlkAt.new wt CEr (claimC default))
      have HX2 := Lib.hid (HX1.out.alloc HX1.out.size (.cells (claimC default) CEr))
      have HGK := Lib.hid (HX1.out.size)
      have HAB := Lib.hid ((Below.refl wt.heap.size wt).alloc (Nat.le_refl _) (.cells (claimC default) CEr))
      refine hK.out _ _ HX2.out (fun hHeld => ?_)
      clear hK K
      refine wpAnyH_ready (rs := [3]) (by kernel_rfl) (by simp) ?_
      refine AllReadyH.cons (o := ⟨some 12, .lookup 59 (.tmp 10) (.tmp 11) true, _, _, _, _⟩) rfl (fun K hK => ?_) AllReadyH.nil
      refine ready_step (wp_look _ _ rfl g k D (map_below HMP.out HAB.out) rfl d rfl kl HKL.out X β HLK.out.1 HLK.out.2 ?_)
      simp only [Act.put, List.setIfInBounds_toArray, List.set_cons_zero, List.set_cons_succ]
      refine hK.out _ _ HX2.out (fun hHeld => ?_)
      clear hK K
      refine wpAnyH_take (i := 4) (oi := ⟨some 8, .move (.tmp 12), _, _, _, _⟩) (v := (.tuple #[.agg (claimC X), .bool β])) rfl (by kernel_rfl) (by kernel_rfl) (by kernel_rfl) (fun _ _ _ h => h) (Or.inl ⟨by rfl, fun W hW => by go_simp⟩) (by assumption) ?_
      simp only [Act.put, List.setIfInBounds_toArray, List.set_cons_zero, List.set_cons_succ]
      refine wpAnyH_take (i := 5) (oi := ⟨some 13, .extract (.tmp 8) 0, _, _, _, _⟩) (v := (.agg (claimC X))) rfl (by kernel_rfl) (by kernel_rfl) (by kernel_rfl) (fun _ _ _ h => h) (Or.inl ⟨by rfl, fun W hW => by go_simp⟩) (by assumption) ?_
      simp only [Act.put, List.setIfInBounds_toArray, List.set_cons_zero, List.set_cons_succ]
      refine wpAnyH_take (i := 6) (oi := ⟨some 14, .extract (.tmp 8) 1, _, _, _, _⟩) (v := (.bool β)) rfl (by kernel_rfl) (by kernel_rfl) (by kernel_rfl) (fun _ _ _ h => h) (Or.inl ⟨by rfl, fun W hW => by go_simp⟩) (by assumption) ?_
      simp only [Act.put, List.setIfInBounds_toArray, List.set_cons_zero, List.set_cons_succ]
      refine wpAnyH_ready (rs := [8]) (by kernel_rfl) (by simp) ?_
      refine AllReadyH.cons (o := ⟨none, .store CEr (.tmp 6) (.tmp 13), _, _, _, _⟩) rfl (fun K hK => ?_) AllReadyH.nil
      refine ready_step (wp_store_blk (vs := claimL X) HK0.out (size70L X HXC.out) (by rw [claimL_len HXC.out.1 HXC.out.2]; rfl) (claimL_one _) _ _ rfl rfl rfl ?_)
      intro Ws hks hgs
      have HBS := Lib.hid (HX2.out.grown hgs HX2.out.size (fun q hq => by cases hq; exact HGK.out))
      have HKS := Lib.hid hks
      clear hks hgs
      refine hK.out _ _ HBS.out (fun hHeld => ?_)
      clear hK K
      refine wpAnyH_take (i := 9) (oi := ⟨some 7, .assign (.tmp 14), _, _, _, _⟩) (v := (.bool β)) rfl (by kernel_rfl) (by kernel_rfl) (by kernel_rfl) (fun _ _ _ h => h) (Or.inl ⟨by rfl, fun W hW => by go_simp⟩) (by assumption) ?_
      simp only [Act.put, List.setIfInBounds_toArray, List.set_cons_zero, List.set_cons_succ]
      refine wpAnyH_done (by kernel_rfl) ?_ _
      go_wp2_with (first
        | ((with_reducible show wpList _ _ _ (⟨some 15, _, _, _, _, _⟩ :: _) _ _); go_must (refine wl_ex rfl (exec_loadClaim _ rfl _ _ X HXC.out rfl HKS.out.range) ?_))
        | ((with_reducible show wpList _ _ _ (⟨_, Op.store _ (.tmp 4) _, _, _, _, _⟩ :: _) _ _); go_must (refine store_blk (vs := claimL X) (HZ4.out.below HBS.out) (size70L X HXC.out) (by rw [claimL_len HXC.out.1 HXC.out.2]; exact HZL.out) (claimL_one _) rfl _ _ rfl rfl rfl ?_); intro W4 hk4 hg4))
      refine bodyPost_ret (results_blk2 (run_loadClaim HXO.out hk4.range) rfl _ rfl) rfl ?_
      refine ⟨rfl, ?_⟩
      exact (HBB.out.trans (HBS.out.mono HBB.out.size)).grown hg4 (HBB.out.trans (HBS.out.mono HBB.out.size)).size (fun q hq => by cases hq; exact HG4.out)
  · go_simp
    have HK0 := Lib.hid (BlkAt.new wb.drew CEr (claimC default))
    have HX1 := Lib.hid (HBd.out.alloc HBd.out.size (.cells (claimC default) CEr))
    have HGK := Lib.hid (HBd.out.size)
    have HAB := Lib.hid ((Below.refl wb.drew.heap.size wb.drew).alloc (Nat.le_refl _) (.cells (claimC default) CEr))
    refine hK.out _ _ HX1.out (fun hHeld => ?_)
    clear hK K
    refine wpAnyH_ready (rs := [1]) (by kernel_rfl) (by simp) ?_
    refine AllReadyH.cons (o := ⟨some 10, .call { callee := .value (.func 22), args := #[.tmp 9], argTypes := #[26] }, _, _, _, _⟩) rfl (fun K hK => ?_) AllReadyH.nil
    go_simp
    go_wp2_with (go_at_call 22; go_must (refine (HLA.out _ (HBB.out.trans (HX1.out.mono HBB.out.size))).mono ?_); rintro e wt ⟨g, k, D, rfl, _, _, hmap, hld, hb5⟩; have HMP := Lib.hid hmap; have HLK := Lib.hid (HX.out D hld); have HX2 := Lib.hid (HX1.out.trans (hb5.mono HX1.out.size)); have HBT := Lib.hid hb5; clear hmap hld hb5)
    refine hK.out _ _ HX2.out (fun hHeld => ?_)
    clear hK K
    refine wpAnyH_ready (rs := [3]) (by kernel_rfl) (by simp) ?_
    refine AllReadyH.cons (o := ⟨some 12, .lookup 59 (.tmp 10) (.tmp 11) true, _, _, _, _⟩) rfl (fun K hK => ?_) AllReadyH.nil
    refine ready_step (wp_look _ _ rfl g k D HMP.out rfl d rfl kl HKL.out X β HLK.out.1 HLK.out.2 ?_)
    simp only [Act.put, List.setIfInBounds_toArray, List.set_cons_zero, List.set_cons_succ]
    refine hK.out _ _ HX2.out (fun hHeld => ?_)
    clear hK K
    refine wpAnyH_take (i := 4) (oi := ⟨some 8, .move (.tmp 12), _, _, _, _⟩) (v := (.tuple #[.agg (claimC X), .bool β])) rfl (by kernel_rfl) (by kernel_rfl) (by kernel_rfl) (fun _ _ _ h => h) (Or.inl ⟨by rfl, fun W hW => by go_simp⟩) (by assumption) ?_
    simp only [Act.put, List.setIfInBounds_toArray, List.set_cons_zero, List.set_cons_succ]
    refine wpAnyH_take (i := 5) (oi := ⟨some 13, .extract (.tmp 8) 0, _, _, _, _⟩) (v := (.agg (claimC X))) rfl (by kernel_rfl) (by kernel_rfl) (by kernel_rfl) (fun _ _ _ h => h) (Or.inl ⟨by rfl, fun W hW => by go_simp⟩) (by assumption) ?_
    simp only [Act.put, List.setIfInBounds_toArray, List.set_cons_zero, List.set_cons_succ]
    refine wpAnyH_take (i := 6) (oi := ⟨some 14, .extract (.tmp 8) 1, _, _, _, _⟩) (v := (.bool β)) rfl (by kernel_rfl) (by kernel_rfl) (by kernel_rfl) (fun _ _ _ h => h) (Or.inl ⟨by rfl, fun W hW => by go_simp⟩) (by assumption) ?_
    simp only [Act.put, List.setIfInBounds_toArray, List.set_cons_zero, List.set_cons_succ]
    refine wpAnyH_ready (rs := [8]) (by kernel_rfl) (by simp) ?_
    refine AllReadyH.cons (o := ⟨none, .store CEr (.tmp 6) (.tmp 13), _, _, _, _⟩) rfl (fun K hK => ?_) AllReadyH.nil
    refine ready_step (wp_store_blk (vs := claimL X) (HK0.out.below HBT.out) (size70L X HXC.out) (by rw [claimL_len HXC.out.1 HXC.out.2]; rfl) (claimL_one _) _ _ rfl rfl rfl ?_)
    intro Ws hks hgs
    have HBS := Lib.hid (HX2.out.grown hgs HX2.out.size (fun q hq => by cases hq; exact HGK.out))
    have HKS := Lib.hid hks
    clear hks hgs
    refine hK.out _ _ HBS.out (fun hHeld => ?_)
    clear hK K
    refine wpAnyH_take (i := 9) (oi := ⟨some 7, .assign (.tmp 14), _, _, _, _⟩) (v := (.bool β)) rfl (by kernel_rfl) (by kernel_rfl) (by kernel_rfl) (fun _ _ _ h => h) (Or.inl ⟨by rfl, fun W hW => by go_simp⟩) (by assumption) ?_
    simp only [Act.put, List.setIfInBounds_toArray, List.set_cons_zero, List.set_cons_succ]
    refine wpAnyH_done (by kernel_rfl) ?_ _
    go_wp2_with (first
      | ((with_reducible show wpList _ _ _ (⟨some 15, _, _, _, _, _⟩ :: _) _ _); go_must (refine wl_ex rfl (exec_loadClaim _ rfl _ _ X HXC.out rfl HKS.out.range) ?_))
      | ((with_reducible show wpList _ _ _ (⟨_, Op.store _ (.tmp 4) _, _, _, _, _⟩ :: _) _ _); go_must (refine store_blk (vs := claimL X) (HZ4.out.below HBS.out) (size70L X HXC.out) (by rw [claimL_len HXC.out.1 HXC.out.2]; exact HZL.out) (claimL_one _) rfl _ _ rfl rfl rfl ?_); intro W4 hk4 hg4))
    refine bodyPost_ret (results_blk2 (run_loadClaim HXO.out hk4.range) rfl _ rfl) rfl ?_
    refine ⟨rfl, ?_⟩
    exact (HBB.out.trans (HBS.out.mono HBB.out.size)).grown hg4 (HBB.out.trans (HBS.out.mono HBB.out.size)).size (fun q hq => by cases hq; exact HG4.out)
#print axioms lastG_any
end Go.Proofs.YtipoielcmaegaaaGreatDoor
