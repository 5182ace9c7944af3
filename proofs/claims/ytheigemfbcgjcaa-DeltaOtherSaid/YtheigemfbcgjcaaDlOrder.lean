/-
  The walk of inOrder: all places of some bytes, in order of what stands from there on.
-/
import Derived.Test.YtheigemfbcgjcaaDlMake
namespace Go.Proofs.Ytheigemfbcgjcaa
open Go.RowKit

theorem bytes_blocks {w W : World} {a : Option Addr} {n c : Nat} {l : List UInt8} (h : Bytes w a n c l) (hk : ∀ k, k < w.heap.size → W.heap[k]? = w.heap[k]?) : Bytes W a n c l := by
  refine ⟨h.1, h.2.1, h.2.2.1, ?_⟩
  rcases h.2.2.2 with h4 | ⟨b, off, ha, hc⟩
  · exact .inl h4
  · exact .inr ⟨b, off, ha, fun j hj => by rw [World.cell?_of_block (a := ⟨b, off + j, none⟩) (hk b (World.block_lt_of_cell? _ _ (hc j hj)))]; exact hc j hj⟩
open Go.Sort Go.Lib in
theorem swo_first (b : List UInt8) (m : Nat) : SWO (ltOf fun x y : Fin m => sgnF ((b.getD x.val 0).toNat : Nat) ((b.getD y.val 0).toNat : Nat)) where
  irrefl x := by unfold ltOf; rw [decide_eq_false_iff_not, sgn_lt]; omega
  trans x y z h1 h2 := by unfold ltOf at *; rw [decide_eq_true_iff, sgn_lt] at *; omega
  ntrans x y z h1 h2 := by unfold ltOf at *; rw [decide_eq_false_iff_not, sgn_lt] at *; omega
theorem first_sorts (gx gs gp gr gm n c : Nat) (a : Option Addr) (b : List UInt8) (R M : List Nat) (w0 w : World) (h : Srt w gs gp gr gm n (List.range n) 1 R M) (c0 : w.cell? ⟨gx, 0, none⟩ = some (.slice a n c)) (hx : gx ≠ gp) (hb : Bytes w0 a n c b) (hB : Below w0.heap.size w0 w) (hlo : w0.heap.size < gp) (hn : n ≤ 1000000) :
    Calls Try.prog 42 #[pS gp n, .func (.func 43) #[] #[.pointer (some ⟨gx, 0, none⟩)]] w fun e w' => e = .returned (.tuple #[]) ∧ ∃ L', L'.Perm (List.range n) ∧ L'.Pairwise (leK b 1) ∧ Srt w' gs gp gr gm n L' 1 R M ∧ w.grownBy w' (some gp) := by
  have hbn : b.length = n := hb.1
  rcases Nat.eq_zero_or_pos n with h0 | h0
  · subst h0
    have hN : Calls Try.prog 42 #[.slice (some ⟨gp, 0, none⟩) 0 0, .func (.func 43) #[] #[.pointer (some ⟨gx, 0, none⟩)]] w fun e w2 => e = .returned (.tuple #[]) ∧ w2 = w := Try.sortFunc_none (some ⟨gp, 0, none⟩) 0 (.func (.func 43) #[] #[.pointer (some ⟨gx, 0, none⟩)]) w
    refine hN.mono ?_
    rintro e w' ⟨rfl, rfl⟩
    exact ⟨rfl, [], by simp, List.Pairwise.nil, h, ⟨rfl, rfl, rfl, Nat.le_refl _, fun _ _ _ => rfl⟩⟩
  · have hI := ints_sort gp n 0 n n n (List.range n) w h.pl (Nat.zero_le _) (Nat.le_refl _) hn (fun x hx => List.mem_range.1 hx) h0 43 #[.pointer (some ⟨gx, 0, none⟩)] (fun x y => sgnF ((b.getD x 0).toNat : Nat) ((b.getD y 0).toNat : Nat)) (swo_first b n) (enters_of Try.func43 (by kernel_rfl) rfl) (fun W hk hs x y hx' hy' => by
      refine (firstc_any gx n c x y a b W (by rw [World.cell?_of_block (a := ⟨gx, 0, none⟩) (hk gx (World.block_lt_of_cell? _ _ c0) hx)]; exact c0) (bytes_blocks hb (fun k hk' => by rw [hk k (by have := hB.size; omega) (by omega)]; exact hB.block k hk')) hx' hy').mono ?_
      rintro e w' ⟨rfl, q, rfl⟩
      exact ⟨rfl, q, #[], by rw [Go.Sort.grow_empty]⟩)
    rw [Nat.sub_zero] at hI
    refine hI.mono ?_
    rintro e w' ⟨rfl, L', hL, _, _, h3, h4, hg⟩
    have hl : L'.length = n := hL.1
    rw [List.drop_zero, List.drop_zero, List.take_of_length_le (by omega), List.take_of_length_le (by simp)] at h3
    rw [List.drop_zero, List.take_of_length_le (by omega)] at h4
    refine ⟨rfl, L', h3, ?_, h.sorted hg hL, hg⟩
    refine (List.Pairwise.and_mem.1 h4).imp (fun {x y} hh => ?_)
    obtain ⟨hx', hy', hl'⟩ := hh
    have hxn : x < b.length := by rw [hbn]; exact List.mem_range.1 (h3.mem_iff.1 hx')
    have hyn : y < b.length := by rw [hbn]; exact List.mem_range.1 (h3.mem_iff.1 hy')
    unfold leK
    rw [keyB_one hxn, keyB_one hyn]
    rw [sgn_lt] at hl'
    have h5 := cmp_one (b.getD y 0) (b.getD x 0)
    have h6 := cmpB_swap [b.getD x 0] [b.getD y 0]
    omega
theorem range_of {P : List Nat} {n : Nat} (hl : P.length = n) (h : ∀ j, j < n → P.getD j 0 = j) : P = List.range n := by
  apply List.ext_getElem
  · simp [hl]
  · intro i h1 h2
    have := h i (by omega)
    rw [List.getD_eq_getElem?_getD, List.getElem?_eq_getElem h1] at this
    simpa using this
theorem map_of {R : List Nat} {b : List UInt8} (hl : R.length = b.length) (h : ∀ j, j < b.length → R.getD j 0 = (b.getD j 0).toNat) : R = b.map fun x => x.toNat := by
  apply List.ext_getElem
  · simp [hl]
  · intro i h1 h2
    have := h i (by omega)
    rw [List.getD_eq_getElem?_getD, List.getElem?_eq_getElem h1, List.getD_eq_getElem?_getD, List.getElem?_eq_getElem (by omega)] at this
    simpa using this
set_option maxRecDepth 100000 in
set_option maxHeartbeats 8000000 in
theorem inOrder_any (a : Option Addr) (n c : Nat) (b : List UInt8) (w : World) (h : Bytes w a n c b) (hn : n ≤ 1000000) :
    Calls Try.prog 29 #[.slice a n c] w fun e w' => ∃ g P, e = .returned (pS g n) ∧ InOrd b P ∧ IntsAt w' g n P ∧ w.heap.size < g ∧ Below w.heap.size w w' := by
  obtain ⟨w1, hw1⟩ : ∃ W, w.alloc (.cells #[.slice a n c] 22) = W := ⟨_, rfl⟩
  have hb1 : Below w.heap.size w w1 := hw1 ▸ (Below.refl _ _).alloc (Nat.le_refl _) _
  have HBd : Hid (Below w.heap.size w w1.drew) := Lib.hid hb1.drew
  have HCd : Hid (w1.drew.cell? ⟨w.heap.size, 0, none⟩ = some (.slice a n c)) := Lib.hid (show w1.cell? _ = _ by rw [← hw1]; simp)
  have HW1 := Lib.hid hw1
  have HN := Lib.hid hn
  have HS := Lib.hid h
  have HL := Lib.hid h.1
  have hnI : (n : Int) ≤ 1000000 := by omega
  have hn0 : (0 : Int) ≤ (n : Int) := by omega
  clear h hn hw1 hb1
  go_enter Try.func29, Try.ntmps29
  go_wp2
  rw [HW1.out]
  go_cut [3] from 6 to 16 (fun v3 W => ∃ gs gp gr gm, v3 = .pointer (some ⟨gs, 0, none⟩) ∧ Hid (Srt W gs gp gr gm n (List.replicate n 0) 1 (List.replicate n 0) (List.replicate n 0)) ∧ Hid (Below w.heap.size w W) ∧ Hid (W.cell? ⟨w.heap.size, 0, none⟩ = some (.slice a n c)) ∧ Hid (w.heap.size < gs ∧ w.heap.size < gp ∧ w.heap.size < gr ∧ w.heap.size < gm))
  case first =>
    refine wp_region_held_drew (S := fun W => W.cell? ⟨w.heap.size, 0, none⟩ = some (.slice a n c)) (by kernel_rfl) HCd.out (fun hHeld => ?_)
    generalize w1.drew = wd at HBd HCd hHeld ⊢
    refine wpAnyH_take (i := 0) (oi := ⟨some 6, .load 22 (.tmp 1), _, _, _, _⟩) (v := (.slice a n c)) rfl (by kernel_rfl) (by kernel_rfl) (by kernel_rfl) (fun _ _ _ h => h) (Or.inl ⟨by rfl, fun W hW => by have hcell := hW; go_simp⟩) (by assumption) ?_
    simp only [Act.put, List.setIfInBounds_toArray, List.set_cons_zero, List.set_cons_succ]
    refine wpAnyH_take (i := 1) (oi := ⟨some 7, .call { callee := .builtin .len, args := #[(.tmp 6)], argTypes := #[22] }, _, _, _, _⟩) (v := (.int .i64 (n : Nat))) rfl (by kernel_rfl) (by kernel_rfl) (by kernel_rfl) (fun _ _ _ h => h) (Or.inl ⟨by rfl, fun W hW => by go_simp⟩) (by assumption) ?_
    simp only [Act.put, List.setIfInBounds_toArray, List.set_cons_zero, List.set_cons_succ]
    refine wpAnyH_take (i := 3) (oi := ⟨some 9, .load 22 (.tmp 1), _, _, _, _⟩) (v := (.slice a n c)) rfl (by kernel_rfl) (by kernel_rfl) (by kernel_rfl) (fun _ _ _ h => h) (Or.inl ⟨by rfl, fun W hW => by have hcell := hW; go_simp⟩) (by assumption) ?_
    simp only [Act.put, List.setIfInBounds_toArray, List.set_cons_zero, List.set_cons_succ]
    refine wpAnyH_take (i := 4) (oi := ⟨some 10, .call { callee := .builtin .len, args := #[(.tmp 9)], argTypes := #[22] }, _, _, _, _⟩) (v := (.int .i64 (n : Nat))) rfl (by kernel_rfl) (by kernel_rfl) (by kernel_rfl) (fun _ _ _ h => h) (Or.inl ⟨by rfl, fun W hW => by go_simp⟩) (by assumption) ?_
    simp only [Act.put, List.setIfInBounds_toArray, List.set_cons_zero, List.set_cons_succ]
    refine wpAnyH_take (i := 6) (oi := ⟨some 12, .load 22 (.tmp 1), _, _, _, _⟩) (v := (.slice a n c)) rfl (by kernel_rfl) (by kernel_rfl) (by kernel_rfl) (fun _ _ _ h => h) (Or.inl ⟨by rfl, fun W hW => by have hcell := hW; go_simp⟩) (by assumption) ?_
    simp only [Act.put, List.setIfInBounds_toArray, List.set_cons_zero, List.set_cons_succ]
    refine wpAnyH_take (i := 7) (oi := ⟨some 13, .call { callee := .builtin .len, args := #[(.tmp 12)], argTypes := #[22] }, _, _, _, _⟩) (v := (.int .i64 (n : Nat))) rfl (by kernel_rfl) (by kernel_rfl) (by kernel_rfl) (fun _ _ _ h => h) (Or.inl ⟨by rfl, fun W hW => by go_simp⟩) (by assumption) ?_
    simp only [Act.put, List.setIfInBounds_toArray, List.set_cons_zero, List.set_cons_succ]
    refine wpAnyH_ready (rs := [2, 5, 8]) (by kernel_rfl) (by simp) ?_
    refine AllReadyH.cons (o := ⟨some 8, .makeSlice 53 (.tmp 7) (.tmp 7), _, _, _, _⟩) rfl (fun K hK => ?_) (AllReadyH.cons (o := ⟨some 11, .makeSlice 53 (.tmp 10) (.tmp 10), _, _, _, _⟩) rfl (fun K hK => ?_) (AllReadyH.cons (o := ⟨some 14, .makeSlice 53 (.tmp 13) (.tmp 13), _, _, _, _⟩) rfl (fun K hK => ?_) AllReadyH.nil))
    · refine wready (wp_makeI (.tmp 7) (.tmp 7) rfl n rfl rfl HN.out ?_)
      intro vp0 ho hb hs
      have HBvp0 := Lib.hid (HBd.out.trans (hb.mono HBd.out.size))
      have HCvp0 := Lib.hid ((hb.cell (World.block_lt_of_cell? _ _ HCd.out)).trans HCd.out)
      have HGvp0 := Lib.hid hs
      have HIpvp0 := Lib.hid ho
      clear ho hb hs
      refine hK.out _ _ HCvp0.out (fun hHeld => ?_)
      clear hK K
      refine wpAnyH_ready (rs := [5, 8]) (by kernel_rfl) (by simp) ?_
      refine AllReadyH.cons (o := ⟨some 11, .makeSlice 53 (.tmp 10) (.tmp 10), _, _, _, _⟩) rfl (fun K hK => ?_) (AllReadyH.cons (o := ⟨some 14, .makeSlice 53 (.tmp 13) (.tmp 13), _, _, _, _⟩) rfl (fun K hK => ?_) AllReadyH.nil)
      · refine wready (wp_makeI (.tmp 10) (.tmp 10) rfl n rfl rfl HN.out ?_)
        intro vr1 ho hb hs
        have HBvr1 := Lib.hid (HBvp0.out.trans (hb.mono HBvp0.out.size))
        have HCvr1 := Lib.hid ((hb.cell (World.block_lt_of_cell? _ _ HCvp0.out)).trans HCvp0.out)
        have HGvr1 := Lib.hid hs
        have HIrvr1 := Lib.hid ho
        have HIpvr1 := Lib.hid (HIpvp0.out.below hb)
        clear ho hb hs
        refine hK.out _ _ HCvr1.out (fun hHeld => ?_)
        clear hK K
        refine wpAnyH_ready (rs := [8]) (by kernel_rfl) (by simp) ?_
        refine AllReadyH.cons (o := ⟨some 14, .makeSlice 53 (.tmp 13) (.tmp 13), _, _, _, _⟩) rfl (fun K hK => ?_) AllReadyH.nil
        refine wready (wp_makeI (.tmp 13) (.tmp 13) rfl n rfl rfl HN.out ?_)
        intro vm2 ho hb hs
        have HBvm2 := Lib.hid (HBvr1.out.trans (hb.mono HBvr1.out.size))
        have HCvm2 := Lib.hid ((hb.cell (World.block_lt_of_cell? _ _ HCvr1.out)).trans HCvr1.out)
        have HGvm2 := Lib.hid hs
        have HImvm2 := Lib.hid ho
        have HIpvm2 := Lib.hid (HIpvr1.out.below hb)
        have HIrvm2 := Lib.hid (HIrvr1.out.below hb)
        clear ho hb hs
        refine hK.out _ _ HCvm2.out (fun hHeld => ?_)
        clear hK K
        refine wpAnyH_take (i := 9) (oi := ⟨some 15, .build 74 #[(0, (.tmp 8)), (1, (.const (.int .i64 1))), (2, (.tmp 11)), (3, (.tmp 14))], _, _, _, _⟩) (v := (.agg #[(.slice (some ⟨wd.heap.size, 0, none⟩) n n), .int .i64 1, (.slice (some ⟨vp0.heap.size, 0, none⟩) n n), (.slice (some ⟨vr1.heap.size, 0, none⟩) n n)])) rfl (by kernel_rfl) (by kernel_rfl) (by kernel_rfl) (fun _ _ _ h => h) (Or.inl ⟨by rfl, fun W hW => by go_simp⟩) (by assumption) ?_
        simp only [Act.put, List.setIfInBounds_toArray, List.set_cons_zero, List.set_cons_succ]
        refine wpAnyH_ready (rs := [10]) (by kernel_rfl) (by simp) ?_
        refine AllReadyH.cons (o := ⟨some 16, .box 74 (.tmp 15), _, _, _, _⟩) rfl (fun K hK => ?_) AllReadyH.nil
        refine wready ?_
        go_simp
        obtain ⟨vz, hvz⟩ : ∃ W, vm2.alloc (.cells #[pS (wd.heap.size) n, .int .i64 1, pS (vp0.heap.size) n, pS (vr1.heap.size) n] 74) = W := ⟨_, rfl⟩
        have HSR := Lib.hid (Srt.of_new HIpvm2.out HIrvm2.out HImvm2.out (by have := HGvp0.out; have := HGvr1.out; have := HGvm2.out; omega) (by have := HGvp0.out; have := HGvr1.out; have := HGvm2.out; omega) (by have := HGvp0.out; have := HGvr1.out; have := HGvm2.out; omega) vz hvz)
        have hbz : Below vm2.heap.size vm2 vz := hvz ▸ (Below.refl _ _).alloc (Nat.le_refl _) _
        have HBz := Lib.hid (HBvm2.out.trans (hbz.mono HBvm2.out.size))
        have HCz := Lib.hid ((hbz.cell (World.block_lt_of_cell? _ _ HCvm2.out)).trans HCvm2.out)
        have HLO := Lib.hid (show w.heap.size < vm2.heap.size ∧ w.heap.size < wd.heap.size ∧ w.heap.size < vp0.heap.size ∧ w.heap.size < vr1.heap.size by have h0 : w.heap.size < wd.heap.size := World.block_lt_of_cell? _ _ HCd.out; have := HGvp0.out; have := HGvr1.out; have := HGvm2.out; exact ⟨by omega, by omega, by omega, by omega⟩)
        clear hbz
        unfold pS at hvz
        rw [hvz]
        clear hvz
        refine hK.out _ _ HCz.out (fun hHeld => ?_)
        clear hK K
        refine wpAnyH_take (i := 11) (oi := ⟨some 3, .assign (.tmp 16), _, _, _, _⟩) (v := (.pointer (some ⟨vm2.heap.size, 0, none⟩))) rfl (by kernel_rfl) (by kernel_rfl) (by kernel_rfl) (fun _ _ _ h => h) (Or.inl ⟨by rfl, fun W hW => by go_simp⟩) (by assumption) ?_
        simp only [Act.put, List.setIfInBounds_toArray, List.set_cons_zero, List.set_cons_succ]
        refine wpAnyH_done (by kernel_rfl) ?_ _
        go_wp2_with fail
        go_meet
        exact ⟨vm2.heap.size, wd.heap.size, vp0.heap.size, vr1.heap.size, rfl, HSR, HBz, HCz, HLO⟩
      · refine wready (wp_makeI (.tmp 13) (.tmp 13) rfl n rfl rfl HN.out ?_)
        intro vm1 ho hb hs
        have HBvm1 := Lib.hid (HBvp0.out.trans (hb.mono HBvp0.out.size))
        have HCvm1 := Lib.hid ((hb.cell (World.block_lt_of_cell? _ _ HCvp0.out)).trans HCvp0.out)
        have HGvm1 := Lib.hid hs
        have HImvm1 := Lib.hid ho
        have HIpvm1 := Lib.hid (HIpvp0.out.below hb)
        clear ho hb hs
        refine hK.out _ _ HCvm1.out (fun hHeld => ?_)
        clear hK K
        refine wpAnyH_ready (rs := [5]) (by kernel_rfl) (by simp) ?_
        refine AllReadyH.cons (o := ⟨some 11, .makeSlice 53 (.tmp 10) (.tmp 10), _, _, _, _⟩) rfl (fun K hK => ?_) AllReadyH.nil
        refine wready (wp_makeI (.tmp 10) (.tmp 10) rfl n rfl rfl HN.out ?_)
        intro vr2 ho hb hs
        have HBvr2 := Lib.hid (HBvm1.out.trans (hb.mono HBvm1.out.size))
        have HCvr2 := Lib.hid ((hb.cell (World.block_lt_of_cell? _ _ HCvm1.out)).trans HCvm1.out)
        have HGvr2 := Lib.hid hs
        have HIrvr2 := Lib.hid ho
        have HIpvr2 := Lib.hid (HIpvm1.out.below hb)
        have HImvr2 := Lib.hid (HImvm1.out.below hb)
        clear ho hb hs
        refine hK.out _ _ HCvr2.out (fun hHeld => ?_)
        clear hK K
        refine wpAnyH_take (i := 9) (oi := ⟨some 15, .build 74 #[(0, (.tmp 8)), (1, (.const (.int .i64 1))), (2, (.tmp 11)), (3, (.tmp 14))], _, _, _, _⟩) (v := (.agg #[(.slice (some ⟨wd.heap.size, 0, none⟩) n n), .int .i64 1, (.slice (some ⟨vm1.heap.size, 0, none⟩) n n), (.slice (some ⟨vp0.heap.size, 0, none⟩) n n)])) rfl (by kernel_rfl) (by kernel_rfl) (by kernel_rfl) (fun _ _ _ h => h) (Or.inl ⟨by rfl, fun W hW => by go_simp⟩) (by assumption) ?_
        simp only [Act.put, List.setIfInBounds_toArray, List.set_cons_zero, List.set_cons_succ]
        refine wpAnyH_ready (rs := [10]) (by kernel_rfl) (by simp) ?_
        refine AllReadyH.cons (o := ⟨some 16, .box 74 (.tmp 15), _, _, _, _⟩) rfl (fun K hK => ?_) AllReadyH.nil
        refine wready ?_
        go_simp
        obtain ⟨vz, hvz⟩ : ∃ W, vr2.alloc (.cells #[pS (wd.heap.size) n, .int .i64 1, pS (vm1.heap.size) n, pS (vp0.heap.size) n] 74) = W := ⟨_, rfl⟩
        have HSR := Lib.hid (Srt.of_new HIpvr2.out HIrvr2.out HImvr2.out (by have := HGvp0.out; have := HGvm1.out; have := HGvr2.out; omega) (by have := HGvp0.out; have := HGvm1.out; have := HGvr2.out; omega) (by have := HGvp0.out; have := HGvm1.out; have := HGvr2.out; omega) vz hvz)
        have hbz : Below vr2.heap.size vr2 vz := hvz ▸ (Below.refl _ _).alloc (Nat.le_refl _) _
        have HBz := Lib.hid (HBvr2.out.trans (hbz.mono HBvr2.out.size))
        have HCz := Lib.hid ((hbz.cell (World.block_lt_of_cell? _ _ HCvr2.out)).trans HCvr2.out)
        have HLO := Lib.hid (show w.heap.size < vr2.heap.size ∧ w.heap.size < wd.heap.size ∧ w.heap.size < vm1.heap.size ∧ w.heap.size < vp0.heap.size by have h0 : w.heap.size < wd.heap.size := World.block_lt_of_cell? _ _ HCd.out; have := HGvp0.out; have := HGvm1.out; have := HGvr2.out; exact ⟨by omega, by omega, by omega, by omega⟩)
        clear hbz
        unfold pS at hvz
        rw [hvz]
        clear hvz
        refine hK.out _ _ HCz.out (fun hHeld => ?_)
        clear hK K
        refine wpAnyH_take (i := 11) (oi := ⟨some 3, .assign (.tmp 16), _, _, _, _⟩) (v := (.pointer (some ⟨vr2.heap.size, 0, none⟩))) rfl (by kernel_rfl) (by kernel_rfl) (by kernel_rfl) (fun _ _ _ h => h) (Or.inl ⟨by rfl, fun W hW => by go_simp⟩) (by assumption) ?_
        simp only [Act.put, List.setIfInBounds_toArray, List.set_cons_zero, List.set_cons_succ]
        refine wpAnyH_done (by kernel_rfl) ?_ _
        go_wp2_with fail
        go_meet
        exact ⟨vr2.heap.size, wd.heap.size, vm1.heap.size, vp0.heap.size, rfl, HSR, HBz, HCz, HLO⟩
    · refine wready (wp_makeI (.tmp 10) (.tmp 10) rfl n rfl rfl HN.out ?_)
      intro vr0 ho hb hs
      have HBvr0 := Lib.hid (HBd.out.trans (hb.mono HBd.out.size))
      have HCvr0 := Lib.hid ((hb.cell (World.block_lt_of_cell? _ _ HCd.out)).trans HCd.out)
      have HGvr0 := Lib.hid hs
      have HIrvr0 := Lib.hid ho
      clear ho hb hs
      refine hK.out _ _ HCvr0.out (fun hHeld => ?_)
      clear hK K
      refine wpAnyH_ready (rs := [2, 8]) (by kernel_rfl) (by simp) ?_
      refine AllReadyH.cons (o := ⟨some 8, .makeSlice 53 (.tmp 7) (.tmp 7), _, _, _, _⟩) rfl (fun K hK => ?_) (AllReadyH.cons (o := ⟨some 14, .makeSlice 53 (.tmp 13) (.tmp 13), _, _, _, _⟩) rfl (fun K hK => ?_) AllReadyH.nil)
      · refine wready (wp_makeI (.tmp 7) (.tmp 7) rfl n rfl rfl HN.out ?_)
        intro vp1 ho hb hs
        have HBvp1 := Lib.hid (HBvr0.out.trans (hb.mono HBvr0.out.size))
        have HCvp1 := Lib.hid ((hb.cell (World.block_lt_of_cell? _ _ HCvr0.out)).trans HCvr0.out)
        have HGvp1 := Lib.hid hs
        have HIpvp1 := Lib.hid ho
        have HIrvp1 := Lib.hid (HIrvr0.out.below hb)
        clear ho hb hs
        refine hK.out _ _ HCvp1.out (fun hHeld => ?_)
        clear hK K
        refine wpAnyH_ready (rs := [8]) (by kernel_rfl) (by simp) ?_
        refine AllReadyH.cons (o := ⟨some 14, .makeSlice 53 (.tmp 13) (.tmp 13), _, _, _, _⟩) rfl (fun K hK => ?_) AllReadyH.nil
        refine wready (wp_makeI (.tmp 13) (.tmp 13) rfl n rfl rfl HN.out ?_)
        intro vm2 ho hb hs
        have HBvm2 := Lib.hid (HBvp1.out.trans (hb.mono HBvp1.out.size))
        have HCvm2 := Lib.hid ((hb.cell (World.block_lt_of_cell? _ _ HCvp1.out)).trans HCvp1.out)
        have HGvm2 := Lib.hid hs
        have HImvm2 := Lib.hid ho
        have HIrvm2 := Lib.hid (HIrvp1.out.below hb)
        have HIpvm2 := Lib.hid (HIpvp1.out.below hb)
        clear ho hb hs
        refine hK.out _ _ HCvm2.out (fun hHeld => ?_)
        clear hK K
        refine wpAnyH_take (i := 9) (oi := ⟨some 15, .build 74 #[(0, (.tmp 8)), (1, (.const (.int .i64 1))), (2, (.tmp 11)), (3, (.tmp 14))], _, _, _, _⟩) (v := (.agg #[(.slice (some ⟨vr0.heap.size, 0, none⟩) n n), .int .i64 1, (.slice (some ⟨wd.heap.size, 0, none⟩) n n), (.slice (some ⟨vp1.heap.size, 0, none⟩) n n)])) rfl (by kernel_rfl) (by kernel_rfl) (by kernel_rfl) (fun _ _ _ h => h) (Or.inl ⟨by rfl, fun W hW => by go_simp⟩) (by assumption) ?_
        simp only [Act.put, List.setIfInBounds_toArray, List.set_cons_zero, List.set_cons_succ]
        refine wpAnyH_ready (rs := [10]) (by kernel_rfl) (by simp) ?_
        refine AllReadyH.cons (o := ⟨some 16, .box 74 (.tmp 15), _, _, _, _⟩) rfl (fun K hK => ?_) AllReadyH.nil
        refine wready ?_
        go_simp
        obtain ⟨vz, hvz⟩ : ∃ W, vm2.alloc (.cells #[pS (vr0.heap.size) n, .int .i64 1, pS (wd.heap.size) n, pS (vp1.heap.size) n] 74) = W := ⟨_, rfl⟩
        have HSR := Lib.hid (Srt.of_new HIpvm2.out HIrvm2.out HImvm2.out (by have := HGvr0.out; have := HGvp1.out; have := HGvm2.out; omega) (by have := HGvr0.out; have := HGvp1.out; have := HGvm2.out; omega) (by have := HGvr0.out; have := HGvp1.out; have := HGvm2.out; omega) vz hvz)
        have hbz : Below vm2.heap.size vm2 vz := hvz ▸ (Below.refl _ _).alloc (Nat.le_refl _) _
        have HBz := Lib.hid (HBvm2.out.trans (hbz.mono HBvm2.out.size))
        have HCz := Lib.hid ((hbz.cell (World.block_lt_of_cell? _ _ HCvm2.out)).trans HCvm2.out)
        have HLO := Lib.hid (show w.heap.size < vm2.heap.size ∧ w.heap.size < vr0.heap.size ∧ w.heap.size < wd.heap.size ∧ w.heap.size < vp1.heap.size by have h0 : w.heap.size < wd.heap.size := World.block_lt_of_cell? _ _ HCd.out; have := HGvr0.out; have := HGvp1.out; have := HGvm2.out; exact ⟨by omega, by omega, by omega, by omega⟩)
        clear hbz
        unfold pS at hvz
        rw [hvz]
        clear hvz
        refine hK.out _ _ HCz.out (fun hHeld => ?_)
        clear hK K
        refine wpAnyH_take (i := 11) (oi := ⟨some 3, .assign (.tmp 16), _, _, _, _⟩) (v := (.pointer (some ⟨vm2.heap.size, 0, none⟩))) rfl (by kernel_rfl) (by kernel_rfl) (by kernel_rfl) (fun _ _ _ h => h) (Or.inl ⟨by rfl, fun W hW => by go_simp⟩) (by assumption) ?_
        simp only [Act.put, List.setIfInBounds_toArray, List.set_cons_zero, List.set_cons_succ]
        refine wpAnyH_done (by kernel_rfl) ?_ _
        go_wp2_with fail
        go_meet
        exact ⟨vm2.heap.size, vr0.heap.size, wd.heap.size, vp1.heap.size, rfl, HSR, HBz, HCz, HLO⟩
      · refine wready (wp_makeI (.tmp 13) (.tmp 13) rfl n rfl rfl HN.out ?_)
        intro vm1 ho hb hs
        have HBvm1 := Lib.hid (HBvr0.out.trans (hb.mono HBvr0.out.size))
        have HCvm1 := Lib.hid ((hb.cell (World.block_lt_of_cell? _ _ HCvr0.out)).trans HCvr0.out)
        have HGvm1 := Lib.hid hs
        have HImvm1 := Lib.hid ho
        have HIrvm1 := Lib.hid (HIrvr0.out.below hb)
        clear ho hb hs
        refine hK.out _ _ HCvm1.out (fun hHeld => ?_)
        clear hK K
        refine wpAnyH_ready (rs := [2]) (by kernel_rfl) (by simp) ?_
        refine AllReadyH.cons (o := ⟨some 8, .makeSlice 53 (.tmp 7) (.tmp 7), _, _, _, _⟩) rfl (fun K hK => ?_) AllReadyH.nil
        refine wready (wp_makeI (.tmp 7) (.tmp 7) rfl n rfl rfl HN.out ?_)
        intro vp2 ho hb hs
        have HBvp2 := Lib.hid (HBvm1.out.trans (hb.mono HBvm1.out.size))
        have HCvp2 := Lib.hid ((hb.cell (World.block_lt_of_cell? _ _ HCvm1.out)).trans HCvm1.out)
        have HGvp2 := Lib.hid hs
        have HIpvp2 := Lib.hid ho
        have HIrvp2 := Lib.hid (HIrvm1.out.below hb)
        have HImvp2 := Lib.hid (HImvm1.out.below hb)
        clear ho hb hs
        refine hK.out _ _ HCvp2.out (fun hHeld => ?_)
        clear hK K
        refine wpAnyH_take (i := 9) (oi := ⟨some 15, .build 74 #[(0, (.tmp 8)), (1, (.const (.int .i64 1))), (2, (.tmp 11)), (3, (.tmp 14))], _, _, _, _⟩) (v := (.agg #[(.slice (some ⟨vm1.heap.size, 0, none⟩) n n), .int .i64 1, (.slice (some ⟨wd.heap.size, 0, none⟩) n n), (.slice (some ⟨vr0.heap.size, 0, none⟩) n n)])) rfl (by kernel_rfl) (by kernel_rfl) (by kernel_rfl) (fun _ _ _ h => h) (Or.inl ⟨by rfl, fun W hW => by go_simp⟩) (by assumption) ?_
        simp only [Act.put, List.setIfInBounds_toArray, List.set_cons_zero, List.set_cons_succ]
        refine wpAnyH_ready (rs := [10]) (by kernel_rfl) (by simp) ?_
        refine AllReadyH.cons (o := ⟨some 16, .box 74 (.tmp 15), _, _, _, _⟩) rfl (fun K hK => ?_) AllReadyH.nil
        refine wready ?_
        go_simp
        obtain ⟨vz, hvz⟩ : ∃ W, vp2.alloc (.cells #[pS (vm1.heap.size) n, .int .i64 1, pS (wd.heap.size) n, pS (vr0.heap.size) n] 74) = W := ⟨_, rfl⟩
        have HSR := Lib.hid (Srt.of_new HIpvp2.out HIrvp2.out HImvp2.out (by have := HGvr0.out; have := HGvm1.out; have := HGvp2.out; omega) (by have := HGvr0.out; have := HGvm1.out; have := HGvp2.out; omega) (by have := HGvr0.out; have := HGvm1.out; have := HGvp2.out; omega) vz hvz)
        have hbz : Below vp2.heap.size vp2 vz := hvz ▸ (Below.refl _ _).alloc (Nat.le_refl _) _
        have HBz := Lib.hid (HBvp2.out.trans (hbz.mono HBvp2.out.size))
        have HCz := Lib.hid ((hbz.cell (World.block_lt_of_cell? _ _ HCvp2.out)).trans HCvp2.out)
        have HLO := Lib.hid (show w.heap.size < vp2.heap.size ∧ w.heap.size < vm1.heap.size ∧ w.heap.size < wd.heap.size ∧ w.heap.size < vr0.heap.size by have h0 : w.heap.size < wd.heap.size := World.block_lt_of_cell? _ _ HCd.out; have := HGvr0.out; have := HGvm1.out; have := HGvp2.out; exact ⟨by omega, by omega, by omega, by omega⟩)
        clear hbz
        unfold pS at hvz
        rw [hvz]
        clear hvz
        refine hK.out _ _ HCz.out (fun hHeld => ?_)
        clear hK K
        refine wpAnyH_take (i := 11) (oi := ⟨some 3, .assign (.tmp 16), _, _, _, _⟩) (v := (.pointer (some ⟨vp2.heap.size, 0, none⟩))) rfl (by kernel_rfl) (by kernel_rfl) (by kernel_rfl) (fun _ _ _ h => h) (Or.inl ⟨by rfl, fun W hW => by go_simp⟩) (by assumption) ?_
        simp only [Act.put, List.setIfInBounds_toArray, List.set_cons_zero, List.set_cons_succ]
        refine wpAnyH_done (by kernel_rfl) ?_ _
        go_wp2_with fail
        go_meet
        exact ⟨vp2.heap.size, vm1.heap.size, wd.heap.size, vr0.heap.size, rfl, HSR, HBz, HCz, HLO⟩
    · refine wready (wp_makeI (.tmp 13) (.tmp 13) rfl n rfl rfl HN.out ?_)
      intro vm0 ho hb hs
      have HBvm0 := Lib.hid (HBd.out.trans (hb.mono HBd.out.size))
      have HCvm0 := Lib.hid ((hb.cell (World.block_lt_of_cell? _ _ HCd.out)).trans HCd.out)
      have HGvm0 := Lib.hid hs
      have HImvm0 := Lib.hid ho
      clear ho hb hs
      refine hK.out _ _ HCvm0.out (fun hHeld => ?_)
      clear hK K
      refine wpAnyH_ready (rs := [2, 5]) (by kernel_rfl) (by simp) ?_
      refine AllReadyH.cons (o := ⟨some 8, .makeSlice 53 (.tmp 7) (.tmp 7), _, _, _, _⟩) rfl (fun K hK => ?_) (AllReadyH.cons (o := ⟨some 11, .makeSlice 53 (.tmp 10) (.tmp 10), _, _, _, _⟩) rfl (fun K hK => ?_) AllReadyH.nil)
      · refine wready (wp_makeI (.tmp 7) (.tmp 7) rfl n rfl rfl HN.out ?_)
        intro vp1 ho hb hs
        have HBvp1 := Lib.hid (HBvm0.out.trans (hb.mono HBvm0.out.size))
        have HCvp1 := Lib.hid ((hb.cell (World.block_lt_of_cell? _ _ HCvm0.out)).trans HCvm0.out)
        have HGvp1 := Lib.hid hs
        have HIpvp1 := Lib.hid ho
        have HImvp1 := Lib.hid (HImvm0.out.below hb)
        clear ho hb hs
        refine hK.out _ _ HCvp1.out (fun hHeld => ?_)
        clear hK K
        refine wpAnyH_ready (rs := [5]) (by kernel_rfl) (by simp) ?_
        refine AllReadyH.cons (o := ⟨some 11, .makeSlice 53 (.tmp 10) (.tmp 10), _, _, _, _⟩) rfl (fun K hK => ?_) AllReadyH.nil
        refine wready (wp_makeI (.tmp 10) (.tmp 10) rfl n rfl rfl HN.out ?_)
        intro vr2 ho hb hs
        have HBvr2 := Lib.hid (HBvp1.out.trans (hb.mono HBvp1.out.size))
        have HCvr2 := Lib.hid ((hb.cell (World.block_lt_of_cell? _ _ HCvp1.out)).trans HCvp1.out)
        have HGvr2 := Lib.hid hs
        have HIrvr2 := Lib.hid ho
        have HImvr2 := Lib.hid (HImvp1.out.below hb)
        have HIpvr2 := Lib.hid (HIpvp1.out.below hb)
        clear ho hb hs
        refine hK.out _ _ HCvr2.out (fun hHeld => ?_)
        clear hK K
        refine wpAnyH_take (i := 9) (oi := ⟨some 15, .build 74 #[(0, (.tmp 8)), (1, (.const (.int .i64 1))), (2, (.tmp 11)), (3, (.tmp 14))], _, _, _, _⟩) (v := (.agg #[(.slice (some ⟨vm0.heap.size, 0, none⟩) n n), .int .i64 1, (.slice (some ⟨vp1.heap.size, 0, none⟩) n n), (.slice (some ⟨wd.heap.size, 0, none⟩) n n)])) rfl (by kernel_rfl) (by kernel_rfl) (by kernel_rfl) (fun _ _ _ h => h) (Or.inl ⟨by rfl, fun W hW => by go_simp⟩) (by assumption) ?_
        simp only [Act.put, List.setIfInBounds_toArray, List.set_cons_zero, List.set_cons_succ]
        refine wpAnyH_ready (rs := [10]) (by kernel_rfl) (by simp) ?_
        refine AllReadyH.cons (o := ⟨some 16, .box 74 (.tmp 15), _, _, _, _⟩) rfl (fun K hK => ?_) AllReadyH.nil
        refine wready ?_
        go_simp
        obtain ⟨vz, hvz⟩ : ∃ W, vr2.alloc (.cells #[pS (vm0.heap.size) n, .int .i64 1, pS (vp1.heap.size) n, pS (wd.heap.size) n] 74) = W := ⟨_, rfl⟩
        have HSR := Lib.hid (Srt.of_new HIpvr2.out HIrvr2.out HImvr2.out (by have := HGvm0.out; have := HGvp1.out; have := HGvr2.out; omega) (by have := HGvm0.out; have := HGvp1.out; have := HGvr2.out; omega) (by have := HGvm0.out; have := HGvp1.out; have := HGvr2.out; omega) vz hvz)
        have hbz : Below vr2.heap.size vr2 vz := hvz ▸ (Below.refl _ _).alloc (Nat.le_refl _) _
        have HBz := Lib.hid (HBvr2.out.trans (hbz.mono HBvr2.out.size))
        have HCz := Lib.hid ((hbz.cell (World.block_lt_of_cell? _ _ HCvr2.out)).trans HCvr2.out)
        have HLO := Lib.hid (show w.heap.size < vr2.heap.size ∧ w.heap.size < vm0.heap.size ∧ w.heap.size < vp1.heap.size ∧ w.heap.size < wd.heap.size by have h0 : w.heap.size < wd.heap.size := World.block_lt_of_cell? _ _ HCd.out; have := HGvm0.out; have := HGvp1.out; have := HGvr2.out; exact ⟨by omega, by omega, by omega, by omega⟩)
        clear hbz
        unfold pS at hvz
        rw [hvz]
        clear hvz
        refine hK.out _ _ HCz.out (fun hHeld => ?_)
        clear hK K
        refine wpAnyH_take (i := 11) (oi := ⟨some 3, .assign (.tmp 16), _, _, _, _⟩) (v := (.pointer (some ⟨vr2.heap.size, 0, none⟩))) rfl (by kernel_rfl) (by kernel_rfl) (by kernel_rfl) (fun _ _ _ h => h) (Or.inl ⟨by rfl, fun W hW => by go_simp⟩) (by assumption) ?_
        simp only [Act.put, List.setIfInBounds_toArray, List.set_cons_zero, List.set_cons_succ]
        refine wpAnyH_done (by kernel_rfl) ?_ _
        go_wp2_with fail
        go_meet
        exact ⟨vr2.heap.size, vm0.heap.size, vp1.heap.size, wd.heap.size, rfl, HSR, HBz, HCz, HLO⟩
      · refine wready (wp_makeI (.tmp 10) (.tmp 10) rfl n rfl rfl HN.out ?_)
        intro vr1 ho hb hs
        have HBvr1 := Lib.hid (HBvm0.out.trans (hb.mono HBvm0.out.size))
        have HCvr1 := Lib.hid ((hb.cell (World.block_lt_of_cell? _ _ HCvm0.out)).trans HCvm0.out)
        have HGvr1 := Lib.hid hs
        have HIrvr1 := Lib.hid ho
        have HImvr1 := Lib.hid (HImvm0.out.below hb)
        clear ho hb hs
        refine hK.out _ _ HCvr1.out (fun hHeld => ?_)
        clear hK K
        refine wpAnyH_ready (rs := [2]) (by kernel_rfl) (by simp) ?_
        refine AllReadyH.cons (o := ⟨some 8, .makeSlice 53 (.tmp 7) (.tmp 7), _, _, _, _⟩) rfl (fun K hK => ?_) AllReadyH.nil
        refine wready (wp_makeI (.tmp 7) (.tmp 7) rfl n rfl rfl HN.out ?_)
        intro vp2 ho hb hs
        have HBvp2 := Lib.hid (HBvr1.out.trans (hb.mono HBvr1.out.size))
        have HCvp2 := Lib.hid ((hb.cell (World.block_lt_of_cell? _ _ HCvr1.out)).trans HCvr1.out)
        have HGvp2 := Lib.hid hs
        have HIpvp2 := Lib.hid ho
        have HImvp2 := Lib.hid (HImvr1.out.below hb)
        have HIrvp2 := Lib.hid (HIrvr1.out.below hb)
        clear ho hb hs
        refine hK.out _ _ HCvp2.out (fun hHeld => ?_)
        clear hK K
        refine wpAnyH_take (i := 9) (oi := ⟨some 15, .build 74 #[(0, (.tmp 8)), (1, (.const (.int .i64 1))), (2, (.tmp 11)), (3, (.tmp 14))], _, _, _, _⟩) (v := (.agg #[(.slice (some ⟨vr1.heap.size, 0, none⟩) n n), .int .i64 1, (.slice (some ⟨vm0.heap.size, 0, none⟩) n n), (.slice (some ⟨wd.heap.size, 0, none⟩) n n)])) rfl (by kernel_rfl) (by kernel_rfl) (by kernel_rfl) (fun _ _ _ h => h) (Or.inl ⟨by rfl, fun W hW => by go_simp⟩) (by assumption) ?_
        simp only [Act.put, List.setIfInBounds_toArray, List.set_cons_zero, List.set_cons_succ]
        refine wpAnyH_ready (rs := [10]) (by kernel_rfl) (by simp) ?_
        refine AllReadyH.cons (o := ⟨some 16, .box 74 (.tmp 15), _, _, _, _⟩) rfl (fun K hK => ?_) AllReadyH.nil
        refine wready ?_
        go_simp
        obtain ⟨vz, hvz⟩ : ∃ W, vp2.alloc (.cells #[pS (vr1.heap.size) n, .int .i64 1, pS (vm0.heap.size) n, pS (wd.heap.size) n] 74) = W := ⟨_, rfl⟩
        have HSR := Lib.hid (Srt.of_new HIpvp2.out HIrvp2.out HImvp2.out (by have := HGvm0.out; have := HGvr1.out; have := HGvp2.out; omega) (by have := HGvm0.out; have := HGvr1.out; have := HGvp2.out; omega) (by have := HGvm0.out; have := HGvr1.out; have := HGvp2.out; omega) vz hvz)
        have hbz : Below vp2.heap.size vp2 vz := hvz ▸ (Below.refl _ _).alloc (Nat.le_refl _) _
        have HBz := Lib.hid (HBvp2.out.trans (hbz.mono HBvp2.out.size))
        have HCz := Lib.hid ((hbz.cell (World.block_lt_of_cell? _ _ HCvp2.out)).trans HCvp2.out)
        have HLO := Lib.hid (show w.heap.size < vp2.heap.size ∧ w.heap.size < vr1.heap.size ∧ w.heap.size < vm0.heap.size ∧ w.heap.size < wd.heap.size by have h0 : w.heap.size < wd.heap.size := World.block_lt_of_cell? _ _ HCd.out; have := HGvm0.out; have := HGvr1.out; have := HGvp2.out; exact ⟨by omega, by omega, by omega, by omega⟩)
        clear hbz
        unfold pS at hvz
        rw [hvz]
        clear hvz
        refine hK.out _ _ HCz.out (fun hHeld => ?_)
        clear hK K
        refine wpAnyH_take (i := 11) (oi := ⟨some 3, .assign (.tmp 16), _, _, _, _⟩) (v := (.pointer (some ⟨vp2.heap.size, 0, none⟩))) rfl (by kernel_rfl) (by kernel_rfl) (by kernel_rfl) (fun _ _ _ h => h) (Or.inl ⟨by rfl, fun W hW => by go_simp⟩) (by assumption) ?_
        simp only [Act.put, List.setIfInBounds_toArray, List.set_cons_zero, List.set_cons_succ]
        refine wpAnyH_done (by kernel_rfl) ?_ _
        go_wp2_with fail
        go_meet
        exact ⟨vp2.heap.size, vr1.heap.size, vm0.heap.size, wd.heap.size, rfl, HSR, HBz, HCz, HLO⟩
  case rest =>
    obtain ⟨gs, gp, gr, gm, rfl, HSR, HBW, HCX, HLO⟩ := hcut
    have cx := HCX.out
    go_wp2
    go_loopg [19] n (fun g v19 W => ∃ (i : Nat) (P R : List Nat), v19 = .int .i64 i ∧ g + i = n ∧ Hid (Srt W gs gp gr gm n P 1 R (List.replicate n 0)) ∧ Hid (∀ j, j < i → P.getD j 0 = j ∧ R.getD j 0 = (b.getD j 0).toNat) ∧ Hid (Below w.heap.size w W) ∧ Hid (W.cell? ⟨w.heap.size, 0, none⟩ = some (.slice a n c)))
    case atStart => exact ⟨0, _, _, rfl, rfl, HSR, Lib.hid (fun j hj => absurd hj (Nat.not_lt_zero _)), HBW, HCX⟩
    case round =>
      clear cx HSR HCX HBW
      obtain ⟨i, P, R, rfl, hg, HSR, HPR, HBW, HCX⟩ := hrel
      have HG := Lib.hid hg
      have hi0 : (0 : Int) ≤ (i : Int) := by omega
      by_cases hin : (i : Int) < (n : Int)
      · have HI := Lib.hid (show i < n by omega)
        obtain ⟨bb, off, rfl⟩ := bsome HS.out (by have := HS.out.2.1; have := HI.out; omega)
        obtain ⟨x, hx⟩ : ∃ x, b.getD i 0 = x := ⟨_, rfl⟩
        have HX := Lib.hid hx
        have c1 : wr.cell? ⟨bb, off + i, none⟩ = some (.int .u8 (x.toNat : Int)) := hx ▸ bcell (HS.out.below HBW.out) i HI.out
        have hx0 : (0 : Int) ≤ (x.toNat : Int) := by omega
        have hx9 : (x.toNat : Int) < 256 := by have := x.toNat_lt; omega
        have hxw : IntKind.i64.wrap (x.toNat : Int) = (x.toNat : Int) := IntWalk.i64_in _ (by omega)
        have c0 := HSR.out.c0
        have c2 := HSR.out.c2
        unfold pS at c0 c2
        have k1 := (HSR.out.pl.2.2 i HI.out).1
        have f1 := (HSR.out.pl.2.2 i HI.out).2
        have k2 := (HSR.out.rk.2.2 i HI.out).1
        have f2 := (HSR.out.rk.2.2 i HI.out).2
        have hne : gp ≠ gr := HSR.out.ne.2.2.2.1
        have hne' : gr ≠ gp := hne.symm
        have hw1 : IntKind.i64.wrap ((i : Int) + 1) = (i : Int) + 1 := IntWalk.i64_in _ (by omega)
        clear hg hx
        go_wp2
        go_region
        go_wp2
        go_roundg (n - (i + 1))
        case measure => have := HG.out; have := HI.out; omega
        case rel => exact ⟨i + 1, P.set i i, R.set i x.toNat, by go_num, by have := HG.out; have := HI.out; omega, Lib.hid (((HSR.out.storeP HI.out i).storeR HI.out x.toNat).keep (Nat.le_refl _) (fun _ _ => rfl)), Lib.hid (fun j hj => by
            have hP := HSR.out.pl.1
            have hR := HSR.out.rk.1
            have hI := HI.out
            by_cases hji : j = i
            · subst hji
              rw [getD_set_self (by omega), getD_set_self (by omega), HX.out]; exact ⟨rfl, rfl⟩
            · rw [getD_set_ne (fun e => hji e.symm), getD_set_ne (fun e => hji e.symm)]; exact HPR.out j (by omega)), Lib.hid (((HBW.out.setCell (p := ⟨gp, i, none⟩) (Nat.le_of_lt HLO.out.2.1) _).setCell (p := ⟨gr, i, none⟩) (Nat.le_of_lt HLO.out.2.2.1) _).drew), Lib.hid (by
            show ((wr.setCell ⟨gp, i, none⟩ _).setCell ⟨gr, i, none⟩ _).cell? _ = _
            rw [World.cell?_setCell_other (w := _) (a := ⟨gr, i, none⟩) (b := ⟨w.heap.size, 0, none⟩) (v := _) (h := fun e => by injection e with e1 _ _; have := HLO.out.2.2.1; omega), World.cell?_setCell_other (w := _) (a := ⟨gp, i, none⟩) (b := ⟨w.heap.size, 0, none⟩) (v := _) (h := fun e => by injection e with e1 _ _; have := HLO.out.2.1; omega)]
            exact HCX.out)⟩
      · have hiN : i = n := by omega
        have d0 : decide ((i : Int) < (n : Int)) = false := decide_eq_false hin
        have d0n : decide (i < n) = false := decide_eq_false (by omega)
        have hPe : P = List.range n := range_of HSR.out.pl.1 (fun j hj => (HPR.out j (by omega)).1)
        have hRe : R = b.map fun x => x.toNat := map_of (by rw [HSR.out.rk.1, HL.out]) (fun j hj => (HPR.out j (by have := HL.out; omega)).2)
        subst hPe
        subst hRe
        have HSO := Lib.hid (first_sorts w.heap.size gs gp gr gm n c a b _ _ w wr HSR.out HCX.out (by have := HLO.out.2.1; omega) HS.out HBW.out HLO.out.2.1 HN.out)
        have c0 := HSR.out.c0
        unfold pS at c0
        unfold pS at HSO
        have hsl : (0 : Nat) ≤ 0 := Nat.le_refl _
        clear hg hin hiN hsl
        go_wp2_with (go_at_call 42; go_must (refine HSO.out.mono ?_; rintro e w4 ⟨rfl, L0, hp0, hs0, hS0, hg0⟩; have HP4 := Lib.hid hp0; have HQ4 := Lib.hid hs0; have HS4 := Lib.hid hS0; have HB4 := Lib.hid (HBW.out.grown hg0 HBW.out.size (fun k hk => by cases hk; exact Nat.le_of_lt HLO.out.2.1)); clear hp0 hs0 hS0 hg0))
        have HI0 := Lib.hid (show (∃ K P R M gr' gm', 2 * n + 1 - 1 = 2 * n + 1 - K ∧ 1 ≤ K ∧ K ≤ 2000000 ∧ Srt w4 gs gp gr' gm' n P K R M ∧ P.Perm (List.range n) ∧ P.Pairwise (leK b K) ∧ RankOk b K R ∧ w.heap.size < gr' ∧ w.heap.size < gm') from ⟨1, L0, _, _, gr, gm, rfl, Nat.le_refl _, by decide, HS4.out, HP4.out, HQ4.out, rank_first b, HLO.out.2.2.1, HLO.out.2.2.2⟩)
        go_loopg [] (2 * n + 1 - 1) (fun g W => Hid (∃ K P R M gr' gm', g = 2 * n + 1 - K ∧ 1 ≤ K ∧ K ≤ 2000000 ∧ Srt W gs gp gr' gm' n P K R M ∧ P.Perm (List.range n) ∧ P.Pairwise (leK b K) ∧ RankOk b K R ∧ w.heap.size < gr' ∧ w.heap.size < gm') ∧ Hid (Below w.heap.size w W))
        case atStart => exact ⟨HI0, HB4⟩
        case round =>
          clear HI0 HB4 HS4 HP4 HQ4 c0 HSR HBW HCX HSO
          obtain ⟨HST, HBW⟩ := hrel
          obtain ⟨K, P, R, M, hr, hm, hg, hK1, hK2, hS, hP, hQ, hR, hlr, hlm⟩ := HST.out
          have HG := Lib.hid hg
          have HK1 := Lib.hid hK1
          have HK2 := Lib.hid hK2
          have HSR := Lib.hid hS
          have HPP := Lib.hid hP
          have HQQ := Lib.hid hQ
          have HRR := Lib.hid hR
          have HLR := Lib.hid hlr
          have HLM := Lib.hid hlm
          have HND : Hid P.Nodup := Lib.hid (hP.nodup_iff.2 List.nodup_range)
          have HPA := Lib.hid (part_any gs gp hr hm n K b P R M wr hS HL.out (fun x hx => List.mem_range.1 (hP.mem_iff.1 hx)) hQ HND.out hR HN.out hK1 hK2)
          clear HST hg hK1 hK2 hS hP hQ hR hlr hlm
          go_wp2_with (first
            | (go_at_call 45; go_must (refine HPA.out.mono ?_; rintro e w5 ⟨met, P5, rfl, hpi, hkt, hs5, hg5⟩; have HD5 := Lib.hid hpi.done; have HKT := Lib.hid hkt; have HS5 := Lib.hid hs5; have c5 : w5.cell? ⟨gs, 0, none⟩ = some (.slice (some ⟨gp, 0, none⟩) n n) := hs5.c0; have HB5 := Lib.hid (HBW.out.grown hg5 HBW.out.size (fun k hk => by cases hk; exact Nat.le_of_lt HLO.out.2.1)); clear hpi hkt hs5 hg5; cases met))
            | (go_at_call 46; go_must (refine (rise_any gs gp hr hm n K w.heap.size b P5 R M w w5 HS5.out HL.out (HD5.out.1.trans HPP.out) HD5.out.2.1 HRR.out HN.out HK1.out HK2.out HB5.out ⟨Nat.le_of_lt HLO.out.1, Nat.le_of_lt HLM.out⟩).mono ?_; rintro e w6 ⟨rfl, M6, hr6, hs6, hb6⟩; have HR6 := Lib.hid hr6; have HS6 := Lib.hid hs6; have HB6 := Lib.hid hb6; clear hr6 hs6 hb6)))
          · go_ret
            exact ⟨gp, P5, rfl, ord_done (by rw [HL.out]; exact HPP.out) (HD5.out.2.2 trivial) HD5.out.1 HD5.out.2.1, HS5.out.pl, HLO.out.2.1, HB5.out⟩
          · go_roundg (2 * n + 1 - (K + K))
            case measure => have := HG.out; have := HKT.out trivial; have := HK1.out; omega
            case rel => exact ⟨Lib.hid ⟨K + K, P5, M6, R, hm, hr, rfl, by have := HK1.out; omega, by have := HKT.out trivial; have := HN.out; omega, HS6.out, HD5.out.1.trans HPP.out, HD5.out.2.1, HR6.out, HLM.out, HLR.out⟩, HB6⟩
#print axioms inOrder_any
end Go.Proofs.Ytheigemfbcgjcaa
