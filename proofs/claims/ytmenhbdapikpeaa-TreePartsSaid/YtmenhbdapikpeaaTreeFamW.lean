/-
  The walk of family: the children linked, the last key first.
-/
import Derived.Test.YtmenhbdapikpeaaTreeFam0
namespace Go.Proofs.Ytmenhbdapikpeaa
open Go.RowKit

/-- The first numbers, as far as they are put down. -/
def fI (n i : Nat) : List Nat := List.replicate i 0 ++ List.replicate (n - i) 1
theorem fI_zero (n : Nat) : fI n 0 = List.replicate n 1 := by simp [fI]
theorem fI_all (n : Nat) : fI n n = List.replicate n 0 := by simp [fI]
theorem fI_step {n i : Nat} (h : i < n) : (fI n i).set i 0 = fI n (i + 1) := by
  unfold fI
  rw [List.set_append_right _ _ (by simp), List.length_replicate, Nat.sub_self, show n - i = (n - (i + 1)) + 1 from by omega, List.replicate_succ, List.set_cons_zero, List.replicate_succ']
  simp
theorem not_mem_take {l : List Nat} (h : l.Nodup) {j : Nat} (hj : j < l.length) : l.getD j 0 ∉ l.take j := by
  intro hm
  obtain ⟨k, hk, e⟩ := List.getElem_of_mem hm
  have hkj : k < j := by simp at hk; omega
  rw [List.getElem_take] at e
  have e2 : l.getD j 0 = l[j] := by simp [hj]
  rw [e2] at e
  exact List.pairwise_iff_getElem.1 h k j (by omega) hj hkj e
theorem take_getD {l : List Nat} {j : Nat} (hj : j < l.length) : l.take (j + 1) = l.take j ++ [l.getD j 0] := by
  rw [List.take_succ_eq_append_getElem hj]
  simp [hj]
theorem fam_lt {w W : World} {n gC gF gN : Nat} {s : FamS} (h : FamW w W n gC gF gN s) : gC < W.heap.size ∧ (0 < n → gF < W.heap.size ∧ gN < W.heap.size) :=
  ⟨h.lt, fun hn => ⟨World.block_lt_of_cell? _ _ (h.rows 0 hn).1, World.block_lt_of_cell? _ _ (h.rows 0 hn).2.2.1⟩⟩
theorem own_two {W : World} {base b1 o1 b2 o2 n c : Nat} {v1 v2 : Value} {a : Option Addr} {l : List Nat} (h : Own1 N 3 W base (.slice a n c) l) (h1 : b1 < base) (h2 : b2 < base) : Own1 N 3 ((W.setCell ⟨b1, o1, none⟩ v1).setCell ⟨b2, o2, none⟩ v2).drew base (.slice a n c) l := by
  have ne : ∀ b, b < base → (Value.slice a n c).ownBlock = none ∨ (Value.slice a n c).ownBlock ≠ some b := fun b hb => by
    cases hv : (Value.slice a n c).ownBlock with
    | none => exact .inl rfl
    | some g => exact .inr (fun e => by have := (h.lt g hv).1; simp only [Option.some.injEq] at e; omega)
  exact ((h.kept (grown_set W b1 o1 v1) (ne b1 h1)).kept (grown_set _ b2 o2 v2) (ne b2 h2)).below (Below.refl _ _).drew
theorem fam_putE {w W : World} {n gC gF gN : Nat} {s : FamS} (h : FamW w W n gC gF gN s) (hn : 0 < n) (x : Nat) :
    FamW w ((W.setCell ⟨gN, x, none⟩ (.int .i64 ((s.e : Int) - 1))).setCell ⟨gC, 0, none⟩ (.int .i64 (x : Int))).drew n gC gF gN ⟨x + 1, s.F, s.N.set x s.e⟩ := by
  have h1 := (h.setN hn x s.e).setE (x + 1)
  rw [M_place] at h1
  exact h1.later (Below.refl _ _).drew
theorem fam_putF {w W : World} {n gC gF gN : Nat} {s : FamS} (h : FamW w W n gC gF gN s) (hn : 0 < n) (x m : Nat) :
    FamW w ((W.setCell ⟨gN, x, none⟩ (.int .i64 (((s.F.getD m 0 : Nat) : Int) - 1))).setCell ⟨gF, m, none⟩ (.int .i64 (x : Int))).drew n gC gF gN ⟨s.e, s.F.set m (x + 1), s.N.set x (s.F.getD m 0)⟩ := by
  have h1 := (h.setN hn x (s.F.getD m 0)).setF hn m (x + 1)
  rw [M_place] at h1
  exact h1.later (Below.refl _ _).drew
/-- The places' keys rise, where no two are the same. -/
theorem up_keys {L : List NodeV} (hT : TreeP L) {K : List KeyV} {S : List Nat} {n : Nat} (hL : L.length = n) (hK : ∀ k, k < n → kOf K k = (nd L k).k) (hp : S.Perm (List.range n)) (hu : UpG (plB K) S) :
    (S.Pairwise fun a b => keyF (nd L a).k (nd L b).k < 0) ∧ ∀ i, i ∈ S ↔ i < L.length := by
  have hm : ∀ i, i ∈ S ↔ i < n := fun i => by rw [hp.mem_iff]; simp
  refine ⟨?_, fun i => by rw [hL]; exact hm i⟩
  have hnd := hp.nodup_iff.2 (List.nodup_range (n := n))
  unfold UpG at hu
  refine (List.Pairwise.and_mem.1 (hu.and hnd)).imp (fun {a b} h => ?_)
  obtain ⟨ha, hb, h1, h2⟩ := h
  rw [plB_iff] at h1
  unfold placeLe at h1
  have e1 : (K.getD a ⟨0, [], 0⟩) = (nd L a).k := hK a ((hm a).1 ha)
  have e2 : (K.getD b ⟨0, [], 0⟩) = (nd L b).k := hK b ((hm b).1 hb)
  rw [e1, e2] at h1
  rcases h1 with h1 | ⟨h1, _⟩
  · exact h1
  · exact absurd (hT.key a b (by rw [hL]; exact (hm a).1 ha) (by rw [hL]; exact (hm b).1 hb) (keyF_eq h1)) h2
theorem fam_res {w wA W : World} {n gC gF gN : Nat} {s : FamS} (h : FamW wA W n gC gF gN s) (hA : Below w.heap.size w wA) (hs : w.heap.size < wA.heap.size) (v0 v1 v2 : Value) :
    FamW w (((W.setCell ⟨w.heap.size, 0, none⟩ v0).setCell ⟨w.heap.size, 1, none⟩ v1).setCell ⟨w.heap.size, 2, none⟩ v2) n gC gF gN s := by
  have h1 := h.base
  have h2 := (h.F.lt gF rfl).1
  have h3 := (h.N.lt gN rfl).1
  have hk := fun (W' : World) (x : FamW w W' n gC gF gN s) (i : Nat) (v : Value) => x.kept (grown_set W' w.heap.size i v) (Nat.le_refl _) (by omega) (by omega) (by omega)
  exact hk _ (hk _ (hk _ (h.weak hA) 0 v0) 1 v1) 2 v2
theorem res_heap {W : World} {g : Nat} (h : W.heap[g]? = some (.cells zC 61 (0, 0))) (v0 v1 v2 : Value) :
    (((W.setCell ⟨g, 0, none⟩ v0).setCell ⟨g, 1, none⟩ v1).setCell ⟨g, 2, none⟩ v2).heap[g]? = some (.cells #[v0, v1, v2] 61 (0, 0)) := by
  have e1 := heap_setCell_same W g 0 _ _ v0 h
  have e2 := heap_setCell_same _ g 1 _ _ v1 e1
  have e3 := heap_setCell_same _ g 2 _ _ v2 e2
  rw [e3]
  rfl
/-- What family answers. -/
def FamEnd (L : List NodeV) (n : Nat) (w : World) (e : Ending) (W : World) : Prop := ∃ gC gF gN s, e = .returned (.agg #[M s.e, .slice (pA gF) n n, .slice (pA gN) n n]) ∧ FamW w W n gC gF gN s ∧ Fam L (firstS s) (nextS s)

set_option maxRecDepth 100000 in
set_option maxHeartbeats 4000000 in
theorem family_any (a : Option Addr) (n c : Nat) (L : List NodeV) (w : World) (h : NodesAt w a n c L) (hn : n ≤ 1000) (hT : TreeP L) :
    Calls Try.prog 25 #[.slice a n c] w (FamEnd L n w) := by
  have HL := Lib.hid h.1
  have HN := Lib.hid h
  have HT := Lib.hid hT
  have hnI : (n : Int) ≤ 1000 := by omega
  have hn0 : (0 : Int) ≤ (n : Int) := by omega
  have HM := Lib.hid hn
  clear h hn hT
  have HB0 := Lib.hid ((Below.refl w.heap.size w).alloc (Nat.le_refl _) (.cells zC 61))
  have HR0 := Lib.hid (alloc_facts w zC 61)
  go_enter Try.func25, Try.ntmps25
  obtain ⟨K, hK⟩ : ∃ K, K = L.map (·.k) := ⟨_, rfl⟩
  have HKL := Lib.hid hK
  have HKO : Hid (∀ k, k < n → kOf K k = (nd L k).k) := Lib.hid (fun k hk => by
    rw [hK]
    unfold kOf nd
    have : k < L.length := by rw [HL.out]; exact hk
    simp [this])
  have HKW : Hid (∀ k, k < n → (kOf K k).c.length = 32) := Lib.hid (fun k hk => by rw [HKO.out k hk]; exact (HN.out.ok hk).1)
  clear hK
  go_upto_region 2 with (at_make; go_must (refine make_keys rfl _ _ rfl n K rfl rfl HM.out ?_); intro wr1 hk1 hg1)
  obtain ⟨wA, hwA⟩ : ∃ v, v = w.alloc (.cells zC 61) := ⟨_, rfl⟩
  obtain ⟨gK, hgK⟩ : ∃ g, g = w.heap.size + 1 := ⟨_, rfl⟩
  have hsA : wA.heap.size = gK := by rw [hwA, hgK]; simp
  have HK1 : Hid (KeyRow wr1.drew gK n K 0) := Lib.hid (by
    have h1 : KeyRow wr1 gK n K 0 := by rw [hgK]; simpa using hk1
    exact h1.same rfl (Nat.le_refl _))
  have hg2 : wA.grownBy wr1 none := by rw [hwA]; exact hg1
  have HB1 : Hid (Below wA.heap.size wA wr1.drew) := Lib.hid ((Below.refl wA.heap.size wA).grown hg2 (Nat.le_refl _) (fun k hk => by cases hk)).drew
  have HBA : Hid (Below w.heap.size w wA) := Lib.hid (by rw [hwA]; exact HB0.out)
  have HRA : Hid (wA.heap[w.heap.size]? = some (.cells zC 61 (0, 0)) ∧ w.heap.size < wA.heap.size) := Lib.hid (by rw [hwA]; exact ⟨HR0.out.1, HR0.out.2.2⟩)
  have HSA := Lib.hid hsA
  rw [← hgK]
  clear hk1 hg1 hgK hwA hsA hg2 HB0 HR0
  go_cut [4] from 14 to 20 (fun v4 W => ∃ gC gF gN, v4 = .pointer (pA gC) ∧ Hid (FamW wA W n gC gF gN ⟨0, List.replicate n 1, List.replicate n 1⟩) ∧ Hid (KeyRow W gK n K 0) ∧ Hid (gC ≠ gK ∧ gF ≠ gK ∧ gN ≠ gK))
  case first =>
    refine wp_region_held_drew (S := fun _ => True) (by kernel_rfl) trivial (fun hHeld => ?_)
    refine wpAnyH_take (i := 0) (oi := ⟨some 14, .move (.tmp 0), _, _, _, _⟩) (v := (.slice a n c)) rfl (by kernel_rfl) (by kernel_rfl) (by kernel_rfl) (fun _ _ _ h => h) (Or.inl ⟨by rfl, fun W hW => by go_simp⟩) (by assumption) ?_
    simp only [Act.put, List.setIfInBounds_toArray, List.set_cons_zero, List.set_cons_succ]
    refine wpAnyH_take (i := 1) (oi := ⟨some 15, .call { callee := .builtin .len, args := #[.tmp 14], argTypes := #[25] }, _, _, _, _⟩) (v := (.int .i64 (n : Int))) rfl (by kernel_rfl) (by kernel_rfl) (by kernel_rfl) (fun _ _ _ h => h) (Or.inl ⟨by rfl, fun W hW => by go_simp⟩) (by assumption) ?_
    simp only [Act.put, List.setIfInBounds_toArray, List.set_cons_zero, List.set_cons_succ]
    refine wpAnyH_take (i := 3) (oi := ⟨some 17, .move (.tmp 0), _, _, _, _⟩) (v := (.slice a n c)) rfl (by kernel_rfl) (by kernel_rfl) (by kernel_rfl) (fun _ _ _ h => h) (Or.inl ⟨by rfl, fun W hW => by go_simp⟩) (by assumption) ?_
    simp only [Act.put, List.setIfInBounds_toArray, List.set_cons_zero, List.set_cons_succ]
    refine wpAnyH_take (i := 4) (oi := ⟨some 18, .call { callee := .builtin .len, args := #[.tmp 17], argTypes := #[25] }, _, _, _, _⟩) (v := (.int .i64 (n : Int))) rfl (by kernel_rfl) (by kernel_rfl) (by kernel_rfl) (fun _ _ _ h => h) (Or.inl ⟨by rfl, fun W hW => by go_simp⟩) (by assumption) ?_
    simp only [Act.put, List.setIfInBounds_toArray, List.set_cons_zero, List.set_cons_succ]
    refine wpAnyH_ready (rs := [2, 5, 7]) (by kernel_rfl) (by simp) ?_
    refine AllReadyH.cons (o := ⟨some 16, .makeSlice 27 (.tmp 15) (.tmp 15), _, _, _, _⟩) rfl ?_ (AllReadyH.cons (o := ⟨some 19, .makeSlice 27 (.tmp 18) (.tmp 18), _, _, _, _⟩) rfl ?_ (AllReadyH.cons (o := ⟨some 4, .alloc 61, _, _, _, _⟩) rfl ?_ AllReadyH.nil))
    · intro K hK
      refine ready_step (wp_makeM (.tmp 15) (.tmp 15) rfl n rfl rfl HM.out ?_)
      intro v2 ho hg hs
      have HF2 := Lib.hid ho
      obtain ⟨gF, hgF⟩ : ∃ g, g = wr1.drew.heap.size := ⟨_, rfl⟩
      rw [← hgF] at HF2 ⊢
      have HB2 := Lib.hid (below_none HB1.out hg)
      have HK2 := Lib.hid (HK1.out.kept hg (by simp))
      have HS := Lib.hid (And.intro (Nat.le_of_eq hgF.symm) (And.intro (Nat.le_of_eq hgF) hs))
      refine hK.out _ _ trivial (fun hHeld => ?_)
      clear hK K hgF hg hs ho
      refine wpAnyH_ready (rs := [5, 7]) (by kernel_rfl) (by simp) ?_
      refine AllReadyH.cons (o := ⟨some 19, .makeSlice 27 (.tmp 18) (.tmp 18), _, _, _, _⟩) rfl ?_ (AllReadyH.cons (o := ⟨some 4, .alloc 61, _, _, _, _⟩) rfl ?_ AllReadyH.nil)
      · intro K hK
        refine ready_step (wp_makeM (.tmp 18) (.tmp 18) rfl n rfl rfl HM.out ?_)
        intro v3 ho hg hs
        have HN3 := Lib.hid ho
        obtain ⟨gN, hgN⟩ : ∃ g, g = v2.heap.size := ⟨_, rfl⟩
        rw [← hgN] at HN3 ⊢
        have HF3 := Lib.hid (own_none HF2.out rfl hg)
        have HB3 := Lib.hid (below_none HB2.out hg)
        have HK3 := Lib.hid (HK2.out.kept hg (by simp))
        have HS := Lib.hid (And.intro HS.out (And.intro (Nat.le_of_eq hgN.symm) (And.intro (Nat.le_of_eq hgN) hs)))
        refine hK.out _ _ trivial (fun hHeld => ?_)
        clear hK K hgN hg hs ho
        refine wpAnyH_take (i := 6) (oi := ⟨some 20, .build 61 #[(0, .const (.int .i64 (-1))), (1, .tmp 16), (2, .tmp 19)], _, _, _, _⟩) (v := (.agg #[.int .i64 (-1), .slice (pA gF) n n, .slice (pA gN) n n])) rfl (by kernel_rfl) (by kernel_rfl) (by kernel_rfl) (fun _ _ _ h => h) (Or.inl ⟨by rfl, fun W hW => by go_simp⟩) (by assumption) ?_
        simp only [Act.put, List.setIfInBounds_toArray, List.set_cons_zero, List.set_cons_succ]
        refine wpAnyH_ready (rs := [7]) (by kernel_rfl) (by simp) ?_
        refine AllReadyH.cons (o := ⟨some 4, .alloc 61, _, _, _, _⟩) rfl ?_ AllReadyH.nil
        · intro K hK
          refine ready_step ?_
          go_simp
          obtain ⟨v4, hv⟩ : ∃ v, v = World.alloc v3 (.cells zC 61) := ⟨_, rfl⟩
          have hal := alloc_facts v3 zC 61
          rw [← hv] at hal ⊢
          obtain ⟨hc, hg, hs⟩ := hal
          clear hv
          have HC4 := Lib.hid hc
          obtain ⟨gC, hgC⟩ : ∃ g, g = v3.heap.size := ⟨_, rfl⟩
          rw [← hgC] at HC4 ⊢
          have HF4 := Lib.hid (own_none HF3.out rfl hg)
          have HN4 := Lib.hid (own_none HN3.out rfl hg)
          have HB4 := Lib.hid (below_none HB3.out hg)
          have HK4 := Lib.hid (HK3.out.kept hg (by simp))
          have HS := Lib.hid (And.intro HS.out (And.intro (Nat.le_of_eq hgC.symm) (And.intro (Nat.le_of_eq hgC) hs)))
          refine hK.out _ _ trivial (fun hHeld => ?_)
          clear hK K hgC hg hs hc
          refine wpAnyH_ready (rs := [8]) (by kernel_rfl) (by simp) ?_
          refine AllReadyH.cons (o := ⟨none, .store 61 (.tmp 4) (.tmp 20), _, _, _, _⟩) rfl (fun K hK => ?_) AllReadyH.nil
          refine ready_step (wp_storeC (.tmp 4) (.tmp 20) rfl gC (.int .i64 (-1)) (.slice (pA gF) n n) (.slice (pA gN) n n) rfl rfl zC rfl HC4.out ⟨rfl, rfl, rfl⟩ ?_)
          intro wz hcz hgz
          have HFZ := Lib.hid (fam_made (w := wA) HF4.out HN4.out (by have := HS.out; have := HB1.out.size; omega) (by have := HS.out; have := HB1.out.size; omega) (by have := HS.out; have := HB1.out.size; omega) HB4.out (by have := HS.out; omega) (by have := HS.out; omega) (by have := HS.out; omega) hcz hgz)
          have HKZ := Lib.hid (HK4.out.kept hgz (by have := HK1.out.lt; have := HS.out; simp; omega))
          refine hK.out _ _ trivial (fun hHeld => ?_)
          clear hK K hcz hgz
          refine wpAnyH_done (by kernel_rfl) ?_ _
          go_wp2_with fail
          go_meet
          exact ⟨gC, gF, gN, rfl, HFZ, HKZ, Lib.hid (by have := HK1.out.lt; have := HS.out; omega)⟩
      · intro K hK
        refine ready_step ?_
        go_simp
        obtain ⟨v3, hv⟩ : ∃ v, v = World.alloc v2 (.cells zC 61) := ⟨_, rfl⟩
        have hal := alloc_facts v2 zC 61
        rw [← hv] at hal ⊢
        obtain ⟨hc, hg, hs⟩ := hal
        clear hv
        have HC3 := Lib.hid hc
        obtain ⟨gC, hgC⟩ : ∃ g, g = v2.heap.size := ⟨_, rfl⟩
        rw [← hgC] at HC3 ⊢
        have HF3 := Lib.hid (own_none HF2.out rfl hg)
        have HB3 := Lib.hid (below_none HB2.out hg)
        have HK3 := Lib.hid (HK2.out.kept hg (by simp))
        have HS := Lib.hid (And.intro HS.out (And.intro (Nat.le_of_eq hgC.symm) (And.intro (Nat.le_of_eq hgC) hs)))
        refine hK.out _ _ trivial (fun hHeld => ?_)
        clear hK K hgC hg hs hc
        refine wpAnyH_ready (rs := [5]) (by kernel_rfl) (by simp) ?_
        refine AllReadyH.cons (o := ⟨some 19, .makeSlice 27 (.tmp 18) (.tmp 18), _, _, _, _⟩) rfl ?_ AllReadyH.nil
        · intro K hK
          refine ready_step (wp_makeM (.tmp 18) (.tmp 18) rfl n rfl rfl HM.out ?_)
          intro v4 ho hg hs
          have HN4 := Lib.hid ho
          obtain ⟨gN, hgN⟩ : ∃ g, g = v3.heap.size := ⟨_, rfl⟩
          rw [← hgN] at HN4 ⊢
          have HF4 := Lib.hid (own_none HF3.out rfl hg)
          have HC4 := Lib.hid (blk_none HC3.out hg)
          have HB4 := Lib.hid (below_none HB3.out hg)
          have HK4 := Lib.hid (HK3.out.kept hg (by simp))
          have HS := Lib.hid (And.intro HS.out (And.intro (Nat.le_of_eq hgN.symm) (And.intro (Nat.le_of_eq hgN) hs)))
          refine hK.out _ _ trivial (fun hHeld => ?_)
          clear hK K hgN hg hs ho
          refine wpAnyH_take (i := 6) (oi := ⟨some 20, .build 61 #[(0, .const (.int .i64 (-1))), (1, .tmp 16), (2, .tmp 19)], _, _, _, _⟩) (v := (.agg #[.int .i64 (-1), .slice (pA gF) n n, .slice (pA gN) n n])) rfl (by kernel_rfl) (by kernel_rfl) (by kernel_rfl) (fun _ _ _ h => h) (Or.inl ⟨by rfl, fun W hW => by go_simp⟩) (by assumption) ?_
          simp only [Act.put, List.setIfInBounds_toArray, List.set_cons_zero, List.set_cons_succ]
          refine wpAnyH_ready (rs := [8]) (by kernel_rfl) (by simp) ?_
          refine AllReadyH.cons (o := ⟨none, .store 61 (.tmp 4) (.tmp 20), _, _, _, _⟩) rfl (fun K hK => ?_) AllReadyH.nil
          refine ready_step (wp_storeC (.tmp 4) (.tmp 20) rfl gC (.int .i64 (-1)) (.slice (pA gF) n n) (.slice (pA gN) n n) rfl rfl zC rfl HC4.out ⟨rfl, rfl, rfl⟩ ?_)
          intro wz hcz hgz
          have HFZ := Lib.hid (fam_made (w := wA) HF4.out HN4.out (by have := HS.out; have := HB1.out.size; omega) (by have := HS.out; have := HB1.out.size; omega) (by have := HS.out; have := HB1.out.size; omega) HB4.out (by have := HS.out; omega) (by have := HS.out; omega) (by have := HS.out; omega) hcz hgz)
          have HKZ := Lib.hid (HK4.out.kept hgz (by have := HK1.out.lt; have := HS.out; simp; omega))
          refine hK.out _ _ trivial (fun hHeld => ?_)
          clear hK K hcz hgz
          refine wpAnyH_done (by kernel_rfl) ?_ _
          go_wp2_with fail
          go_meet
          exact ⟨gC, gF, gN, rfl, HFZ, HKZ, Lib.hid (by have := HK1.out.lt; have := HS.out; omega)⟩
    · intro K hK
      refine ready_step (wp_makeM (.tmp 18) (.tmp 18) rfl n rfl rfl HM.out ?_)
      intro v2 ho hg hs
      have HN2 := Lib.hid ho
      obtain ⟨gN, hgN⟩ : ∃ g, g = wr1.drew.heap.size := ⟨_, rfl⟩
      rw [← hgN] at HN2 ⊢
      have HB2 := Lib.hid (below_none HB1.out hg)
      have HK2 := Lib.hid (HK1.out.kept hg (by simp))
      have HS := Lib.hid (And.intro (Nat.le_of_eq hgN.symm) (And.intro (Nat.le_of_eq hgN) hs))
      refine hK.out _ _ trivial (fun hHeld => ?_)
      clear hK K hgN hg hs ho
      refine wpAnyH_ready (rs := [2, 7]) (by kernel_rfl) (by simp) ?_
      refine AllReadyH.cons (o := ⟨some 16, .makeSlice 27 (.tmp 15) (.tmp 15), _, _, _, _⟩) rfl ?_ (AllReadyH.cons (o := ⟨some 4, .alloc 61, _, _, _, _⟩) rfl ?_ AllReadyH.nil)
      · intro K hK
        refine ready_step (wp_makeM (.tmp 15) (.tmp 15) rfl n rfl rfl HM.out ?_)
        intro v3 ho hg hs
        have HF3 := Lib.hid ho
        obtain ⟨gF, hgF⟩ : ∃ g, g = v2.heap.size := ⟨_, rfl⟩
        rw [← hgF] at HF3 ⊢
        have HN3 := Lib.hid (own_none HN2.out rfl hg)
        have HB3 := Lib.hid (below_none HB2.out hg)
        have HK3 := Lib.hid (HK2.out.kept hg (by simp))
        have HS := Lib.hid (And.intro HS.out (And.intro (Nat.le_of_eq hgF.symm) (And.intro (Nat.le_of_eq hgF) hs)))
        refine hK.out _ _ trivial (fun hHeld => ?_)
        clear hK K hgF hg hs ho
        refine wpAnyH_take (i := 6) (oi := ⟨some 20, .build 61 #[(0, .const (.int .i64 (-1))), (1, .tmp 16), (2, .tmp 19)], _, _, _, _⟩) (v := (.agg #[.int .i64 (-1), .slice (pA gF) n n, .slice (pA gN) n n])) rfl (by kernel_rfl) (by kernel_rfl) (by kernel_rfl) (fun _ _ _ h => h) (Or.inl ⟨by rfl, fun W hW => by go_simp⟩) (by assumption) ?_
        simp only [Act.put, List.setIfInBounds_toArray, List.set_cons_zero, List.set_cons_succ]
        refine wpAnyH_ready (rs := [7]) (by kernel_rfl) (by simp) ?_
        refine AllReadyH.cons (o := ⟨some 4, .alloc 61, _, _, _, _⟩) rfl ?_ AllReadyH.nil
        · intro K hK
          refine ready_step ?_
          go_simp
          obtain ⟨v4, hv⟩ : ∃ v, v = World.alloc v3 (.cells zC 61) := ⟨_, rfl⟩
          have hal := alloc_facts v3 zC 61
          rw [← hv] at hal ⊢
          obtain ⟨hc, hg, hs⟩ := hal
          clear hv
          have HC4 := Lib.hid hc
          obtain ⟨gC, hgC⟩ : ∃ g, g = v3.heap.size := ⟨_, rfl⟩
          rw [← hgC] at HC4 ⊢
          have HN4 := Lib.hid (own_none HN3.out rfl hg)
          have HF4 := Lib.hid (own_none HF3.out rfl hg)
          have HB4 := Lib.hid (below_none HB3.out hg)
          have HK4 := Lib.hid (HK3.out.kept hg (by simp))
          have HS := Lib.hid (And.intro HS.out (And.intro (Nat.le_of_eq hgC.symm) (And.intro (Nat.le_of_eq hgC) hs)))
          refine hK.out _ _ trivial (fun hHeld => ?_)
          clear hK K hgC hg hs hc
          refine wpAnyH_ready (rs := [8]) (by kernel_rfl) (by simp) ?_
          refine AllReadyH.cons (o := ⟨none, .store 61 (.tmp 4) (.tmp 20), _, _, _, _⟩) rfl (fun K hK => ?_) AllReadyH.nil
          refine ready_step (wp_storeC (.tmp 4) (.tmp 20) rfl gC (.int .i64 (-1)) (.slice (pA gF) n n) (.slice (pA gN) n n) rfl rfl zC rfl HC4.out ⟨rfl, rfl, rfl⟩ ?_)
          intro wz hcz hgz
          have HFZ := Lib.hid (fam_made (w := wA) HF4.out HN4.out (by have := HS.out; have := HB1.out.size; omega) (by have := HS.out; have := HB1.out.size; omega) (by have := HS.out; have := HB1.out.size; omega) HB4.out (by have := HS.out; omega) (by have := HS.out; omega) (by have := HS.out; omega) hcz hgz)
          have HKZ := Lib.hid (HK4.out.kept hgz (by have := HK1.out.lt; have := HS.out; simp; omega))
          refine hK.out _ _ trivial (fun hHeld => ?_)
          clear hK K hcz hgz
          refine wpAnyH_done (by kernel_rfl) ?_ _
          go_wp2_with fail
          go_meet
          exact ⟨gC, gF, gN, rfl, HFZ, HKZ, Lib.hid (by have := HK1.out.lt; have := HS.out; omega)⟩
      · intro K hK
        refine ready_step ?_
        go_simp
        obtain ⟨v3, hv⟩ : ∃ v, v = World.alloc v2 (.cells zC 61) := ⟨_, rfl⟩
        have hal := alloc_facts v2 zC 61
        rw [← hv] at hal ⊢
        obtain ⟨hc, hg, hs⟩ := hal
        clear hv
        have HC3 := Lib.hid hc
        obtain ⟨gC, hgC⟩ : ∃ g, g = v2.heap.size := ⟨_, rfl⟩
        rw [← hgC] at HC3 ⊢
        have HN3 := Lib.hid (own_none HN2.out rfl hg)
        have HB3 := Lib.hid (below_none HB2.out hg)
        have HK3 := Lib.hid (HK2.out.kept hg (by simp))
        have HS := Lib.hid (And.intro HS.out (And.intro (Nat.le_of_eq hgC.symm) (And.intro (Nat.le_of_eq hgC) hs)))
        refine hK.out _ _ trivial (fun hHeld => ?_)
        clear hK K hgC hg hs hc
        refine wpAnyH_ready (rs := [2]) (by kernel_rfl) (by simp) ?_
        refine AllReadyH.cons (o := ⟨some 16, .makeSlice 27 (.tmp 15) (.tmp 15), _, _, _, _⟩) rfl ?_ AllReadyH.nil
        · intro K hK
          refine ready_step (wp_makeM (.tmp 15) (.tmp 15) rfl n rfl rfl HM.out ?_)
          intro v4 ho hg hs
          have HF4 := Lib.hid ho
          obtain ⟨gF, hgF⟩ : ∃ g, g = v3.heap.size := ⟨_, rfl⟩
          rw [← hgF] at HF4 ⊢
          have HN4 := Lib.hid (own_none HN3.out rfl hg)
          have HC4 := Lib.hid (blk_none HC3.out hg)
          have HB4 := Lib.hid (below_none HB3.out hg)
          have HK4 := Lib.hid (HK3.out.kept hg (by simp))
          have HS := Lib.hid (And.intro HS.out (And.intro (Nat.le_of_eq hgF.symm) (And.intro (Nat.le_of_eq hgF) hs)))
          refine hK.out _ _ trivial (fun hHeld => ?_)
          clear hK K hgF hg hs ho
          refine wpAnyH_take (i := 6) (oi := ⟨some 20, .build 61 #[(0, .const (.int .i64 (-1))), (1, .tmp 16), (2, .tmp 19)], _, _, _, _⟩) (v := (.agg #[.int .i64 (-1), .slice (pA gF) n n, .slice (pA gN) n n])) rfl (by kernel_rfl) (by kernel_rfl) (by kernel_rfl) (fun _ _ _ h => h) (Or.inl ⟨by rfl, fun W hW => by go_simp⟩) (by assumption) ?_
          simp only [Act.put, List.setIfInBounds_toArray, List.set_cons_zero, List.set_cons_succ]
          refine wpAnyH_ready (rs := [8]) (by kernel_rfl) (by simp) ?_
          refine AllReadyH.cons (o := ⟨none, .store 61 (.tmp 4) (.tmp 20), _, _, _, _⟩) rfl (fun K hK => ?_) AllReadyH.nil
          refine ready_step (wp_storeC (.tmp 4) (.tmp 20) rfl gC (.int .i64 (-1)) (.slice (pA gF) n n) (.slice (pA gN) n n) rfl rfl zC rfl HC4.out ⟨rfl, rfl, rfl⟩ ?_)
          intro wz hcz hgz
          have HFZ := Lib.hid (fam_made (w := wA) HF4.out HN4.out (by have := HS.out; have := HB1.out.size; omega) (by have := HS.out; have := HB1.out.size; omega) (by have := HS.out; have := HB1.out.size; omega) HB4.out (by have := HS.out; omega) (by have := HS.out; omega) (by have := HS.out; omega) hcz hgz)
          have HKZ := Lib.hid (HK4.out.kept hgz (by have := HK1.out.lt; have := HS.out; simp; omega))
          refine hK.out _ _ trivial (fun hHeld => ?_)
          clear hK K hcz hgz
          refine wpAnyH_done (by kernel_rfl) ?_ _
          go_wp2_with fail
          go_meet
          exact ⟨gC, gF, gN, rfl, HFZ, HKZ, Lib.hid (by have := HK1.out.lt; have := HS.out; omega)⟩
    · intro K hK
      refine ready_step ?_
      go_simp
      rw [show (World.alloc wr1 (.cells zC 61)).drew = World.alloc wr1.drew (.cells zC 61) from rfl]
      obtain ⟨v2, hv⟩ : ∃ v, v = World.alloc wr1.drew (.cells zC 61) := ⟨_, rfl⟩
      have hal := alloc_facts wr1.drew zC 61
      rw [← hv] at hal ⊢
      obtain ⟨hc, hg, hs⟩ := hal
      clear hv
      have HC2 := Lib.hid hc
      obtain ⟨gC, hgC⟩ : ∃ g, g = wr1.drew.heap.size := ⟨_, rfl⟩
      have hgC' : gC = wr1.heap.size := hgC
      rw [← hgC] at HC2
      rw [← hgC']
      clear hgC'
      have HB2 := Lib.hid (below_none HB1.out hg)
      have HK2 := Lib.hid (HK1.out.kept hg (by simp))
      have HS := Lib.hid (And.intro (Nat.le_of_eq hgC.symm) (And.intro (Nat.le_of_eq hgC) hs))
      refine hK.out _ _ trivial (fun hHeld => ?_)
      clear hK K hgC hg hs hc
      refine wpAnyH_ready (rs := [2, 5]) (by kernel_rfl) (by simp) ?_
      refine AllReadyH.cons (o := ⟨some 16, .makeSlice 27 (.tmp 15) (.tmp 15), _, _, _, _⟩) rfl ?_ (AllReadyH.cons (o := ⟨some 19, .makeSlice 27 (.tmp 18) (.tmp 18), _, _, _, _⟩) rfl ?_ AllReadyH.nil)
      · intro K hK
        refine ready_step (wp_makeM (.tmp 15) (.tmp 15) rfl n rfl rfl HM.out ?_)
        intro v3 ho hg hs
        have HF3 := Lib.hid ho
        obtain ⟨gF, hgF⟩ : ∃ g, g = v2.heap.size := ⟨_, rfl⟩
        rw [← hgF] at HF3 ⊢
        have HC3 := Lib.hid (blk_none HC2.out hg)
        have HB3 := Lib.hid (below_none HB2.out hg)
        have HK3 := Lib.hid (HK2.out.kept hg (by simp))
        have HS := Lib.hid (And.intro HS.out (And.intro (Nat.le_of_eq hgF.symm) (And.intro (Nat.le_of_eq hgF) hs)))
        refine hK.out _ _ trivial (fun hHeld => ?_)
        clear hK K hgF hg hs ho
        refine wpAnyH_ready (rs := [5]) (by kernel_rfl) (by simp) ?_
        refine AllReadyH.cons (o := ⟨some 19, .makeSlice 27 (.tmp 18) (.tmp 18), _, _, _, _⟩) rfl ?_ AllReadyH.nil
        · intro K hK
          refine ready_step (wp_makeM (.tmp 18) (.tmp 18) rfl n rfl rfl HM.out ?_)
          intro v4 ho hg hs
          have HN4 := Lib.hid ho
          obtain ⟨gN, hgN⟩ : ∃ g, g = v3.heap.size := ⟨_, rfl⟩
          rw [← hgN] at HN4 ⊢
          have HC4 := Lib.hid (blk_none HC3.out hg)
          have HF4 := Lib.hid (own_none HF3.out rfl hg)
          have HB4 := Lib.hid (below_none HB3.out hg)
          have HK4 := Lib.hid (HK3.out.kept hg (by simp))
          have HS := Lib.hid (And.intro HS.out (And.intro (Nat.le_of_eq hgN.symm) (And.intro (Nat.le_of_eq hgN) hs)))
          refine hK.out _ _ trivial (fun hHeld => ?_)
          clear hK K hgN hg hs ho
          refine wpAnyH_take (i := 6) (oi := ⟨some 20, .build 61 #[(0, .const (.int .i64 (-1))), (1, .tmp 16), (2, .tmp 19)], _, _, _, _⟩) (v := (.agg #[.int .i64 (-1), .slice (pA gF) n n, .slice (pA gN) n n])) rfl (by kernel_rfl) (by kernel_rfl) (by kernel_rfl) (fun _ _ _ h => h) (Or.inl ⟨by rfl, fun W hW => by go_simp⟩) (by assumption) ?_
          simp only [Act.put, List.setIfInBounds_toArray, List.set_cons_zero, List.set_cons_succ]
          refine wpAnyH_ready (rs := [8]) (by kernel_rfl) (by simp) ?_
          refine AllReadyH.cons (o := ⟨none, .store 61 (.tmp 4) (.tmp 20), _, _, _, _⟩) rfl (fun K hK => ?_) AllReadyH.nil
          refine ready_step (wp_storeC (.tmp 4) (.tmp 20) rfl gC (.int .i64 (-1)) (.slice (pA gF) n n) (.slice (pA gN) n n) rfl rfl zC rfl HC4.out ⟨rfl, rfl, rfl⟩ ?_)
          intro wz hcz hgz
          have HFZ := Lib.hid (fam_made (w := wA) HF4.out HN4.out (by have := HS.out; have := HB1.out.size; omega) (by have := HS.out; have := HB1.out.size; omega) (by have := HS.out; have := HB1.out.size; omega) HB4.out (by have := HS.out; omega) (by have := HS.out; omega) (by have := HS.out; omega) hcz hgz)
          have HKZ := Lib.hid (HK4.out.kept hgz (by have := HK1.out.lt; have := HS.out; simp; omega))
          refine hK.out _ _ trivial (fun hHeld => ?_)
          clear hK K hcz hgz
          refine wpAnyH_done (by kernel_rfl) ?_ _
          go_wp2_with fail
          go_meet
          exact ⟨gC, gF, gN, rfl, HFZ, HKZ, Lib.hid (by have := HK1.out.lt; have := HS.out; omega)⟩
      · intro K hK
        refine ready_step (wp_makeM (.tmp 18) (.tmp 18) rfl n rfl rfl HM.out ?_)
        intro v3 ho hg hs
        have HN3 := Lib.hid ho
        obtain ⟨gN, hgN⟩ : ∃ g, g = v2.heap.size := ⟨_, rfl⟩
        rw [← hgN] at HN3 ⊢
        have HC3 := Lib.hid (blk_none HC2.out hg)
        have HB3 := Lib.hid (below_none HB2.out hg)
        have HK3 := Lib.hid (HK2.out.kept hg (by simp))
        have HS := Lib.hid (And.intro HS.out (And.intro (Nat.le_of_eq hgN.symm) (And.intro (Nat.le_of_eq hgN) hs)))
        refine hK.out _ _ trivial (fun hHeld => ?_)
        clear hK K hgN hg hs ho
        refine wpAnyH_ready (rs := [2]) (by kernel_rfl) (by simp) ?_
        refine AllReadyH.cons (o := ⟨some 16, .makeSlice 27 (.tmp 15) (.tmp 15), _, _, _, _⟩) rfl ?_ AllReadyH.nil
        · intro K hK
          refine ready_step (wp_makeM (.tmp 15) (.tmp 15) rfl n rfl rfl HM.out ?_)
          intro v4 ho hg hs
          have HF4 := Lib.hid ho
          obtain ⟨gF, hgF⟩ : ∃ g, g = v3.heap.size := ⟨_, rfl⟩
          rw [← hgF] at HF4 ⊢
          have HC4 := Lib.hid (blk_none HC3.out hg)
          have HN4 := Lib.hid (own_none HN3.out rfl hg)
          have HB4 := Lib.hid (below_none HB3.out hg)
          have HK4 := Lib.hid (HK3.out.kept hg (by simp))
          have HS := Lib.hid (And.intro HS.out (And.intro (Nat.le_of_eq hgF.symm) (And.intro (Nat.le_of_eq hgF) hs)))
          refine hK.out _ _ trivial (fun hHeld => ?_)
          clear hK K hgF hg hs ho
          refine wpAnyH_take (i := 6) (oi := ⟨some 20, .build 61 #[(0, .const (.int .i64 (-1))), (1, .tmp 16), (2, .tmp 19)], _, _, _, _⟩) (v := (.agg #[.int .i64 (-1), .slice (pA gF) n n, .slice (pA gN) n n])) rfl (by kernel_rfl) (by kernel_rfl) (by kernel_rfl) (fun _ _ _ h => h) (Or.inl ⟨by rfl, fun W hW => by go_simp⟩) (by assumption) ?_
          simp only [Act.put, List.setIfInBounds_toArray, List.set_cons_zero, List.set_cons_succ]
          refine wpAnyH_ready (rs := [8]) (by kernel_rfl) (by simp) ?_
          refine AllReadyH.cons (o := ⟨none, .store 61 (.tmp 4) (.tmp 20), _, _, _, _⟩) rfl (fun K hK => ?_) AllReadyH.nil
          refine ready_step (wp_storeC (.tmp 4) (.tmp 20) rfl gC (.int .i64 (-1)) (.slice (pA gF) n n) (.slice (pA gN) n n) rfl rfl zC rfl HC4.out ⟨rfl, rfl, rfl⟩ ?_)
          intro wz hcz hgz
          have HFZ := Lib.hid (fam_made (w := wA) HF4.out HN4.out (by have := HS.out; have := HB1.out.size; omega) (by have := HS.out; have := HB1.out.size; omega) (by have := HS.out; have := HB1.out.size; omega) HB4.out (by have := HS.out; omega) (by have := HS.out; omega) (by have := HS.out; omega) hcz hgz)
          have HKZ := Lib.hid (HK4.out.kept hgz (by have := HK1.out.lt; have := HS.out; simp; omega))
          refine hK.out _ _ trivial (fun hHeld => ?_)
          clear hK K hcz hgz
          refine wpAnyH_done (by kernel_rfl) ?_ _
          go_wp2_with fail
          go_meet
          exact ⟨gC, gF, gN, rfl, HFZ, HKZ, Lib.hid (by have := HK1.out.lt; have := HS.out; omega)⟩
  case rest =>
    obtain ⟨gC, gF, gN, rfl, HFZ, HKZ, HNE⟩ := hcut
    go_wp2
    go_loopg [23] n (fun g v23 W => ∃ i : Nat, v23 = .int .i64 i ∧ g + i = n ∧ Hid (FamW wA W n gC gF gN ⟨0, fI n i, List.replicate n 1⟩) ∧ Hid (KeyRow W gK n K i))
    case atStart => exact ⟨0, rfl, rfl, Lib.hid (by rw [fI_zero]; exact HFZ.out), HKZ⟩
    case round =>
      obtain ⟨i, rfl, hg, HF, HK⟩ := hrel
      have HG := Lib.hid hg
      have hi0 : (0 : Int) ≤ (i : Int) := by omega
      have hiI : (i : Int) ≤ (n : Int) := by omega
      by_cases hi : (i : Int) < (n : Int)
      · have hin : i < n := by omega
        have HI := Lib.hid hin
        obtain ⟨b, o, rfl⟩ := HN.out.some_ (by omega)
        have HC := Lib.hid (((HN.out.below HBA.out).below HF.out.below).at_ i hin)
        obtain ⟨X, hX⟩ : ∃ X, X = nd L i := ⟨_, rfl⟩
        have HX := Lib.hid (hX ▸ HN.out.ok hin : NdOk X)
        rw [← hX] at HC
        have HXK := Lib.hid (show kOf K i = X.k by rw [HKO.out i hin, hX])
        clear hg hX hin
        go_wp2_with (first
          | (refine wl_ex rfl (exec_loadNode _ rfl _ _ X HX.out rfl HC.out) ?_)
          | (refine store_node rfl rfl _ _ rfl X HX.out rfl rfl ?_; intro W2 hnd hb2 hs2; have HF2 := Lib.hid (HF.out.later hb2); have HK2 := Lib.hid (HK.out.same (hb2.block gK HK.out.lt) hb2.size); have HN2 := Lib.hid hnd.key; obtain ⟨_, c1, _, _⟩ := HF2.out.cells; clear hnd hb2 hs2)
          | (refine wl_ex rfl (exec_loadKey _ rfl _ _ X.k HX.out.1 rfl HN2.out) ?_)
          | (refine store_key HK2.out HI.out HKW.out rfl _ _ rfl rfl (by rw [HXK.out]; rfl) ?_; intro W3 hk3 hg3; have HK3 := Lib.hid hk3; have HF3 := Lib.hid (HF2.out.kept hg3 (Nat.le_of_eq HSA.out) HNE.out.1 HNE.out.2.1 HNE.out.2.2); obtain ⟨f1, f2, _, _⟩ := HF3.out.rows i HI.out; unfold M at f1; clear hk3 hg3))
        go_roundg (n - (i + 1))
        case measure => have := HG.out; have := HI.out; omega
        case rel =>
          refine ⟨i + 1, by go_num, by have := HI.out; omega, Lib.hid ?_, Lib.hid (HK3.out.kept (grown_set W3 gF i _) (by have := HNE.out.2.1; simpa using fun e => this e.symm))⟩
          have h := HF3.out.setF (by have := HI.out; omega) i 0
          rw [← fI_step HI.out]
          exact h
      · have hin : i = n := by omega
        subst hin
        have HF1 : Hid (FamW wA wr i gC gF gN ⟨0, List.replicate i 0, List.replicate i 1⟩) := Lib.hid (by have h := HF.out; rwa [fI_all] at h)
        have hKl : K.length = i := by rw [HKL.out]; simpa using HL.out
        have hKw : ∀ k ∈ K, k.c.length = 32 := by
          rw [HKL.out]
          intro k hk
          obtain ⟨y, hy, rfl⟩ := List.mem_map.1 hk
          exact (HN.out.2.2.2.1 y hy).1
        have SK := Lib.hid (sortKeys_any (pA gK) i i K wr (HK.out.keys hKl hKw HM.out) (by have := HM.out; omega))
        clear hg hKl hKw HF
        go_wp2_with (go_at_call 36; (with_reducible refine SK.out.mono ?_); rintro e W5 ⟨aS, cS, Sx, rfl, ho5, hp5, hu5, hb5⟩; have HF5 := Lib.hid (HF1.out.later hb5); have HO5 := Lib.hid ho5; have HP5 := Lib.hid hp5; have HU5 := Lib.hid hu5; clear ho5 hp5 hu5 hb5)
        have HSL := Lib.hid (show Sx.length = i from HO5.out.len)
        have HLT := Lib.hid (fam_lt HF1.out)
        have HS0 := Lib.hid (famAt_zero L (List.replicate i 1) (by rw [HL.out]; simp))
        rw [HL.out] at HS0
        go_loopg [41] i (fun g v41 W => ∃ (j : Nat) (s : FamS), v41 = .int .i64 j ∧ g + j = i ∧ Hid (FamW wA W i gC gF gN s) ∧ Hid (FamAt L s (Sx.take j)) ∧ Hid (Own1 N 3 W wr.heap.size (.slice aS i cS) Sx))
        case atStart => exact ⟨0, _, rfl, rfl, HF5, Lib.hid (by simpa using HS0.out), HO5⟩
        case round =>
          obtain ⟨j, s, rfl, hg, HF, HFA, HO⟩ := hrel
          have HG := Lib.hid hg
          have hj0 : (0 : Int) ≤ (j : Int) := by omega
          have hjI : (j : Int) ≤ (i : Int) := by omega
          by_cases hj : (j : Int) < (i : Int)
          · have hjn : j < i := by omega
            have HJ := Lib.hid hjn
            obtain ⟨g, rfl, hgb, _⟩ := HO.out.row (by omega)
            have cx := HO.out.at1.cell j hjn
            rw [Nat.zero_add] at cx
            obtain ⟨x, hx⟩ : ∃ x, x = Sx.getD j 0 := ⟨_, rfl⟩
            rw [← hx] at cx
            unfold N at cx
            have hxi : x < i := by
              have hm := getD_mem (l := Sx) (j := j) (by rw [HSL.out]; exact hjn)
              rw [← hx] at hm
              have := (HP5.out.mem_iff).1 hm
              simpa using this
            have hx0 : (0 : Int) ≤ (x : Int) := by omega
            have hxI : (x : Int) < (i : Int) := by omega
            obtain ⟨b, o, rfl⟩ := HN.out.some_ (by omega)
            have cp := ((HN.out.below HBA.out).below HF.out.below).par x hxi
            obtain ⟨c0, c1, c2, z0⟩ := HF.out.cells
            obtain ⟨_, _, n1, z1⟩ := HF.out.rows x hxi
            unfold M at c0 n1
            have HX := Lib.hid hx
            have HXI := Lib.hid hxi
            have HFP := Lib.hid (famAt_put HT.out HFA.out (x := x) (by rw [HL.out]; exact hxi) (by
              rw [hx]
              exact not_mem_take (HP5.out.nodup_iff.2 List.nodup_range) (by rw [HSL.out]; exact hjn)))
            have HTK := Lib.hid (show Sx.take (j + 1) = Sx.take j ++ [x] by rw [hx]; exact take_getD (by rw [HSL.out]; exact hjn))
            have HGB := Lib.hid hgb
            have ne2 := HF.out.ne2
            have ne3 := HF.out.ne3
            clear hg hx hxi hgb
            by_cases hp : (nd L x).p = -1
            · rw [hp] at cp
              have HPS := Lib.hid (show putS L s x = ⟨x + 1, s.F, s.N.set x s.e⟩ by unfold putS; rw [if_pos hp])
              clear hp
              have HW := Lib.hid (fam_putE HF.out (by have := HJ.out; omega) x)
              have HOW := Lib.hid (own_two (b1 := gN) (o1 := x) (b2 := gC) (o2 := 0) (v1 := .int .i64 ((s.e : Int) - 1)) (v2 := .int .i64 (x : Int)) HO.out (HLT.out.2 (by have := HJ.out; omega)).2 HLT.out.1)
              rw [← HPS.out] at HW
              go_wp2
              go_region
              go_wp2
              go_roundg (i - (j + 1))
              case measure => have := HG.out; have := HJ.out; omega
              case rel => exact ⟨j + 1, _, by go_num, by have := HJ.out; omega, HW, Lib.hid (by rw [HTK.out]; exact HFP.out), HOW⟩
            · obtain ⟨m, hpm, hmL⟩ : ∃ m : Nat, (nd L x).p = (m : Int) ∧ m < i := by
                rcases HT.out.par x (by rw [HL.out]; exact HXI.out) with h | ⟨m, h1, h2, _⟩
                · exact absurd h hp
                · exact ⟨m, h1, by rw [← HL.out]; exact h2⟩
              rw [hpm] at cp
              obtain ⟨f1, z2, _, _⟩ := HF.out.rows m hmL
              unfold M at f1
              have HPS := Lib.hid (show putS L s x = ⟨s.e, s.F.set m (x + 1), s.N.set x (s.F.getD m 0)⟩ by unfold putS; rw [if_neg hp, hpm, Int.toNat_natCast])
              have hm0 : (0 : Int) ≤ (m : Int) := by omega
              have hmI : (m : Int) < (i : Int) := by omega
              have dm : ((m : Int) != -1) = true := bne_iff_ne.2 (by omega)
              have HW := Lib.hid (fam_putF HF.out (by have := HJ.out; omega) x m)
              have HOW := Lib.hid (own_two (b1 := gN) (o1 := x) (b2 := gF) (o2 := m) (v1 := .int .i64 (((s.F.getD m 0 : Nat) : Int) - 1)) (v2 := .int .i64 (x : Int)) HO.out (HLT.out.2 (by have := HJ.out; omega)).2 (HLT.out.2 (by have := HJ.out; omega)).1)
              rw [← HPS.out] at HW
              clear hp hpm c0 z0 hmL
              go_wp2
              go_region
              go_wp2
              go_roundg (i - (j + 1))
              case measure => have := HG.out; have := HJ.out; omega
              case rel => exact ⟨j + 1, _, by go_num, by have := HJ.out; omega, HW, Lib.hid (by rw [HTK.out]; exact HFP.out), HOW⟩
          · have hjn : j = i := by omega
            subst hjn
            have HU := Lib.hid (up_keys HT.out HL.out HKO.out HP5.out HU5.out)
            have HFF : Hid (Fam L (firstS s) (nextS s)) := Lib.hid (by
              have h := HFA.out
              rw [List.take_of_length_le (by rw [HSL.out]; exact Nat.le_refl _)] at h
              exact famAt_all h HU.out.1 HU.out.2)
            obtain ⟨c0, c1, c2, z0⟩ := HF.out.cells
            have hres : wr.heap[w.heap.size]? = some (.cells zC 61 (0, 0)) := by rw [HF.out.below.block _ HRA.out.2]; exact HRA.out.1
            have q0 : wr.cell? ⟨w.heap.size, 0, none⟩ = some (.int .i64 0) := by rw [Lib.cell_of_heap hres]; rfl
            have q1 : wr.cell? ⟨w.heap.size, 1, none⟩ = some (.slice none 0 0) := by rw [Lib.cell_of_heap hres]; rfl
            have q2 : wr.cell? ⟨w.heap.size, 2, none⟩ = some (.slice none 0 0) := by rw [Lib.cell_of_heap hres]; rfl
            have y0 := Lib.frozen_of_heap hres 0
            have y1 := Lib.frozen_of_heap hres 1
            have y2 := Lib.frozen_of_heap hres 2
            have HCB := Lib.hid HF.out.base
            unfold M at c0
            have HRES := Lib.hid hres
            clear hg hres
            go_wp2
            have hz := res_heap HRES.out (.int .i64 ((s.e : Int) - 1)) (.slice (pA gF) j j) (.slice (pA gN) j j)
            refine bodyPost_ret (results_cell_row rfl _ _ w.heap.size 61 _ _ _ rfl hz Try.underlying61 rfl (by kernel_rfl)) rfl ?_
            exact ⟨gC, gF, gN, s, rfl, fam_res HF.out HBA.out HRA.out.2 _ _ _, HFF.out⟩
#print axioms family_any
end Go.Proofs.Ytmenhbdapikpeaa
