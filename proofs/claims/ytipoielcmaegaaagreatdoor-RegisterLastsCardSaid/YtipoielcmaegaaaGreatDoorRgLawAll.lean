/-
  Merged: RegTurned, RegApart, RegLast.
-/
import Derived.Test.YtipoielcmaegaaaGreatDoorRegEq
import Derived.Deep.CutRange
namespace Go.Proofs.YtipoielcmaegaaaGreatDoor
open Go.RowKit

/-- Claims in a row of the call's own, as they are written. -/
structure ClRow (w : World) (g n : Nat) (L : List ClaimV) : Prop where
  len : L.length = n
  ok : ∀ x ∈ L, ClOk x
  room : w.there g 0 (n * 70)
  at_ : ∀ j, j < n → w.rangeAt g (j * 70) (claimL (gd L j))
section
variable {w w' : World} {g n c base : Nat} {L : List ClaimV}
theorem ClRow.of (h : OwnG clK CEr w base (.slice (some ⟨g, 0, none⟩) n c) L) (hn : 0 < n) : ClRow w g n L := by
  have ha := h.atG
  obtain ⟨g', hg', _, _, hfz⟩ := h.row hn
  simp only [Option.some.injEq, Addr.mk.injEq, and_true] at hg'
  subst hg'
  have hk : clK.k = 70 := rfl
  have hat : ∀ j, j < n → w.rangeAt g (j * 70) (claimL (gd L j)) := fun j hj => by
    have := ha.at_ j hj
    rw [hk, Nat.zero_add] at this
    exact this
  refine ⟨ha.1, h.2, fun i hi => ⟨?_, hfz _⟩, hat⟩
  have hj : i / 70 < n := by omega
  have hl := claimL_len (ha.ok hj).1 (ha.ok hj).2.1
  have hm : i % 70 < (claimL (gd L (i / 70))).length := by omega
  have h2 := hat (i / 70) hj (i % 70) _ (List.getElem?_eq_getElem hm)
  rw [show i / 70 * 70 + i % 70 = 0 + i from by omega] at h2
  rw [h2]; rfl
theorem ClRow.get (h : ClRow w g n L) {j : Nat} (hj : j < n) : ClOk (gd L j) := h.ok _ (gd_mem (by rw [h.len]; exact hj))
theorem ClRow.below (h : ClRow w g n L) (hn : 0 < n) (hb : Below w.heap.size w w') : ClRow w' g n L := by
  have hlt : g < w.heap.size := by
    have h1 := (h.room 0 (by omega)).1
    obtain ⟨u, hu⟩ := Option.isSome_iff_exists.1 h1
    exact World.block_lt_of_cell? _ _ hu
  have hs := hb.block g hlt
  refine ⟨h.len, h.ok, fun i hi => ?_, fun j hj i v hv => ?_⟩
  · have := h.room i hi
    unfold World.cell? World.frozen? at *
    simp only [hs] at *
    exact this
  · have := h.at_ j hj i v hv
    unfold World.cell? at *
    simp only [hs] at *
    exact this
theorem ClRow.atG (h : ClRow w g n L) (hc : n ≤ c) (hc2 : c ≤ 9223372036854775807) : AtG clK w (some ⟨g, 0, none⟩) n c L := ⟨h.len, hc, hc2, h.ok, .inr ⟨g, 0, rfl, fun j hj => by
  have hk : clK.k = 70 := rfl
  rw [hk, Nat.zero_add]; exact h.at_ j hj⟩⟩
theorem ClRow.set (h : ClRow w g n L) {j : Nat} (hj : j < n) {y : ClaimV} (hy : ClOk y) : ClRow (w.setCells g (j * 70) (claimL y)) g n (L.set j y) := by
  have hl := claimL_len hy.1 hy.2.1
  have hr : w.there g (j * 70) (claimL y).length := fun i hi => by
    have := h.room (j * 70 + i) (by omega)
    rwa [Nat.zero_add] at this
  refine ⟨by rw [List.length_set]; exact h.len, fun x hx => ?_, World.there_setCells h.room g _ _, fun k hk => ?_⟩
  · rcases List.mem_or_eq_of_mem_set hx with hx | rfl
    · exact h.ok x hx
    · exact hy
  · by_cases hkj : k = j
    · subst hkj
      have e : gd (L.set k y) k = y := by unfold gd; simp [h.len, hk]
      rw [e]
      exact World.rangeAt_setCells_same w g _ _ hr
    · have e : gd (L.set j y) k = gd L k := by
        unfold gd
        rw [List.getD_eq_getElem?_getD, List.getD_eq_getElem?_getD, List.getElem?_set_ne (fun e => hkj e.symm)]
      rw [e]
      have hlk := claimL_len (h.get hk).1 (h.get hk).2.1
      refine World.rangeAt_setCells_apart (h.at_ k hk) g _ _ (.inr ?_)
      rw [hlk, hl]
      rcases Nat.lt_or_ge k j with h1 | h1
      · left; omega
      · right; omega
theorem ClRow.there (h : ClRow w g n L) {j : Nat} (hj : j < n) {y : ClaimV} (hy : y.key.c.length = 32 ∧ y.doc.c.length = 32) : w.there g (j * 70) (claimC y).size := fun i hi => by
  rw [claimC_size hy.1 hy.2] at hi
  have := h.room (j * 70 + i) (by omega)
  rwa [Nat.zero_add] at this
end
theorem grown_setCells (g : Nat) : ∀ (vs : List Value) (o : Nat) (w : World), w.grownBy (w.setCells g o vs) (some g)
  | [], _, _ => ⟨rfl, rfl, rfl, Nat.le_refl _, fun _ _ _ => rfl⟩
  | v :: r, o, w => (show w.grownBy (w.setCell ⟨g, o, none⟩ v) (some g) from ⟨rfl, rfl, rfl, by simp, fun k _ hk => Below.heap_setCell _ _ _ _ (fun e => hk (by rw [e]))⟩).trans (grown_setCells g r (o + 1) _)
theorem one70 (x : ClaimV) : (claimC x).all (·.oneCell') = true := all_oneCell_toArray (claimL_one x)
theorem size70 (x : ClaimV) (hx : x.key.c.length = 32 ∧ x.doc.c.length = 32) : (Tryz.prog.info? CEr).map (·.size) = some (claimC x).size := by rw [claimC_size hx.1 hx.2]; exact info70
theorem size70L (x : ClaimV) (hx : x.key.c.length = 32 ∧ x.doc.c.length = 32) : (Tryz.prog.info? CEr).map (·.size) = some (claimL x).length := by rw [claimL_len hx.1 hx.2]; exact info70
theorem rem_nat (x : Int) (n : Nat) (h1 : (1 : Int) ≤ n) (h2 : (n : Int) ≤ 40) : ∃ k : Nat, wrap64 ((IntKind.u64.wrap x).tmod n) = (k : Int) ∧ k < n := by
  have h0 : 0 ≤ IntKind.u64.wrap x := by rw [IntKind.wrap_u64]; omega
  have ht : (IntKind.u64.wrap x).tmod n = (IntKind.u64.wrap x) % n := Int.tmod_eq_emod_of_nonneg h0
  have a := Int.emod_nonneg (IntKind.u64.wrap x) (show (n : Int) ≠ 0 by omega)
  have b := Int.emod_lt_of_pos (IntKind.u64.wrap x) (show (0 : Int) < n by omega)
  refine ⟨((IntKind.u64.wrap x) % n).toNat, ?_, by omega⟩
  rw [ht]
  unfold wrap64
  omega
theorem light_cases (n : Nat) (L : List ClaimV) : ∃ q : Bool, q = true ↔ n ≤ 40 ∧ ∀ x ∈ L, x.path.length ≤ 100 := ⟨(by classical exact decide (n ≤ 40 ∧ ∀ x ∈ L, x.path.length ≤ 100)), by classical exact decide_eq_true_iff⟩

end Go.Proofs.YtipoielcmaegaaaGreatDoor

namespace Go.Proofs.YtipoielcmaegaaaGreatDoor
open Go.RowKit

/-- A struct stored into a block of such, in a drawn region. -/
theorem wp_store_blk {E : TypeId} {w : World} {g : Nat} {us vs : List Value} (h : BlkAt E w g us) (hk : (Tryz.prog.info? E).map (·.size) = some vs.length) (hl : us.length = vs.length) (h1 : ∀ v ∈ vs, v.oneCell' = true) {o : Oper} {a : Act} {K : Act → World → Prop} {Q : Exit → Act → World → Prop} (x y : Operand) (ho : o.op = .store E x y)
    (hx : a.eval x = .pointer (some ⟨g, 0, none⟩)) (hy : a.eval y = .agg vs.toArray)
    (hK : ∀ W, BlkAt E W g vs → w.grownBy W (some g) → K (a.put o.dst undef) W) : o.wp Tryz.prog a w K Q := by
  have hs : vs.toArray.size = vs.length := by simp
  refine wp_store_row E x y ho g vs.toArray hx hy E us.toArray h (by rw [hs]; exact hk) (by simp [hl]) ?_ (hK _ (setRow_heap _ _ us.toArray vs.toArray _ _ h) ?_)
  · rw [Array.all_eq_true_iff_forall_mem]
    intro v hv
    exact h1 v (by simpa using hv)
  · refine ⟨rfl, rfl, rfl, by simp [World.setRow], fun k hk hne => ?_⟩
    unfold World.setRow
    rw [Array.getElem?_modify, if_neg (fun e => hne (by rw [e]))]
theorem found_is {S : List ClaimV} {P : List (List UInt8)} {i : Nat} {X : NamedV} {s : List UInt8} {k : KeyV} {q : Bool} (hP : PathsTo S P) (hi : i < S.length) (hs : s = P.getD i default) (hX : X = ((S.getD i default).doc, P.getD i default))
    (h : (q = true ∧ ∃ j, j < S.length ∧ P.getD j default = s ∧ k = (S.getD j default).doc) ∨ (q = false ∧ k = zeroK ∧ ∀ j, j < S.length → P.getD j default ≠ s)) : q = true ∧ k = X.1 := by
  rcases h with ⟨h1, j, hj, h2, h3⟩ | ⟨_, _, h3⟩
  · have e := hP.inj hj hi (h2.trans hs)
    subst e
    exact ⟨h1, by rw [h3, hX]⟩
  · exact absurd hs.symm (h3 i hi)
theorem clash_is (a b : ByteArray) (q : Bool) (w : World) (h : clashF a.data.toList b.data.toList = q) : Calls Tryz.prog 32 #[.string a, .string b] w fun e w' => e = .returned (.bool q) ∧ w = w' := by subst h; exact clash_any a b w

end Go.Proofs.YtipoielcmaegaaaGreatDoor

namespace Go.Proofs.YtipoielcmaegaaaGreatDoor
open Go.RowKit Go.Maps

/-- other, ok := last[doc], in a drawn region. -/
theorem wp_look {w : World} {o : Oper} {a : Act} {K : Act → World → Prop} {Q : Exit → Act → World → Prop} (mo x : Operand) (hop : o.op = Op.lookup 59 mo x true)
    (g k : Nat) (D : DataW Unit) (hown : MapC w g k D) (hm : a.eval mo = .map (some g)) (d : KeyV) (hx : a.eval x = .agg (keyC d)) (kl : Lit) (hk : KlK d kl)
    (c : ClaimV) (b : Bool) (hb : Maps.has D kl = b) (hat : D.atKey kl (clD default) = clD c)
    (hK : K (a.put o.dst (.tuple #[.agg (claimC c), .bool b])) w) : o.wp Tryz.prog a w K Q := by
  obtain ⟨v, ps, hrun, hv⟩ := hown.look_ok (t := 59) (e := CEr) lawK Tryz.underlying59 (zeroCl w) (zd := clD default) (zp := []) (clElem_mk ⟨rfl, rfl⟩) hk
  obtain ⟨c', hc', rfl, he⟩ := clElem_inv hv
  simp only [Prod.mk.injEq] at he
  rw [hat] at he
  obtain rfl := clD_inj he.1
  rw [hb] at hrun
  unfold Oper.wp
  simp [execOp, hop, hm, hx, hrun, Result.andThen]
  exact hK
theorem last_look {L : List ClaimV} {D : DataW Unit} {X : ClaimV} {d : KeyV} {kl : Lit} (hld : LastD L D) (hX : RightR L ∧ IsLast L X) (hk : KlK d kl) (hd : X.doc = d) : Maps.has D kl = true ∧ D.atKey kl (clD default) = clD X := by
  subst hd
  obtain ⟨h1, e, h2, h3, h4⟩ := hld.some_ hX.2.1 hk
  obtain rfl := h2.uniq hX.1 hX.2 h3
  exact ⟨h1, h4 _⟩

set_option maxRecDepth 100000 in
set_option maxHeartbeats 1600000 in
theorem last_any (a : Option Addr) (n c : Nat) (L : List ClaimV) (X : ClaimV) (d : KeyV) (w : World) (h : AtG clK w a n c L) (hn : n ≤ 1000) (hl : ∀ c ∈ L, c.path.length ≤ 100000) (hT : PTabs w) (hR : RightR L) (hX : IsLast L X) (hd : X.doc = d) :
    Calls Tryz.prog 12 #[.slice a n c, .agg (keyC d)] w fun e w' => e = .returned (.tuple #[.agg (claimC X), .bool true]) ∧ Below w.heap.size w w' := by
  have hok : ClOk X := h.2.2.2.1 X hX.1
  have HLA := Lib.hid (fun W (hW : Below w.heap.size w W) => lasts_any a n c L L W (h.below hW) hn hl (hT.below hW) (.inl ⟨hR, rfl⟩))
  have HX : Hid ((RightR L ∧ IsLast L X) ∧ ClOk X) := Lib.hid ⟨⟨hR, hX⟩, hok⟩
  have HXC : Hid (X.key.c.length = 32 ∧ X.doc.c.length = 32) := Lib.hid ⟨hok.1, hok.2.1⟩
  obtain ⟨kl, hkl⟩ := hok.2.2.2.1
  rw [hd] at hkl
  have HKL := Lib.hid hkl
  have HDE := Lib.hid hd
  have HDL : Hid (d.c.length = 32) := Lib.hid (hd ▸ hok.2.1)
  clear h hn hl hT hR hX hok hkl hd
  go_enter Tryz.func12, Tryz.ntmps12
  go_wp2
  have HK3 : Hid (BlkAt 35 ((w.alloc (.cells (keyC d) 35)).alloc (.cells (claimC default) 40)) w.heap.size (keyL d)) := Lib.hid ((BlkAt.new w 35 (keyC d)).below ((Below.refl _ _).alloc (Nat.le_refl _) _))
  have HZ4 : Hid (∃ us, us.length = 70 ∧ BlkAt CEr ((w.alloc (.cells (keyC d) 35)).alloc (.cells (claimC default) 40)) (w.heap.size + 1) us) := Lib.hid ⟨_, rfl, by have := BlkAt.new (w.alloc (.cells (keyC d) 35)) CEr (claimC default); rwa [show (w.alloc (.cells (keyC d) 35)).heap.size = w.heap.size + 1 from by simp] at this⟩
  have HG4 : Hid (w.heap.size ≤ (w.heap.size + 1)) := Lib.hid (Nat.le_succ _)
  have HBB : Hid (Below w.heap.size w ((w.alloc (.cells (keyC d) 35)).alloc (.cells (claimC default) 40))) := Lib.hid (((Below.refl w.heap.size w).alloc (Nat.le_refl _) _).alloc (size_alloc_le _ _) _)
  rw [show Tryz.zeroCells40 = claimC default from by kernel_rfl]
  generalize hwb : (w.alloc (.cells (keyC d) 35)).alloc (.cells (claimC default) 40) = wb at HK3 HZ4 HBB ⊢
  generalize hg4 : (w.heap.size + 1) = g4 at HZ4 HG4 ⊢
  clear hwb hg4
  obtain ⟨us, hus, hbk4⟩ := HZ4.out
  have HZ4 := Lib.hid hbk4
  have HZL := Lib.hid hus
  clear hbk4 hus
  have HBd : Hid (Below wb.heap.size wb wb.drew) := Lib.hid (Below.refl _ _).drew
  refine wp_region_held_drew (S := fun W => Below wb.heap.size wb W) (by kernel_rfl) HBd.out (fun hHeld => ?_)
  refine wpAnyH_take (i := 0) (oi := ⟨some 9, .move (.tmp 0), _, _, _, _⟩) (v := (.slice a n c)) rfl (by kernel_rfl) (by kernel_rfl) (by kernel_rfl) (fun _ _ _ h => h) (Or.inl ⟨by rfl, fun W hW => by go_simp⟩) (by assumption) ?_
  simp only [Act.put, List.setIfInBounds_toArray, List.set_cons_zero, List.set_cons_succ]
  refine wpAnyH_take (i := 2) (oi := ⟨some 11, .load 35 (.tmp 3), _, _, _, _⟩) (v := (.agg (keyC d))) rfl (by kernel_rfl) (by kernel_rfl) (by kernel_rfl) (fun _ _ _ h => h) (Or.inl ⟨by rfl, fun W hW => exec_loadKey _ rfl _ _ d HDL.out rfl (HK3.out.below hW).range⟩) (by assumption) ?_
  simp only [Act.put, List.setIfInBounds_toArray, List.set_cons_zero, List.set_cons_succ]
  refine wpAnyH_ready (rs := [1, 7]) (by kernel_rfl) (by simp) ?_
  refine AllReadyH.cons (o := ⟨some 10, .call { callee := .value (.func 22), args := #[.tmp 9], argTypes := #[26] }, _, _, _, _⟩) rfl (fun K hK => ?_) (AllReadyH.cons (o := ⟨some 6, .alloc CEr, _, _, _, _⟩) rfl (fun K hK => ?_) AllReadyH.nil)
  · go_simp
    go_wp2_with (go_at_call 22; go_must (refine (HLA.out _ (HBB.out.trans (HBd.out.mono HBB.out.size))).mono ?_); rintro e wt ⟨g, k, D, rfl, _, _, hmap, hld, hb5⟩; have HMP := Lib.hid hmap; have HLK := Lib.hid (last_look hld HX.out.1 HKL.out HDE.out); have HX1 := Lib.hid (HBd.out.trans (hb5.mono HBd.out.size)); have HBT := Lib.hid hb5; clear hmap hld hb5)
    refine hK.out _ _ HX1.out (fun hHeld => ?_)
    clear hK K
    refine wpAnyH_ready (rs := [3, 7]) (by kernel_rfl) (by simp) ?_
    refine AllReadyH.cons (o := ⟨some 12, .lookup 59 (.tmp 10) (.tmp 11) true, _, _, _, _⟩) rfl (fun K hK => ?_) (AllReadyH.cons (o := ⟨some 6, .alloc CEr, _, _, _, _⟩) rfl (fun K hK => ?_) AllReadyH.nil)
    · refine ready_step (wp_look _ _ rfl g k D HMP.out rfl d rfl kl HKL.out X true HLK.out.1 HLK.out.2 ?_)
      simp only [Act.put, List.setIfInBounds_toArray, List.set_cons_zero, List.set_cons_succ]
      refine hK.out _ _ HX1.out (fun hHeld => ?_)
      clear hK K
      refine wpAnyH_take (i := 4) (oi := ⟨some 8, .move (.tmp 12), _, _, _, _⟩) (v := (.tuple #[.agg (claimC X), .bool true])) rfl (by kernel_rfl) (by kernel_rfl) (by kernel_rfl) (fun _ _ _ h => h) (Or.inl ⟨by rfl, fun W hW => by go_simp⟩) (by assumption) ?_
      simp only [Act.put, List.setIfInBounds_toArray, List.set_cons_zero, List.set_cons_succ]
      refine wpAnyH_take (i := 5) (oi := ⟨some 13, .extract (.tmp 8) 0, _, _, _, _⟩) (v := (.agg (claimC X))) rfl (by kernel_rfl) (by kernel_rfl) (by kernel_rfl) (fun _ _ _ h => h) (Or.inl ⟨by rfl, fun W hW => by go_simp⟩) (by assumption) ?_
      simp only [Act.put, List.setIfInBounds_toArray, List.set_cons_zero, List.set_cons_succ]
      refine wpAnyH_take (i := 6) (oi := ⟨some 14, .extract (.tmp 8) 1, _, _, _, _⟩) (v := (.bool true)) rfl (by kernel_rfl) (by kernel_rfl) (by kernel_rfl) (fun _ _ _ h => h) (Or.inl ⟨by rfl, fun W hW => by go_simp⟩) (by assumption) ?_
      simp only [Act.put, List.setIfInBounds_toArray, List.set_cons_zero, List.set_cons_succ]
      refine wpAnyH_ready (rs := [7]) (by kernel_rfl) (by simp) ?_
      refine AllReadyH.cons (o := ⟨some 6, .alloc CEr, _, _, _, _⟩) rfl (fun K hK => ?_) AllReadyH.nil
      go_simp
      have HK0 := Lib.hid (BlkAt.new wt CEr (claimC default))
      have HX2 := Lib.hid (HX1.out.alloc HX1.out.size (.cells (claimC default) CEr))
      have HGK := Lib.hid (HX1.out.size)
      have HAB := Lib.hid ((Below.refl wt.heap.size wt).alloc (Nat.le_refl _) (.cells (claimC default) CEr))
      refine hK.out _ _ HX2.out (fun hHeld => ?_)
      clear hK K
      refine wpAnyH_ready (rs := [8]) (by kernel_rfl) (by simp) ?_
      refine AllReadyH.cons (o := ⟨none, .store CEr (.tmp 6) (.tmp 13), _, _, _, _⟩) rfl (fun K hK => ?_) AllReadyH.nil
      refine ready_step (wp_store_blk (vs := claimL X) HK0.out (size70L X HXC.out) (by rw [claimL_len HXC.out.1 HXC.out.2]; rfl) (claimL_one _) _ _ rfl rfl rfl ?_)
      intro Ws hks hgs
      have HBS := Lib.hid (HX2.out.grown hgs HX2.out.size (fun q hq => by cases hq; exact HGK.out))
      have HKS := Lib.hid hks
      clear hks hgs
      refine hK.out _ _ HBS.out (fun hHeld => ?_)
      clear hK K
      refine wpAnyH_take (i := 9) (oi := ⟨some 7, .assign (.tmp 14), _, _, _, _⟩) (v := (.bool true)) rfl (by kernel_rfl) (by kernel_rfl) (by kernel_rfl) (fun _ _ _ h => h) (Or.inl ⟨by rfl, fun W hW => by go_simp⟩) (by assumption) ?_
      simp only [Act.put, List.setIfInBounds_toArray, List.set_cons_zero, List.set_cons_succ]
      refine wpAnyH_done (by kernel_rfl) ?_ _
      go_wp2_with (first
        | ((with_reducible show wpList _ _ _ (⟨some 15, _, _, _, _, _⟩ :: _) _ _); go_must (refine wl_ex rfl (exec_loadClaim _ rfl _ _ X HXC.out rfl HKS.out.range) ?_))
        | ((with_reducible show wpList _ _ _ (⟨_, Op.store _ (.tmp 4) _, _, _, _, _⟩ :: _) _ _); go_must (refine store_blk (vs := claimL X) (HZ4.out.below HBS.out) (size70L X HXC.out) (by rw [claimL_len HXC.out.1 HXC.out.2]; exact HZL.out) (claimL_one _) rfl _ _ rfl rfl rfl ?_); intro W4 hk4 hg4))
      refine bodyPost_ret (results_blk2 (run_loadClaim HX.out.2 hk4.range) rfl _ rfl) rfl ?_
      refine ⟨rfl, ?_⟩
      exact (HBB.out.trans (HBS.out.mono HBB.out.size)).grown hg4 (HBB.out.trans (HBS.out.mono HBB.out.size)).size (fun q hq => by cases hq; exact HG4.out)
    · go_simp
      have HK0 := Lib.hid (BlkAt.new wt CEr (claimC default))
      have HX2 := Lib.hid (HX1.out.alloc HX1.out.size (.cells (claimC default) CEr))
      have HGK := Lib.hid (HX1.out.size)
      have HAB := Lib.hid ((Below.refl wt.heap.size wt).alloc (Nat.le_refl _) (.cells (claimC default) CEr))
      refine hK.out _ _ HX2.out (fun hHeld => ?_)
      clear hK K
      refine wpAnyH_ready (rs := [3]) (by kernel_rfl) (by simp) ?_
      refine AllReadyH.cons (o := ⟨some 12, .lookup 59 (.tmp 10) (.tmp 11) true, _, _, _, _⟩) rfl (fun K hK => ?_) AllReadyH.nil
      refine ready_step (wp_look _ _ rfl g k D (map_below HMP.out HAB.out) rfl d rfl kl HKL.out X true HLK.out.1 HLK.out.2 ?_)
      simp only [Act.put, List.setIfInBounds_toArray, List.set_cons_zero, List.set_cons_succ]
      refine hK.out _ _ HX2.out (fun hHeld => ?_)
      clear hK K
      refine wpAnyH_take (i := 4) (oi := ⟨some 8, .move (.tmp 12), _, _, _, _⟩) (v := (.tuple #[.agg (claimC X), .bool true])) rfl (by kernel_rfl) (by kernel_rfl) (by kernel_rfl) (fun _ _ _ h => h) (Or.inl ⟨by rfl, fun W hW => by go_simp⟩) (by assumption) ?_
      simp only [Act.put, List.setIfInBounds_toArray, List.set_cons_zero, List.set_cons_succ]
      refine wpAnyH_take (i := 5) (oi := ⟨some 13, .extract (.tmp 8) 0, _, _, _, _⟩) (v := (.agg (claimC X))) rfl (by kernel_rfl) (by kernel_rfl) (by kernel_rfl) (fun _ _ _ h => h) (Or.inl ⟨by rfl, fun W hW => by go_simp⟩) (by assumption) ?_
      simp only [Act.put, List.setIfInBounds_toArray, List.set_cons_zero, List.set_cons_succ]
      refine wpAnyH_take (i := 6) (oi := ⟨some 14, .extract (.tmp 8) 1, _, _, _, _⟩) (v := (.bool true)) rfl (by kernel_rfl) (by kernel_rfl) (by kernel_rfl) (fun _ _ _ h => h) (Or.inl ⟨by rfl, fun W hW => by go_simp⟩) (by assumption) ?_
      simp only [Act.put, List.setIfInBounds_toArray, List.set_cons_zero, List.set_cons_succ]
      refine wpAnyH_ready (rs := [8]) (by kernel_rfl) (by simp) ?_
      refine AllReadyH.cons (o := ⟨none, .store CEr (.tmp 6) (.tmp 13), _, _, _, _⟩) rfl (fun K hK => ?_) AllReadyH.nil
      refine ready_step (wp_store_blk (vs := claimL X) HK0.out (size70L X HXC.out) (by rw [claimL_len HXC.out.1 HXC.out.2]; rfl) (claimL_one _) _ _ rfl rfl rfl ?_)
      intro Ws hks hgs
      have HBS := Lib.hid (HX2.out.grown hgs HX2.out.size (fun q hq => by cases hq; exact HGK.out))
      have HKS := Lib.hid hks
      clear hks hgs
      refine hK.out _ _ HBS.out (fun hHeld => ?_)
      clear hK K
      refine wpAnyH_take (i := 9) (oi := ⟨some 7, .assign (.tmp 14), _, _, _, _⟩) (v := (.bool true)) rfl (by kernel_rfl) (by kernel_rfl) (by kernel_rfl) (fun _ _ _ h => h) (Or.inl ⟨by rfl, fun W hW => by go_simp⟩) (by assumption) ?_
      simp only [Act.put, List.setIfInBounds_toArray, List.set_cons_zero, List.set_cons_succ]
      refine wpAnyH_done (by kernel_rfl) ?_ _
      go_wp2_with (first
        | ((with_reducible show wpList _ _ _ (⟨some 15, _, _, _, _, _⟩ :: _) _ _); go_must (refine wl_ex rfl (exec_loadClaim _ rfl _ _ X HXC.out rfl HKS.out.range) ?_))
        | ((with_reducible show wpList _ _ _ (⟨_, Op.store _ (.tmp 4) _, _, _, _, _⟩ :: _) _ _); go_must (refine store_blk (vs := claimL X) (HZ4.out.below HBS.out) (size70L X HXC.out) (by rw [claimL_len HXC.out.1 HXC.out.2]; exact HZL.out) (claimL_one _) rfl _ _ rfl rfl rfl ?_); intro W4 hk4 hg4))
      refine bodyPost_ret (results_blk2 (run_loadClaim HX.out.2 hk4.range) rfl _ rfl) rfl ?_
      refine ⟨rfl, ?_⟩
      exact (HBB.out.trans (HBS.out.mono HBB.out.size)).grown hg4 (HBB.out.trans (HBS.out.mono HBB.out.size)).size (fun q hq => by cases hq; exact HG4.out)
  · go_simp
    have HK0 := Lib.hid (BlkAt.new wb.drew CEr (claimC default))
    have HX1 := Lib.hid (HBd.out.alloc HBd.out.size (.cells (claimC default) CEr))
    have HGK := Lib.hid (HBd.out.size)
    have HAB := Lib.hid ((Below.refl wb.drew.heap.size wb.drew).alloc (Nat.le_refl _) (.cells (claimC default) CEr))
    refine hK.out _ _ HX1.out (fun hHeld => ?_)
    clear hK K
    refine wpAnyH_ready (rs := [1]) (by kernel_rfl) (by simp) ?_
    refine AllReadyH.cons (o := ⟨some 10, .call { callee := .value (.func 22), args := #[.tmp 9], argTypes := #[26] }, _, _, _, _⟩) rfl (fun K hK => ?_) AllReadyH.nil
    go_simp
    go_wp2_with (go_at_call 22; go_must (refine (HLA.out _ (HBB.out.trans (HX1.out.mono HBB.out.size))).mono ?_); rintro e wt ⟨g, k, D, rfl, _, _, hmap, hld, hb5⟩; have HMP := Lib.hid hmap; have HLK := Lib.hid (last_look hld HX.out.1 HKL.out HDE.out); have HX2 := Lib.hid (HX1.out.trans (hb5.mono HX1.out.size)); have HBT := Lib.hid hb5; clear hmap hld hb5)
    refine hK.out _ _ HX2.out (fun hHeld => ?_)
    clear hK K
    refine wpAnyH_ready (rs := [3]) (by kernel_rfl) (by simp) ?_
    refine AllReadyH.cons (o := ⟨some 12, .lookup 59 (.tmp 10) (.tmp 11) true, _, _, _, _⟩) rfl (fun K hK => ?_) AllReadyH.nil
    refine ready_step (wp_look _ _ rfl g k D HMP.out rfl d rfl kl HKL.out X true HLK.out.1 HLK.out.2 ?_)
    simp only [Act.put, List.setIfInBounds_toArray, List.set_cons_zero, List.set_cons_succ]
    refine hK.out _ _ HX2.out (fun hHeld => ?_)
    clear hK K
    refine wpAnyH_take (i := 4) (oi := ⟨some 8, .move (.tmp 12), _, _, _, _⟩) (v := (.tuple #[.agg (claimC X), .bool true])) rfl (by kernel_rfl) (by kernel_rfl) (by kernel_rfl) (fun _ _ _ h => h) (Or.inl ⟨by rfl, fun W hW => by go_simp⟩) (by assumption) ?_
    simp only [Act.put, List.setIfInBounds_toArray, List.set_cons_zero, List.set_cons_succ]
    refine wpAnyH_take (i := 5) (oi := ⟨some 13, .extract (.tmp 8) 0, _, _, _, _⟩) (v := (.agg (claimC X))) rfl (by kernel_rfl) (by kernel_rfl) (by kernel_rfl) (fun _ _ _ h => h) (Or.inl ⟨by rfl, fun W hW => by go_simp⟩) (by assumption) ?_
    simp only [Act.put, List.setIfInBounds_toArray, List.set_cons_zero, List.set_cons_succ]
    refine wpAnyH_take (i := 6) (oi := ⟨some 14, .extract (.tmp 8) 1, _, _, _, _⟩) (v := (.bool true)) rfl (by kernel_rfl) (by kernel_rfl) (by kernel_rfl) (fun _ _ _ h => h) (Or.inl ⟨by rfl, fun W hW => by go_simp⟩) (by assumption) ?_
    simp only [Act.put, List.setIfInBounds_toArray, List.set_cons_zero, List.set_cons_succ]
    refine wpAnyH_ready (rs := [8]) (by kernel_rfl) (by simp) ?_
    refine AllReadyH.cons (o := ⟨none, .store CEr (.tmp 6) (.tmp 13), _, _, _, _⟩) rfl (fun K hK => ?_) AllReadyH.nil
    refine ready_step (wp_store_blk (vs := claimL X) (HK0.out.below HBT.out) (size70L X HXC.out) (by rw [claimL_len HXC.out.1 HXC.out.2]; rfl) (claimL_one _) _ _ rfl rfl rfl ?_)
    intro Ws hks hgs
    have HBS := Lib.hid (HX2.out.grown hgs HX2.out.size (fun q hq => by cases hq; exact HGK.out))
    have HKS := Lib.hid hks
    clear hks hgs
    refine hK.out _ _ HBS.out (fun hHeld => ?_)
    clear hK K
    refine wpAnyH_take (i := 9) (oi := ⟨some 7, .assign (.tmp 14), _, _, _, _⟩) (v := (.bool true)) rfl (by kernel_rfl) (by kernel_rfl) (by kernel_rfl) (fun _ _ _ h => h) (Or.inl ⟨by rfl, fun W hW => by go_simp⟩) (by assumption) ?_
    simp only [Act.put, List.setIfInBounds_toArray, List.set_cons_zero, List.set_cons_succ]
    refine wpAnyH_done (by kernel_rfl) ?_ _
    go_wp2_with (first
      | ((with_reducible show wpList _ _ _ (⟨some 15, _, _, _, _, _⟩ :: _) _ _); go_must (refine wl_ex rfl (exec_loadClaim _ rfl _ _ X HXC.out rfl HKS.out.range) ?_))
      | ((with_reducible show wpList _ _ _ (⟨_, Op.store _ (.tmp 4) _, _, _, _, _⟩ :: _) _ _); go_must (refine store_blk (vs := claimL X) (HZ4.out.below HBS.out) (size70L X HXC.out) (by rw [claimL_len HXC.out.1 HXC.out.2]; exact HZL.out) (claimL_one _) rfl _ _ rfl rfl rfl ?_); intro W4 hk4 hg4))
    refine bodyPost_ret (results_blk2 (run_loadClaim HX.out.2 hk4.range) rfl _ rfl) rfl ?_
    refine ⟨rfl, ?_⟩
    exact (HBB.out.trans (HBS.out.mono HBB.out.size)).grown hg4 (HBB.out.trans (HBS.out.mono HBB.out.size)).size (fun q hq => by cases hq; exact HG4.out)
#print axioms last_any
end Go.Proofs.YtipoielcmaegaaaGreatDoor
