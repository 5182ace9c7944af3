/-
  The walks of slices.Clone at ints and of order.sorted at ints: places, by their keys.
-/
import Derived.Test.YtmenhbdapikpeaaSortSeg
import Derived.Test.YtmenhbdapikpeaaIntMerge
import Derived.Lib.SliceRun
namespace Go.Proofs.Ytmenhbdapikpeaa
open Go.RowKit

/-- 'min(x, y)'. -/
theorem wl_minI {P : Program} {w : World} {ops : Array Oper} {rest : List Oper} {o : Oper} {a : Act} {Q : Exit → Act → World → Prop} (hgd : o.guard = none) (x y : Operand) (ats : Array TypeId)
    (ho : o.op = .call { callee := .builtin .min, args := #[x, y], argTypes := ats }) (X Y Z : Int) (hx : a.eval x = .int .i64 X) (hy : a.eval y = .int .i64 Y) (hz : Z = if Y < X then Y else X)
    (h : wpList P ops Q rest (a.put o.dst (.int .i64 Z)) w) : wpList P ops Q (o :: rest) a w := by
  refine wpList_ok hgd (v := .int .i64 Z) ?_ h
  subst hz
  obtain ⟨dst, op, ty, pos, after, guard⟩ := o
  subst ho
  simp only [BigFrame.execOp_builtin, BigFrame.builtin_min]
  simp [hx, hy, Builtin.min_, Builtin.min2]

theorem ownN_empty (w : World) : Own1 N 3 (w.alloc (.cells #[] 3)) w.heap.size (.slice (some ⟨w.heap.size, 0, none⟩) 0 0) [] :=
  World.ownsRow_lit w #[] 0 (Nat.le_refl _) (Nat.zero_le _) rfl
theorem oneN (x : Nat) : (N x).oneCell' = true := rfl

set_option maxRecDepth 100000 in
set_option maxHeartbeats 400000 in
theorem cloneN_any (a : Option Addr) (n c : Nat) (l : List Nat) (w : World) (hb : At1 N w a n c l) (hl : n ≤ 1000000000) :
    Calls Try.prog 46 #[.slice a n c] w fun e w' => ∃ a1 c1, e = .returned (.slice a1 n c1) ∧ Own1 N 3 w' w.heap.size (.slice a1 n c1) l ∧ Below w.heap.size w w' := by
  rcases a with _ | ad
  · have hn0 : l = [] ∧ n = 0 := by
      rcases hb.2.2.2 with ⟨h0, _⟩ | ⟨b, off, h, _⟩
      · exact ⟨List.length_eq_zero_iff.1 (by rw [hb.1]; exact h0), h0⟩
      · cases h
    obtain ⟨rfl, rfl⟩ := hn0
    have HO := Lib.hid (show Own1 N 3 w w.heap.size (.slice none 0 0) [] from Own1.nil)
    clear hb
    have q := fun W a n c n' c' => Lib.run_eql_slice_nil (P := Try.prog) W _ _ a n c n' c' Try.underlying27
    go_enter Try.func46, Try.ntmps46
    go_wp2
    go_ret
    exact ⟨_, _, rfl, HO.out, Below.refl _ _⟩
  · have hbel : Below w.heap.size w (w.alloc (.cells #[] 3)) := (Below.refl _ _).alloc (Nat.le_refl _) _
    have HB := Lib.hid (hb.below hbel)
    have HO := Lib.hid (ownN_empty w)
    have HBL := Lib.hid hbel
    clear hbel hb
    have q := fun W a n c n' c' => Lib.run_eql_slice_nil (P := Try.prog) W _ _ a n c n' c' Try.underlying27
    go_enter Try.func46, Try.ntmps46
    go_wp2_with (at_builtin; go_must (refine app1 N oneN Try.underlying27 infoN rfl rfl (.tmp 5) (.tmp 6) rfl w.heap.size _ [] rfl HO.out (some ad) n c l rfl HB.out (by simp; omega) (by simp) n (by simp) ?_); intro a1 c1 w1 hown1 hgr1)
    go_ret
    exact ⟨a1, c1, rfl, by simpa using hown1, HBL.out.grown hgr1 (by simp) (fun k hk => (HO.out.lt k hk).1)⟩
#print axioms cloneN_any

theorem Own1.part {w : World} {base g n c : Nat} {L : List Nat} (h : Own1 N 3 w base (.slice (some ⟨g, 0, none⟩) n c) L) (f m d : Nat) (hf : f + m ≤ n) (hm : m ≤ d) (hd : d ≤ 9223372036854775807) :
    At1 N w (some ⟨g, f, none⟩) m d ((L.drop f).take m) := by
  have h1 := h.at1
  have hl := h1.1
  refine ⟨by simp; omega, hm, hd, .inr ⟨g, f, rfl, fun j hj => ?_⟩⟩
  have := h1.cell (f + j) (by omega)
  rw [Nat.zero_add] at this
  rw [this]
  congr 2
  simp [List.getD_eq_getElem?_getD, hj]

/-- The two rows that sorting goes between. -/
def TwoN (base n : Nat) (W : World) (aL aR : Option Addr) (cL cR : Nat) (L R : List Nat) : Prop :=
  Own1 N 3 W base (.slice aL n cL) L ∧ Own1 N 3 W base (.slice aR n cR) R ∧ (0 < n → aL ≠ aR)

theorem mergeN_runs {W : World} {gl gr q t f mid en cL cR n base g ck : Nat} {ak : Option Addr} {K : List KeyV} {L R : List Nat} (hL : Own1 N 3 W base (.slice (some ⟨gl, 0, none⟩) n cL) L) (hR : Own1 N 3 W base (.slice (some ⟨gr, 0, none⟩) n cR) R) (hne : gl ≠ gr) (hn : n ≤ 1000000000)
    (hft : f = t * (2 * q)) (hs : SegP q L (List.range n)) (hX : Ctx W gr g ak n ck K)
    (hmid : (f + q ≤ n ∧ mid = f + q) ∨ (n < f + q ∧ mid = n)) (hen : (f + 2 * q ≤ n ∧ en = f + 2 * q) ∨ (n < f + 2 * q ∧ en = n)) (hf : f < n) :
    Calls Try.prog 47 #[.slice (some ⟨gr, f, none⟩) (en - f) (cR - f), .slice (some ⟨gl, f, none⟩) (mid - f) (cL - f), .slice (if cL = mid then some ⟨gl, 0, none⟩ else some ⟨gl, mid, none⟩) (en - mid) (cL - mid), clV g] W
      fun e w' => e = .returned (.tuple #[]) ∧ W.grownBy w' (some gr) ∧ Own1 N 3 w' base (.slice (some ⟨gr, 0, none⟩) n cR) (R.take f ++ (twoG (plB K) q f L ++ R.drop (f + (twoG (plB K) q f L).length))) := by
  have hLn := hL.len
  have hRn := hR.len
  have hcl := hL.at1.2.1
  have hcl2 := hL.at1.2.2.1
  have hA : At1 N W (some ⟨gl, f, none⟩) (mid - f) (cL - f) ((L.drop f).take q) := by
    have h := hL.part f (mid - f) (cL - f) (by omega) (by omega) (by omega)
    have e : (L.drop f).take (mid - f) = (L.drop f).take q := by
      rcases hmid with ⟨h1, h2⟩ | ⟨h1, h2⟩
      · rw [show mid - f = q from by omega]
      · rw [List.take_of_length_le (by simp; omega), List.take_of_length_le (by simp; omega)]
    rwa [e] at h
  have hC : At1 N W (if cL = mid then some ⟨gl, 0, none⟩ else some ⟨gl, mid, none⟩) (en - mid) (cL - mid) ((L.drop (f + q)).take q) := by
    have e : (L.drop mid).take (en - mid) = (L.drop (f + q)).take q := by
      rcases hmid with ⟨h1, h2⟩ | ⟨h1, h2⟩
      · rw [h2]
        rcases hen with ⟨h3, h4⟩ | ⟨h3, h4⟩
        · rw [show en - (f + q) = q from by omega]
        · rw [List.take_of_length_le (by simp; omega), List.take_of_length_le (by simp; omega)]
      · rw [List.drop_eq_nil_of_le (by omega), List.drop_eq_nil_of_le (by omega)]; simp
    by_cases hc : cL = mid
    · rw [if_pos hc]
      have h0 : (L.drop (f + q)).take q = [] := by
        rw [← e, List.drop_eq_nil_of_le (by omega)]; simp
      rw [h0]
      exact ⟨by simp; omega, by omega, by omega, .inl ⟨by omega, by omega⟩⟩
    · rw [if_neg hc, ← e]
      exact hL.part mid (en - mid) (cL - mid) (by omega) (by omega) (by omega)
  have hap := seg_apart (t := t) hs
  rw [← hft] at hap
  have hlen := twoG_length (plB K) q f L
  refine (mergeP_any gr f (en - f) (cR - f) n cR base g R _ _ _ _ _ _ _ _ ak n ck K W hR (by omega) hA hC (fun b off h => by simp only [Option.some.injEq, Addr.mk.injEq, and_true] at h; omega)
    (fun b off h => by split at h <;> simp only [Option.some.injEq, Addr.mk.injEq, and_true] at h <;> omega) (by omega) hn hX hap.1 hap.2.1 hap.2.2).mono ?_
  rintro e w' ⟨rfl, hk, hr⟩
  refine ⟨rfl, hk, ?_⟩
  have e : fillG R (mrgG (plB K) ((L.drop f).take q) ((L.drop (f + q)).take q)) f (en - f) = R.take f ++ (twoG (plB K) q f L ++ R.drop (f + (twoG (plB K) q f L).length)) := by
    show R.take f ++ ((twoG (plB K) q f L).take (en - f) ++ R.drop (f + (en - f))) = _
    have h1 : (twoG (plB K) q f L).length = en - f := by omega
    rw [show (twoG (plB K) q f L).take (en - f) = twoG (plB K) q f L from List.take_of_length_le (by omega), h1]
  rwa [e] at hr
#print axioms mergeN_runs
theorem ctx_of {w W : World} {gr g n ck : Nat} {ak : Option Addr} {K : List KeyV} (hK : KeysAt w ak n ck K) (hg : w.cell? ⟨g, 0, none⟩ = some (.slice ak n ck)) (hb : Below w.heap.size w W) (hr : w.heap.size ≤ gr) (hn : 0 < n) : Ctx W gr g ak n ck K := by
  have hlt : g < w.heap.size := World.block_lt_of_cell? _ _ hg
  refine ⟨hK.below hb, (hb.cell hlt).trans hg, by omega, fun b off h => ?_⟩
  subst h
  have h0 := hK.at_ 0 hn 0
  have hl := hK.len32 hn
  have hs : (keyL (kOf K 0)).length = 34 := keyL_length hl
  obtain ⟨v, hv⟩ : ∃ v, (keyL (kOf K 0))[0]? = some v := ⟨_, List.getElem?_eq_getElem (by omega)⟩
  have h3 : b < w.heap.size := World.block_lt_of_cell? _ _ (h0 v hv)
  omega

set_option maxRecDepth 100000 in
set_option maxHeartbeats 4000000 in
theorem sortedN_any (a : Option Addr) (n c g ck : Nat) (ak : Option Addr) (K : List KeyV) (w : World) (hb : At1 N w a n c (List.range n)) (hl : n ≤ 1000000000) (hK : KeysAt w ak n ck K) (hg : w.cell? ⟨g, 0, none⟩ = some (.slice ak n ck)) :
    Calls Try.prog 42 #[.slice a n c, clV g] w fun e w' => ∃ a1 c1 L, e = .returned (.slice a1 n c1) ∧ Own1 N 3 w' w.heap.size (.slice a1 n c1) L ∧ L.Perm (List.range n) ∧ UpG (plB K) L ∧ Below w.heap.size w w' := by
  have HCL := Lib.hid (cloneN_any a n c (List.range n) w hb hl)
  have hnI : (n : Int) ≤ 1000000000 := by omega
  have hn0 : (0 : Int) ≤ (n : Int) := by omega
  have HNB := Lib.hid hl
  have HKK := Lib.hid hK
  have HGG := Lib.hid hg
  clear hb hl hK hg
  unfold clV
  go_enter Try.func42, Try.ntmps42
  go_wp2_with (first
    | (at_make; go_must (refine make1 N (z0 := 0) Try.underlying27 infoN rfl rfl _ _ rfl n rfl rfl HNB.out (by omega) ?_); intro w2 hz hgz)
    | (go_at_call 46; go_must (refine HCL.out.mono ?_); rintro e w1 ⟨a1, c1, rfl, hown, hb1⟩))
  have hbw : Below w.heap.size w w2 := hb1.grown hgz hb1.size (fun k hk => by cases hk)
  have H2 := Lib.hid (show TwoN w.heap.size n w2 a1 (some ⟨w1.heap.size, 0, none⟩) c1 n (List.range n) (List.replicate n 0) from ⟨hown.kept hgz (Classical.em _), hz.mono hb1.size, fun hp => by
    obtain ⟨gl, rfl, hgb, hgs, _⟩ := hown.row hp
    intro h
    simp only [Option.some.injEq, Addr.mk.injEq, and_true] at h
    omega⟩)
  have HP := Lib.hid (show (List.range n).Perm (List.range n) ∧ RunsG (plB K) 1 (List.range n) ∧ SegP 1 (List.range n) (List.range n) from ⟨List.Perm.refl _, runsG_one _, segP_one _ _⟩)
  clear hown hz hgz hb1
  go_loopg [0, 5, 6] (n - 1) (fun g' v0 v5 v6 W => ∃ (q : Nat) (aL aR : Option Addr) (cL cR : Nat) (L R : List Nat), v0 = .slice aL n cL ∧ v5 = .slice aR n cR ∧ v6 = .int .i64 q ∧ g' = n - q ∧ 1 ≤ q ∧ (q : Int) ≤ 2000000000 ∧ Below w.heap.size w W ∧ Hid (TwoN w.heap.size n W aL aR cL cR L R) ∧ Hid (L.Perm (List.range n) ∧ RunsG (plB K) q L ∧ SegP q L (List.range n)))
  case atStart => exact ⟨1, a1, _, c1, n, _, _, rfl, rfl, rfl, rfl, Nat.le_refl _, by omega, hbw, H2, HP⟩
  case round =>
    clear H2 HP hbw
    obtain ⟨q, aL, aR, cL, cR, L, R, rfl, rfl, rfl, hg, hq1, hq2, hbw, H2, HP⟩ := hrel
    have HG := Lib.hid hg
    have HQ1 := Lib.hid hq1
    have hq0 : (0 : Int) ≤ (q : Int) := by omega
    by_cases hqn : (q : Int) < (n : Int)
    · have hn1 : 0 < n := by omega
      obtain ⟨gl, rfl, hbl, _⟩ := H2.out.1.row hn1
      obtain ⟨gr, rfl, hbr, _⟩ := H2.out.2.1.row hn1
      have HNE := Lib.hid (show gl ≠ gr from fun h => H2.out.2.2 hn1 (by rw [h]))
      have HBL := Lib.hid hbl
      have HBR := Lib.hid hbr
      have HCB := Lib.hid (show (n ≤ cL ∧ cL ≤ 9223372036854775807) ∧ (n ≤ cR ∧ cR ≤ 9223372036854775807) from ⟨⟨H2.out.1.at1.2.1, H2.out.1.at1.2.2.1⟩, ⟨H2.out.2.1.at1.2.1, H2.out.2.1.at1.2.2.1⟩⟩)
      have HLN := Lib.hid (show L.length = n from H2.out.1.len)
      have HRN := Lib.hid (show R.length = n from H2.out.2.1.len)
      have HL0 := Lib.hid H2.out.1
      have HR0 := Lib.hid H2.out.2.1
      have HPS := Lib.hid (And.intro (passG_zero (le := plB K) q (L := L) (R := R) (by rw [HRN.out, HLN.out])) (segT_zero q (List.range n) R))
      have HQN := Lib.hid (show q < n by omega)
      clear hg hq1 hbl hbr H2
      go_wp2
      go_loopg [7] n (fun g' v7 W => ∃ (t f : Nat) (R' : List Nat), v7 = .int .i64 f ∧ g' = n - f ∧ Hid (f = t * (2 * q)) ∧ (f : Int) ≤ 6000000000 ∧ Hid (Below w.heap.size w W) ∧ Hid (Own1 N 3 W w.heap.size (.slice (some ⟨gl, 0, none⟩) n cL) L) ∧ Hid (Own1 N 3 W w.heap.size (.slice (some ⟨gr, 0, none⟩) n cR) R') ∧ Hid (PassG (plB K) q t L R' ∧ SegT q t (List.range n) R'))
      case atStart => exact ⟨0, 0, R, rfl, by omega, Lib.hid (by omega), by omega, Lib.hid hbw, HL0, HR0, HPS⟩
      case round =>
        clear HL0 HR0 HPS
        obtain ⟨t, f, R', rfl, hg, hft, hfI, hbw', hL, hR, hps⟩ := hrel
        have HG2 := Lib.hid hg
        have hf0 : (0 : Int) ≤ (f : Int) := by omega
        by_cases hfn : (f : Int) < (n : Int)
        · obtain ⟨mid, hmid⟩ : ∃ mid, (f + q ≤ n ∧ mid = f + q) ∨ (n < f + q ∧ mid = n) := by by_cases h : f + q ≤ n; exact ⟨_, .inl ⟨h, rfl⟩⟩; exact ⟨_, .inr ⟨by omega, rfl⟩⟩
          obtain ⟨en, hen⟩ : ∃ en, (f + 2 * q ≤ n ∧ en = f + 2 * q) ∨ (n < f + 2 * q ∧ en = n) := by by_cases h : f + 2 * q ≤ n; exact ⟨_, .inl ⟨h, rfl⟩⟩; exact ⟨_, .inr ⟨by omega, rfl⟩⟩
          have HM := Lib.hid hmid
          have HE := Lib.hid hen
          have hm1 : (f : Int) < (mid : Int) := by have := HQ1.out; omega
          have hm2 : (mid : Int) ≤ (en : Int) := by omega
          have hm3 : (en : Int) ≤ (n : Int) := by omega
          have HMZ := Lib.hid (show (mid : Int) = if (n : Int) < (f : Int) + (q : Int) then (n : Int) else (f : Int) + (q : Int) by split <;> omega)
          have HEZ := Lib.hid (show (en : Int) = if (n : Int) < (f : Int) + 2 * (q : Int) then (n : Int) else (f : Int) + 2 * (q : Int) by split <;> omega)
          clear hmid hen hg
          go_wp2_with (first
            | (refine wl_minI rfl _ _ _ rfl ((f : Int) + (q : Int)) (n : Int) (mid : Int) rfl rfl HMZ.out ?_)
            | (refine wl_minI rfl _ _ _ rfl ((f : Int) + 2 * (q : Int)) (n : Int) (en : Int) rfl rfl HEZ.out ?_))
          have hwd := Lib.hid (show Below w.heap.size w wr.drew from below_drewK hbw'.out 1)
          have HLd := Lib.hid (show Own1 N 3 wr.drew w.heap.size (.slice (some ⟨gl, 0, none⟩) n cL) L from hL.out)
          have HRd := Lib.hid (show Own1 N 3 wr.drew w.heap.size (.slice (some ⟨gr, 0, none⟩) n cR) R' from hR.out)
          have s1 : en ≤ cR := by have := HCB.out.2.1; omega
          have s2 : en ≤ cL := by have := HCB.out.1.1; omega
          have s3 : mid ≤ cL := by omega
          have s4 : f ≤ en := by omega
          have s5 : f ≤ mid := by omega
          have s6 : mid ≤ en := by omega
          have s7 : (cR = f) = False := eq_false (by omega)
          have s8 : (cL = f) = False := eq_false (by omega)
          have HFN := Lib.hid (show f < n by omega)
          have HS := Lib.hid (show Calls Try.prog 47 #[.slice (some ⟨gr, f, none⟩) (en - f) (cR - f), .slice (some ⟨gl, f, none⟩) (mid - f) (cL - f), .slice (if cL = mid then some ⟨gl, 0, none⟩ else some ⟨gl, mid, none⟩) (en - mid) (cL - mid), clV g] wr.drew
            fun e w' => e = .returned (.tuple #[]) ∧ wr.drew.grownBy w' (some gr) ∧ Own1 N 3 w' w.heap.size (.slice (some ⟨gr, 0, none⟩) n cR) (R'.take f ++ (twoG (plB K) q f L ++ R'.drop (f + (twoG (plB K) q f L).length))) from
            mergeN_runs (n := n) HLd.out HRd.out HNE.out HNB.out hft.out HP.out.2.2 (ctx_of HKK.out HGG.out hwd.out HBR.out (by have := HFN.out; omega)) HM.out HE.out HFN.out)
          by_cases hcm : cL = mid
          · subst hcm
            rw [if_pos rfl, Nat.sub_self, show en - cL = 0 by omega] at HS
            refine wp_region_still_tail 13 (by kernel_rfl) (by kernel_rfl) ?_
            simp only [List.take_succ_cons, List.take_zero, List.drop_succ_cons, List.drop_zero]
            still_step
            still_step
            still_step
            still_step
            still_step
            still_step
            still_step
            still_step
            still_step
            still_step
            still_step
            still_step
            still_step
            refine wpStill_nil ?_
            change wpList _ _ _ _ _ wr.drew
            generalize wr.drew = wq at hwd HLd HRd HS ⊢
            unfold clV at HS
            go_wp2_with (go_at_call 47; go_must (refine HS.out.mono ?_); rintro e wm ⟨rfl, hkm, hrm⟩)
            have HP2 := Lib.hid (show PassG (plB K) q (t + 1) L (R'.take f ++ (twoG (plB K) q f L ++ R'.drop (f + (twoG (plB K) q f L).length))) ∧ SegT q (t + 1) (List.range n) (R'.take f ++ (twoG (plB K) q f L ++ R'.drop (f + (twoG (plB K) q f L).length))) by
              have hlt : t * (2 * q) < L.length := by rw [← hft.out, HLN.out]; exact HFN.out
              have h := passG_step (plB_trans K) (plB_total K) HP.out.2.1 hps.out.1 hlt
              have h2 := segT_step (le := plB K) HP.out.2.2 hps.out.1.1 hps.out.2 hlt
              rw [← hft.out] at h h2
              exact ⟨h, h2⟩)
            go_roundg (n - (f + 2 * q))
            case measure => have := HQ1.out; have := HFN.out; have := HG2.out; omega
            case rel => exact ⟨t + 1, f + 2 * q, _, by go_num, rfl, Lib.hid (by rw [Nat.add_mul, Nat.one_mul, ← hft.out]), by omega, Lib.hid (hwd.out.grown hkm (by have := hwd.out.size; exact this) (fun k hk => by cases hk; exact HBR.out)), Lib.hid (HLd.out.kept hkm (.inr (fun h => HNE.out (by simpa [Value.ownBlock] using h)))), Lib.hid hrm, HP2⟩
          · have s9 : (cL = mid) = False := eq_false hcm
            rw [if_neg hcm] at HS
            clear hcm
            refine wp_region_still_tail 13 (by kernel_rfl) (by kernel_rfl) ?_
            simp only [List.take_succ_cons, List.take_zero, List.drop_succ_cons, List.drop_zero]
            still_step
            still_step
            still_step
            still_step
            still_step
            still_step
            still_step
            still_step
            still_step
            still_step
            still_step
            still_step
            still_step
            refine wpStill_nil ?_
            change wpList _ _ _ _ _ wr.drew
            generalize wr.drew = wq at hwd HLd HRd HS ⊢
            unfold clV at HS
            go_wp2_with (go_at_call 47; go_must (refine HS.out.mono ?_); rintro e wm ⟨rfl, hkm, hrm⟩)
            have HP2 := Lib.hid (show PassG (plB K) q (t + 1) L (R'.take f ++ (twoG (plB K) q f L ++ R'.drop (f + (twoG (plB K) q f L).length))) ∧ SegT q (t + 1) (List.range n) (R'.take f ++ (twoG (plB K) q f L ++ R'.drop (f + (twoG (plB K) q f L).length))) by
              have hlt : t * (2 * q) < L.length := by rw [← hft.out, HLN.out]; exact HFN.out
              have h := passG_step (plB_trans K) (plB_total K) HP.out.2.1 hps.out.1 hlt
              have h2 := segT_step (le := plB K) HP.out.2.2 hps.out.1.1 hps.out.2 hlt
              rw [← hft.out] at h h2
              exact ⟨h, h2⟩)
            go_roundg (n - (f + 2 * q))
            case measure => have := HQ1.out; have := HFN.out; have := HG2.out; omega
            case rel => exact ⟨t + 1, f + 2 * q, _, by go_num, rfl, Lib.hid (by rw [Nat.add_mul, Nat.one_mul, ← hft.out]), by omega, Lib.hid (hwd.out.grown hkm (by have := hwd.out.size; exact this) (fun k hk => by cases hk; exact HBR.out)), Lib.hid (HLd.out.kept hkm (.inr (fun h => HNE.out (by simpa [Value.ownBlock] using h)))), Lib.hid hrm, HP2⟩
        · have HFN := Lib.hid (show n ≤ f by omega)
          clear hg
          go_wp2
          have hle : L.length ≤ t * (2 * q) := by rw [← hft.out, HLN.out]; exact HFN.out
          have HE2 := Lib.hid (passG_end hps.out.1 hle)
          have HE3 := Lib.hid (segT_end (l := List.range n) (by rw [hps.out.1.1, HLN.out]; simp) hps.out.2 (by rw [← hft.out]; simpa using HFN.out))
          clear hle
          go_roundg (n - 2 * q)
          case measure => have := HQ1.out; have := HQN.out; have := HG.out; omega
          case rel => exact ⟨2 * q, _, _, cR, cL, R', L, rfl, rfl, by go_num, rfl, by have := HQ1.out; omega, by omega, hbw'.out, Lib.hid ⟨hR.out, hL.out, fun _ h => HNE.out (by simpa using h.symm)⟩, Lib.hid ⟨HE2.out.2.1.trans HP.out.1, HE2.out.2.2, HE3.out⟩⟩
    · have HQN := Lib.hid (show n ≤ q by omega)
      have HLS := Lib.hid (show UpG (plB K) L from runsG_all HP.out.2.1 (by rw [H2.out.1.len]; exact HQN.out))
      clear hg hq1
      go_wp2
      go_ret
      exact ⟨_, _, rfl, L, H2.out.1, HP.out.1, HLS.out, hbw⟩
#print axioms sortedN_any
end Go.Proofs.Ytmenhbdapikpeaa
