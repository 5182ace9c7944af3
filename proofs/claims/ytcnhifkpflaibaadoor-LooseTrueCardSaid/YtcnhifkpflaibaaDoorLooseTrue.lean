/-
  The walk of LooseTrue.
-/
import Derived.Test.YtcnhifkpflaibaaDoorLooseDigits
namespace Go.Proofs.YtcnhifkpflaibaaDoor
open Go.RowKit Go.Maps

theorem exec_neqSelf {w : World} {o : Oper} {a : Act} (x y : Operand) (r : TypeId) (ho : o.op = .binOp .neq 35 x y r) (l : List UInt8) (hl : l.length = 32) (hx : a.eval x = .agg (idCells l)) (hy : a.eval y = .agg (idCells l)) :
    (execOp a.eval o).run Tryd.prog w = .ok (.value (.bool false)) w := by
  have h := exec_neqId (w := w) x y r ho l l hl hl hx hy
  rwa [decide_eq_true rfl] at h
theorem chg_cellX {X : Nat → Prop} {w W : World} {g o : Nat} {v : Value} (h : Chg X w W) (hc : w.cell? ⟨g, o, none⟩ = some v) (hX : ¬ X g) : W.cell? ⟨g, o, none⟩ = some v := by
  have hl := World.block_lt_of_cell? _ _ hc
  have e := h.block g hl hX
  simp only [World.cell?] at hc ⊢
  rw [e]; exact hc
set_option maxRecDepth 100000 in
set_option maxHeartbeats 8000000 in
theorem looseTrue_any (a : Option Addr) (n c : Nat) (L : List LActV) (w : World) (hA : LActsAt w a n c L) (hT : Tables w) :
    Calls Tryd.prog 4 #[.slice a n c] w fun e w' => e = .returned (.bool true) ∧ Below w.heap.size w w' := by
  have hn := hA.le
  have hc := hA.most
  have HA := Lib.hid hA
  by_cases hQ : ¬ LLight n 40 L
  · have P := Lib.hid (light_no 40 40 rfl (by omega) hA hQ)
    clear hA hT hQ
    go_enter Tryd.func4, Tryd.ntmps4
    go_wp2_with (go_at_call 6; (with_reducible refine P.out.mono ?_); rintro e w1 ⟨rfl, rfl⟩)
    go_ret
    exact ⟨rfl, Below.refl _ _⟩
  have hQ := Classical.not_not.1 hQ
  have P := Lib.hid (light_yes 40 40 rfl (by omega) hA hQ)
  have HN := Lib.hid hQ
  have HT := Lib.hid hT
  have AW := Lib.hid (fun W (h : Below w.heap.size w W) => awake_any9 W (hT.below h))
  have N1 := Lib.hid (aw_new (Below.refl w.heap.size w) 1048576 1048576 rfl (by omega))
  have hnI : (n : Int) ≤ 40 := by have := HN.out.1; omega
  clear hA hT hQ hn hc
  go_enter Tryd.func4, Tryd.ntmps4
  go_wp2_with (first
    | (go_at_call 6; (with_reducible refine P.out.mono ?_); rintro e w1 ⟨rfl, rfl⟩)
    | (go_at_call 7; (with_reducible refine N1.out.mono ?_); rintro e W1 ⟨db, rfl, F, hr⟩; have R1 := Lib.hid hr; clear hr))
  go_loopg [4] n (fun g v4 W => ∃ i : Nat, ∃ S F, Run w W F db S ∧ Few S (3 * i) ∧ v4 = .int .i64 i ∧ g + i = n)
  case atStart => exact ⟨0, _, _, R1.out, few_new _, rfl, rfl⟩
  case round =>
    obtain ⟨i, S, F3, hR, hF, rfl, hg⟩ := hrel
    have HG := Lib.hid hg
    have HR := Lib.hid hR
    have HFW := Lib.hid hF
    have hi0 : (0 : Int) ≤ (i : Int) := by omega
    have hiI : (i : Int) ≤ (n : Int) := by omega
    by_cases hi : (i : Int) < (n : Int)
    · have hin : i < n := by omega
      have HI := Lib.hid hin
      obtain ⟨b, o, rfl⟩ := HA.out.some_ (by omega)
      have hX := HA.out.below hR.2.2
      have k0 := hX.cell i hin (i := 0) (v := .int .i64 (L.getD i default).z) rfl
      have k1 := hX.cell i hin (i := 1) (v := .slice (L.getD i default).a (L.getD i default).m (L.getD i default).c) rfl
      have k2 := hX.cell i hin (i := 2) (v := .slice (L.getD i default).a2 (L.getD i default).m2 (L.getD i default).c2) rfl
      have k3 := hX.cell i hin (i := 3) (v := .int .i64 (L.getD i default).n) rfl
      have k4 := hX.cell i hin (i := 4) (v := .slice (L.getD i default).a5 (L.getD i default).m5 (L.getD i default).c5) rfl
      rw [Nat.add_zero] at k0
      have hx2 := HN.out.2 i hin
      have HXI := Lib.hid (HA.out.each i hin)
      have D := Lib.hid (did_any (L.getD i default) hR HT.out (HA.out.each i hin) hx2.1 hF (by have := HN.out.1; omega))
      have HFD := Lib.hid (few_did hR.1.1 hF (L.getD i default))
      have hbF : ¬ F3 b := fun h => by
        have h1 := hR.2.1 b h
        have h2 := World.block_lt_of_cell? _ _ (HA.out.cell i hin (i := 1) (v := .slice (L.getD i default).a (L.getD i default).m (L.getD i default).c) rfl)
        have h3 : b < w.heap.size := h2
        omega
      generalize (L.getD i default) = x at k0 k1 k2 k3 k4 D HFD hx2 HXI
      by_cases h3 : (wrap64 (x.z.tmod 6 + 6)).tmod 6 = 3
      · have d3 : ((wrap64 (x.z.tmod 6 + 6)).tmod 6 == 3) = true := beq_iff_eq.2 h3
        obtain ⟨xz, xa, xm, xc, xb, xa2, xm2, xc2, xo, xn, xa5, xm5, xc5, xf⟩ := x
        simp only at k0 k1 k2 k3 k4 d3 hx2
        have SB := Lib.hid (fun (W' : World) (hb' : Below w.heap.size w W') a n c (h : Bytes W' a n c xb) => sum_box h (HT.out.below hb') (by omega) (id := sumF xb) rfl)
        obtain ⟨r, hr⟩ : ∃ r, appendS S (fileN (sumF xb)) xo = r := ⟨_, rfl⟩
        have HFR := Lib.hid (show Few r.1 (3 * i + 3) from by have := few_append hF (fileN (sumF xb)) xo; rw [hr] at this; exact this.mono (by omega))
        obtain ⟨S4, ze⟩ := r
        have hnm : ((⟨#[111, 45]⟩ : ByteArray) ++ strB (hexF (sumF xb))).data.toList = fileN (sumF xb) := by simp [strB, fileN]
        have AP := Lib.hid (fun W' F' (R' : Run w W' F' db S) => lo_app R' hF (by have := HN.out.1; omega) ((⟨#[111, 45]⟩ : ByteArray) ++ strB (hexF (sumF xb))) (Safe.old R' HXI.out.other) (r := (S4, ze)) (by rw [hnm]; exact hr))
        have HC1 := Lib.hid (fun W (hW : Chg F3 wr W) => chg_cellX hW k1 hbF)
        have HC2 := Lib.hid (fun W (hW : Chg F3 wr W) => chg_cellX hW k2 hbF)
        have HZZ := Lib.hid (show (strB (hexF (sumF xb))).size = 64 by rw [strB_size, hexF_length, sumF_length])
        clear hR hF hg hX hin hx2 h3 hr hbF hnm
        go_wp2
        refine wp_region_held_drew (S := fun W => Chg F3 wr W) (by kernel_rfl) Chg.refl.drew (fun hHeld => ?_)
        refine wpAnyH_take (i := 0) (oi := ⟨some 28, .move (.tmp 3), _, _, _, _⟩) (v := (Pt db)) rfl (by kernel_rfl) (by kernel_rfl) (by kernel_rfl) (fun _ _ _ h => h) (Or.inl ⟨by rfl, fun W hW => by go_simp⟩) (by assumption) ?_
        simp only [Act.put, List.setIfInBounds_toArray, List.set_cons_zero, List.set_cons_succ]
        refine wpAnyH_take (i := 1) (oi := ⟨some 29, .move (.tmp 0), _, _, _, _⟩) (v := (.slice (some ⟨b, o, none⟩) n c)) rfl (by kernel_rfl) (by kernel_rfl) (by kernel_rfl) (fun _ _ _ h => h) (Or.inl ⟨by rfl, fun W hW => by go_simp⟩) (by assumption) ?_
        simp only [Act.put, List.setIfInBounds_toArray, List.set_cons_zero, List.set_cons_succ]
        refine wpAnyH_take (i := 2) (oi := ⟨some 30, .move (.tmp 4), _, _, _, _⟩) (v := (.int .i64 (i : Nat))) rfl (by kernel_rfl) (by kernel_rfl) (by kernel_rfl) (fun _ _ _ h => h) (Or.inl ⟨by rfl, fun W hW => by go_simp⟩) (by assumption) ?_
        simp only [Act.put, List.setIfInBounds_toArray, List.set_cons_zero, List.set_cons_succ]
        refine wpAnyH_take (i := 3) (oi := ⟨some 31, .indexAddr 22 (.tmp 29) (.tmp 30), _, _, _, _⟩) (v := (.pointer (some ⟨b, o + i * 5, none⟩))) rfl (by kernel_rfl) (by kernel_rfl) (by kernel_rfl) (fun _ _ _ h => h) (Or.inl ⟨by rfl, fun W hW => by go_simp⟩) (by assumption) ?_
        simp only [Act.put, List.setIfInBounds_toArray, List.set_cons_zero, List.set_cons_succ]
        refine wpAnyH_take (i := 4) (oi := ⟨some 32, .fieldAddr 30 (.tmp 31) 1, _, _, _, _⟩) (v := (.pointer (some ⟨b, o + i * 5 + 1, none⟩))) rfl (by kernel_rfl) (by kernel_rfl) (by kernel_rfl) (fun _ _ _ h => h) (Or.inl ⟨by rfl, fun W hW => by go_simp⟩) (by assumption) ?_
        simp only [Act.put, List.setIfInBounds_toArray, List.set_cons_zero, List.set_cons_succ]
        refine wpAnyH_take (i := 5) (oi := ⟨some 33, .load 23 (.tmp 32), _, _, _, _⟩) (v := (.slice xa xm xc)) rfl (by kernel_rfl) (by kernel_rfl) (by kernel_rfl) (fun _ _ _ h => h) (Or.inl ⟨by rfl, fun W hW => by have hcell := HC1.out W hW; go_simp⟩) (by assumption) ?_
        simp only [Act.put, List.setIfInBounds_toArray, List.set_cons_zero, List.set_cons_succ]
        refine wpAnyH_take (i := 10) (oi := ⟨some 38, .move (.tmp 0), _, _, _, _⟩) (v := (.slice (some ⟨b, o, none⟩) n c)) rfl (by kernel_rfl) (by kernel_rfl) (by kernel_rfl) (fun _ _ _ h => h) (Or.inl ⟨by rfl, fun W hW => by go_simp⟩) (by assumption) ?_
        simp only [Act.put, List.setIfInBounds_toArray, List.set_cons_zero, List.set_cons_succ]
        refine wpAnyH_take (i := 11) (oi := ⟨some 39, .move (.tmp 4), _, _, _, _⟩) (v := (.int .i64 (i : Nat))) rfl (by kernel_rfl) (by kernel_rfl) (by kernel_rfl) (fun _ _ _ h => h) (Or.inl ⟨by rfl, fun W hW => by go_simp⟩) (by assumption) ?_
        simp only [Act.put, List.setIfInBounds_toArray, List.set_cons_zero, List.set_cons_succ]
        refine wpAnyH_take (i := 12) (oi := ⟨some 40, .indexAddr 22 (.tmp 38) (.tmp 39), _, _, _, _⟩) (v := (.pointer (some ⟨b, o + i * 5, none⟩))) rfl (by kernel_rfl) (by kernel_rfl) (by kernel_rfl) (fun _ _ _ h => h) (Or.inl ⟨by rfl, fun W hW => by go_simp⟩) (by assumption) ?_
        simp only [Act.put, List.setIfInBounds_toArray, List.set_cons_zero, List.set_cons_succ]
        refine wpAnyH_take (i := 13) (oi := ⟨some 41, .fieldAddr 30 (.tmp 40) 2, _, _, _, _⟩) (v := (.pointer (some ⟨b, o + i * 5 + 2, none⟩))) rfl (by kernel_rfl) (by kernel_rfl) (by kernel_rfl) (fun _ _ _ h => h) (Or.inl ⟨by rfl, fun W hW => by go_simp⟩) (by assumption) ?_
        simp only [Act.put, List.setIfInBounds_toArray, List.set_cons_zero, List.set_cons_succ]
        refine wpAnyH_take (i := 14) (oi := ⟨some 42, .load 23 (.tmp 41), _, _, _, _⟩) (v := (.slice xa2 xm2 xc2)) rfl (by kernel_rfl) (by kernel_rfl) (by kernel_rfl) (fun _ _ _ h => h) (Or.inl ⟨by rfl, fun W hW => by have hcell := HC2.out W hW; go_simp⟩) (by assumption) ?_
        simp only [Act.put, List.setIfInBounds_toArray, List.set_cons_zero, List.set_cons_succ]
        refine wpAnyH_ready (rs := [6]) (by kernel_rfl) (by simp) ?_
        refine AllReadyH.cons (o := ⟨some 34, .buildSlice 65 1 #[(0, (.tmp 33))], _, _, _, _⟩) rfl (fun K hK => ?_) AllReadyH.nil
        go_simp
        have HB1 := Lib.hid ((Below.refl wr.heap.size wr).drew.alloc (Nat.le_refl _) (.cells #[.slice xa xm xc] 23))
        refine hK.out _ _ (Chg.of_below HB1.out) (fun hHeld => ?_)
        clear hK K
        refine wpAnyH_ready (rs := [7]) (by kernel_rfl) (by simp) ?_
        refine AllReadyH.cons (o := ⟨some 35, .call { callee := .value (.func 13), args := #[(.tmp 34)], argTypes := #[65] }, _, _, _, _⟩) rfl (fun K hK => ?_) AllReadyH.nil
        go_simp
        go_wp2_with (go_at_call 13; (refine (SB.out wr.drew HR.out.2.2.drew xa xm xc (HXI.out.bytes.below HR.out.2.2.drew)).mono ?_); rintro e w2 ⟨rfl, hb2⟩; have HB2 : Hid (Below wr.heap.size wr w2) := Lib.hid ((Below.refl wr.heap.size wr).drew.trans hb2); clear hb2)
        refine hK.out _ _ (Chg.of_below HB2.out) (fun hHeld => ?_)
        clear hK K
        refine wpAnyH_ready (rs := [8]) (by kernel_rfl) (by simp) ?_
        refine AllReadyH.cons (o := ⟨some 36, .call { callee := .value (.func 17), args := #[(.tmp 35)], argTypes := #[35] }, _, _, _, _⟩) rfl (fun K hK => ?_) AllReadyH.nil
        go_simp
        go_wp2_with (go_at_call 17; (refine (digits_any (sumF xb) (sumF_length xb) w2).mono ?_); rintro e w3 ⟨rfl, hb3⟩; have HB3 : Hid (Below wr.heap.size wr w3) := Lib.hid (HB2.out.trans (hb3.mono HB2.out.size)); clear hb3)
        refine hK.out _ _ (Chg.of_below HB3.out) (fun hHeld => ?_)
        clear hK K
        refine wpAnyH_take (i := 9) (oi := ⟨some 37, .binOp .add 9 (.const (.string ⟨#[111, 45]⟩)) (.tmp 36) 9, _, _, _, _⟩) (v := (.string ((⟨#[111, 45]⟩ : ByteArray) ++ strB (hexF (sumF xb))))) rfl (by kernel_rfl) (by kernel_rfl) (by kernel_rfl) (fun _ _ _ h => h) (Or.inl ⟨by rfl, fun W hW => by have hz := HZZ.out; go_simp⟩) (by assumption) ?_
        simp only [Act.put, List.setIfInBounds_toArray, List.set_cons_zero, List.set_cons_succ]
        refine wpAnyH_ready (rs := [15]) (by kernel_rfl) (by simp) ?_
        refine AllReadyH.cons (o := ⟨some 43, .call { callee := .value (.func 16), args := #[(.tmp 28), (.tmp 37), (.tmp 42)], argTypes := #[26, 9, 23] }, _, _, _, _⟩) rfl (fun K hK => ?_) AllReadyH.nil
        go_simp
        go_wp2_with (go_at_call 16; (refine (AP.out w3 F3 (HR.out.below HB3.out)).mono ?_); rintro e w4 ⟨rfl, F4, hr4, hs4⟩; have R4 := Lib.hid hr4; have HC4 := Lib.hid (((Chg.of_below HB3.out).trans hs4.chg : Chg F3 wr w4)); clear hr4 hs4)
        refine hK.out _ _ HC4.out (fun hHeld => ?_)
        clear hK K
        refine wpAnyH_done (by kernel_rfl) ?_ _
        go_wp2
        go_roundg (gk - 1)
        case measure => have := HG.out; omega
        case rel => exact ⟨i + 1, S4, F4, R4.out, HFR.out.mono (by omega), by go_num, by have := HG.out; omega⟩
      · have d3 : ((wrap64 (x.z.tmod 6 + 6)).tmod 6 == 3) = false := beq_eq_false_iff_ne.2 h3
        clear hR hF hg hX hin hx2 h3 hbF
        go_wp2_with (go_at_call 8; (with_reducible refine D.out.mono ?_); rintro e w5 ⟨rfl, F5, hr5⟩)
        go_roundg (gk - 1)
        case measure => have := HG.out; omega
        case rel => exact ⟨i + 1, _, F5, hr5, HFD.out.mono (by omega), by go_num, by have := HG.out; omega⟩
    · obtain ⟨M, hM⟩ : ∃ M, listL sumF S = M := ⟨_, rfl⟩
      have HK := Lib.hid (show 3 * i ≤ 120 by have := HN.out.1; omega)
      have LI := Lib.hid (listAll_any hR HT.out hF (by have := HK.out; omega) hM)
      have HM := Lib.hid (fun x (hx : x ∈ M) => list_mem (H := sumF) (S := S) (id := x) (by rw [hM]; exact hx))
      clear hg hR hF hM
      go_wp2_with (go_at_call 18; (with_reducible refine LI.out.mono ?_); rintro e w7 ⟨ai, ci, rfl, hi7, hr7, hb7⟩; have HI7 := Lib.hid hi7; have R7 := Lib.hid hr7; clear hi7 hr7 hb7)
      have hmI : (M.length : Int) ≤ 9223372036854775807 := by have := HI7.out.2.1; have := HI7.out.2.2.1; omega
      go_loopg [6] M.length (fun g v6 W => ∃ i : Nat, Below w7.heap.size w7 W ∧ v6 = .int .i64 i ∧ g + i = M.length)
      case atStart => exact ⟨0, Below.refl _ _, rfl, rfl⟩
      case round =>
        obtain ⟨i, hbw, rfl, hg⟩ := hrel
        have HG := Lib.hid hg
        have HB := Lib.hid hbw
        have hi0 : (0 : Int) ≤ (i : Int) := by omega
        have hiI : (i : Int) ≤ (M.length : Int) := by omega
        by_cases hi : (i : Int) < (M.length : Int)
        · have hin : i < M.length := by omega
          obtain ⟨gi, po, rfl⟩ := HI7.out.some_ (by omega)
          obtain ⟨id, hid⟩ : ∃ id, M.getD i [] = id := ⟨_, rfl⟩
          have hmem : id ∈ M := by rw [← hid]; simp [List.getD, hin]
          obtain ⟨hl, hz⟩ := HM.out id hmem
          have HIL := Lib.hid hl
          have hca := (HI7.out.below hbw).at_ i hin
          rw [hid] at hca
          have HCA := Lib.hid hca
          have HRW := Lib.hid (R7.out.below hbw)
          obtain ⟨gb, hgb⟩ : ∃ gb, (getL sumF S id).1 = gb := ⟨_, rfl⟩
          have hgl : getL sumF S id = (gb, 0) := Prod.ext hgb hz
          have hsm : sumF gb = id := hgb ▸ get_ok hz
          have hle : gb.length ≤ 1073741824 := by
            have h1 := read_le HRW.out.1.1 (fileN id)
            have h2 := HRW.out.1.1.most
            have h3 : (getL sumF S id).1.length ≤ (readS S (fileN id)).1.length := by
              unfold getL
              repeat' split
              all_goals simp
            rw [hgb] at h3
            omega
          have GT := Lib.hid (get_any id hl HRW.out HT.out hgl)
          have SG := Lib.hid (fun (W' : World) (hb' : Below w.heap.size w W') a n c (h : Bytes W' a n c gb) => sum_box h (HT.out.below hb') (by omega) hsm)
          have HS := Lib.hid (fun W' (R' : Run w W' F3 db S) => has_any id hl R' HT.out (q := true) (by rw [hz]; rfl))
          clear hg hbw hid hmem hl hz hca hgb hgl hsm hle
          go_wp2_with (first
            | ((with_reducible show wpList _ _ _ (⟨some 63, _, _, _, _, _⟩ :: _) _ _); refine wl_load (by rfl) _ rfl gi (po + i * 32) id HIL.out rfl HCA.out ?_)
            | (go_at_call 14; (with_reducible refine GT.out.mono ?_); rintro e w8 ⟨a8, n8, c8, rfl, hsf8, hr8, hb8⟩; have R8 := Lib.hid hr8; have HSF8 := Lib.hid hsf8; have HB8 := Lib.hid (HB.out.trans (hb8.mono HB.out.size)); have HCA8 := Lib.hid (rangeAt_below HCA.out hb8); clear hsf8 hr8 hb8))
          refine wp_region_held_drew (S := fun W => Below w8.heap.size w8 W) (by kernel_rfl) (Below.refl _ _).drew (fun hHeld => ?_)
          refine wpAnyH_take (i := 0) (oi := ⟨some 67, .move (.tmp 8), _, _, _, _⟩) (v := (.int .i64 0)) rfl (by kernel_rfl) (by kernel_rfl) (by kernel_rfl) (fun _ _ _ h => h) (Or.inl ⟨by rfl, fun W hW => by go_simp⟩) (by assumption) ?_
          simp only [Act.put, List.setIfInBounds_toArray, List.set_cons_zero, List.set_cons_succ]
          refine wpAnyH_take (i := 1) (oi := ⟨some 68, .binOp .neq 36 (.tmp 67) (.const (.int .i64 0)) 36, _, _, _, _⟩) (v := (.bool false)) rfl (by kernel_rfl) (by kernel_rfl) (by kernel_rfl) (fun _ _ _ h => h) (Or.inl ⟨by rfl, fun W hW => by go_simp⟩) (by assumption) ?_
          simp only [Act.put, List.setIfInBounds_toArray, List.set_cons_zero, List.set_cons_succ]
          refine wpAnyH_take (i := 2) (oi := ⟨some 69, .move (.tmp 68), _, _, _, _⟩) (v := (.bool false)) rfl (by kernel_rfl) (by kernel_rfl) (by kernel_rfl) (fun _ _ _ h => h) (Or.inl ⟨by rfl, fun W hW => by go_simp⟩) (by assumption) ?_
          simp only [Act.put, List.setIfInBounds_toArray, List.set_cons_zero, List.set_cons_succ]
          refine wpAnyH_take (i := 3) (oi := ⟨some 70, .move (.tmp 7), _, _, _, _⟩) (v := (.slice a8 n8 c8)) rfl (by kernel_rfl) (by kernel_rfl) (by kernel_rfl) (fun _ _ _ h => h) (Or.inl ⟨by rfl, fun W hW => by go_simp⟩) (by assumption) ?_
          simp only [Act.put, List.setIfInBounds_toArray, List.set_cons_zero, List.set_cons_succ]
          refine wpAnyH_take (i := 6) (oi := ⟨some 73, .move (.tmp 5), _, _, _, _⟩) (v := (.slice (some ⟨gi, po, none⟩) M.length ci)) rfl (by kernel_rfl) (by kernel_rfl) (by kernel_rfl) (fun _ _ _ h => h) (Or.inl ⟨by rfl, fun W hW => by go_simp⟩) (by assumption) ?_
          simp only [Act.put, List.setIfInBounds_toArray, List.set_cons_zero, List.set_cons_succ]
          refine wpAnyH_take (i := 7) (oi := ⟨some 74, .move (.tmp 6), _, _, _, _⟩) (v := (.int .i64 (i : Nat))) rfl (by kernel_rfl) (by kernel_rfl) (by kernel_rfl) (fun _ _ _ h => h) (Or.inl ⟨by rfl, fun W hW => by go_simp⟩) (by assumption) ?_
          simp only [Act.put, List.setIfInBounds_toArray, List.set_cons_zero, List.set_cons_succ]
          refine wpAnyH_take (i := 8) (oi := ⟨some 75, .indexAddr 45 (.tmp 73) (.tmp 74), _, _, _, _⟩) (v := (.pointer (some ⟨gi, po + i * 32, none⟩))) rfl (by kernel_rfl) (by kernel_rfl) (by kernel_rfl) (fun _ _ _ h => h) (Or.inl ⟨by rfl, fun W hW => by go_simp⟩) (by assumption) ?_
          simp only [Act.put, List.setIfInBounds_toArray, List.set_cons_zero, List.set_cons_succ]
          refine wpAnyH_take (i := 9) (oi := ⟨some 76, .load 35 (.tmp 75), _, _, _, _⟩) (v := (.agg (idCells id))) rfl (by kernel_rfl) (by kernel_rfl) (by kernel_rfl) (fun _ _ _ h => h) (Or.inl ⟨by rfl, fun W hW => exec_loadId _ rfl _ _ _ HIL.out rfl (rangeAt_below HCA8.out hW)⟩) (by assumption) ?_
          simp only [Act.put, List.setIfInBounds_toArray, List.set_cons_zero, List.set_cons_succ]
          refine wpAnyH_ready (rs := [4]) (by kernel_rfl) (by simp) ?_
          refine AllReadyH.cons (o := ⟨some 71, .buildSlice 65 1 #[(0, (.tmp 70))], _, _, _, _⟩) rfl (fun K hK => ?_) AllReadyH.nil
          go_simp
          have HB9 := Lib.hid ((Below.refl w8.heap.size w8).drew.alloc (Nat.le_refl _) (.cells #[.slice a8 n8 c8] 23))
          refine hK.out _ _ HB9.out (fun hHeld => ?_)
          clear hK K
          refine wpAnyH_ready (rs := [5]) (by kernel_rfl) (by simp) ?_
          refine AllReadyH.cons (o := ⟨some 72, .call { callee := .value (.func 13), args := #[(.tmp 71)], argTypes := #[65] }, _, _, _, _⟩) rfl (fun K hK => ?_) AllReadyH.nil
          go_simp
          go_wp2_with (go_at_call 13; (refine (SG.out w8.drew R8.out.2.2.drew a8 n8 c8 HSF8.out.1).mono ?_); rintro e w10 ⟨rfl, hb10⟩; have HB10 : Hid (Below w8.heap.size w8 w10) := Lib.hid ((Below.refl w8.heap.size w8).drew.trans hb10); clear hb10)
          refine hK.out _ _ HB10.out (fun hHeld => ?_)
          clear hK K
          refine wpAnyH_take (i := 10) (oi := ⟨some 77, .binOp .neq 35 (.tmp 72) (.tmp 76) 35, _, _, _, _⟩) (v := (.bool false)) rfl (by kernel_rfl) (by kernel_rfl) (by kernel_rfl) (fun _ _ _ h => h) (Or.inl ⟨by rfl, fun W hW => exec_neqSelf _ _ _ rfl id HIL.out rfl rfl⟩) (by assumption) ?_
          simp only [Act.put, List.setIfInBounds_toArray, List.set_cons_zero, List.set_cons_succ]
          refine wpAnyH_take (i := 11) (oi := ⟨some 78, .pick (.tmp 69) (.const (.bool true)) (.tmp 77), _, _, _, _⟩) (v := (.bool false)) rfl (by kernel_rfl) (by kernel_rfl) (by kernel_rfl) (fun _ _ _ h => h) (Or.inl ⟨by rfl, fun W hW => by go_simp⟩) (by assumption) ?_
          simp only [Act.put, List.setIfInBounds_toArray, List.set_cons_zero, List.set_cons_succ]
          refine wpAnyH_take (i := 12) (oi := ⟨some 79, .move (.tmp 78), _, _, _, _⟩) (v := (.bool false)) rfl (by kernel_rfl) (by kernel_rfl) (by kernel_rfl) (fun _ _ _ h => h) (Or.inl ⟨by rfl, fun W hW => by go_simp⟩) (by assumption) ?_
          simp only [Act.put, List.setIfInBounds_toArray, List.set_cons_zero, List.set_cons_succ]
          refine wpAnyH_take (i := 13) (oi := ⟨some 80, .move (.tmp 3), _, _, _, _⟩) (v := (Pt db)) rfl (by kernel_rfl) (by kernel_rfl) (by kernel_rfl) (fun _ _ _ h => h) (Or.inl ⟨by rfl, fun W hW => by go_simp⟩) (by assumption) ?_
          simp only [Act.put, List.setIfInBounds_toArray, List.set_cons_zero, List.set_cons_succ]
          refine wpAnyH_take (i := 14) (oi := ⟨some 81, .move (.tmp 5), _, _, _, _⟩) (v := (.slice (some ⟨gi, po, none⟩) M.length ci)) rfl (by kernel_rfl) (by kernel_rfl) (by kernel_rfl) (fun _ _ _ h => h) (Or.inl ⟨by rfl, fun W hW => by go_simp⟩) (by assumption) ?_
          simp only [Act.put, List.setIfInBounds_toArray, List.set_cons_zero, List.set_cons_succ]
          refine wpAnyH_take (i := 15) (oi := ⟨some 82, .move (.tmp 6), _, _, _, _⟩) (v := (.int .i64 (i : Nat))) rfl (by kernel_rfl) (by kernel_rfl) (by kernel_rfl) (fun _ _ _ h => h) (Or.inl ⟨by rfl, fun W hW => by go_simp⟩) (by assumption) ?_
          simp only [Act.put, List.setIfInBounds_toArray, List.set_cons_zero, List.set_cons_succ]
          refine wpAnyH_take (i := 16) (oi := ⟨some 83, .indexAddr 45 (.tmp 81) (.tmp 82), _, _, _, _⟩) (v := (.pointer (some ⟨gi, po + i * 32, none⟩))) rfl (by kernel_rfl) (by kernel_rfl) (by kernel_rfl) (fun _ _ _ h => h) (Or.inl ⟨by rfl, fun W hW => by go_simp⟩) (by assumption) ?_
          simp only [Act.put, List.setIfInBounds_toArray, List.set_cons_zero, List.set_cons_succ]
          refine wpAnyH_take (i := 17) (oi := ⟨some 84, .load 35 (.tmp 83), _, _, _, _⟩) (v := (.agg (idCells id))) rfl (by kernel_rfl) (by kernel_rfl) (by kernel_rfl) (fun _ _ _ h => h) (Or.inl ⟨by rfl, fun W hW => exec_loadId _ rfl _ _ _ HIL.out rfl (rangeAt_below HCA8.out hW)⟩) (by assumption) ?_
          simp only [Act.put, List.setIfInBounds_toArray, List.set_cons_zero, List.set_cons_succ]
          refine wpAnyH_ready (rs := [18]) (by kernel_rfl) (by simp) ?_
          refine AllReadyH.cons (o := ⟨some 85, .call { callee := .value (.func 19), args := #[(.tmp 80), (.tmp 84)], argTypes := #[26, 35] }, _, _, _, _⟩) rfl (fun K hK => ?_) AllReadyH.nil
          go_simp
          go_wp2_with (go_at_call 19; (refine (HS.out w10 (R8.out.below HB10.out)).mono ?_); rintro e w11 ⟨rfl, hr11, hb11⟩; have HB11 : Hid (Below w8.heap.size w8 w11) := Lib.hid (HB10.out.trans (hb11.mono HB10.out.size)); clear hr11 hb11)
          refine hK.out _ _ HB11.out (fun hHeld => ?_)
          clear hK K
          refine wpAnyH_take (i := 19) (oi := ⟨some 86, .unOp .not 4 (.tmp 85), _, _, _, _⟩) (v := (.bool false)) rfl (by kernel_rfl) (by kernel_rfl) (by kernel_rfl) (fun _ _ _ h => h) (Or.inl ⟨by rfl, fun W hW => by go_simp⟩) (by assumption) ?_
          simp only [Act.put, List.setIfInBounds_toArray, List.set_cons_zero, List.set_cons_succ]
          refine wpAnyH_take (i := 20) (oi := ⟨some 87, .pick (.tmp 79) (.const (.bool true)) (.tmp 86), _, _, _, _⟩) (v := (.bool false)) rfl (by kernel_rfl) (by kernel_rfl) (by kernel_rfl) (fun _ _ _ h => h) (Or.inl ⟨by rfl, fun W hW => by go_simp⟩) (by assumption) ?_
          simp only [Act.put, List.setIfInBounds_toArray, List.set_cons_zero, List.set_cons_succ]
          refine wpAnyH_done (by kernel_rfl) ?_ _
          go_wp2
          go_roundg (gk - 1)
          case measure => have := HG.out; omega
          case rel => exact ⟨i + 1, HB8.out.trans (HB11.out.mono HB8.out.size), by go_num, by have := HG.out; omega⟩
        · have AW1 := Lib.hid (AW.out wr (R7.out.2.2.trans (hbw.mono R7.out.2.2.size)))
          clear hg
          go_wp2_with (go_at_call 15; (with_reducible refine AW1.out.mono ?_); rintro e w9 ⟨rfl, hb9⟩; have HB9 := Lib.hid hb9; clear hb9)
          go_ret
          have hb := R7.out.2.2.trans (HB.out.mono R7.out.2.2.size)
          exact ⟨rfl, hb.trans (HB9.out.mono hb.size)⟩
#print axioms looseTrue_any
end Go.Proofs.YtcnhifkpflaibaaDoor
