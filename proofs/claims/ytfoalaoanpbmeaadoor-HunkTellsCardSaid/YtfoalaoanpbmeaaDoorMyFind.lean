/-
  How many edits reach all that is left: find walked.
-/
import Derived.Test.YtfoalaoanpbmeaaDoorMyKept
import Derived.StillTailTactics
namespace Go.Proofs.YtfoalaoanpbmeaaDoor
open Go.RowKit Go.Maps My

/-- What find hands back. -/
def FindIs (g pf pt pn pm pa pb kb : Nat) (A B : List Int) (aa ab : Option Addr) (ca cb : Nat) (fa : Option Addr) (w : World) (e : Ending) (w' : World) : Prop := ∃ k, e = .returned (.int .i64 (dist A B : Nat)) ∧ FinAt w' g pf pt pn pm pa pb kb A B aa ab ca cb fa 1 1 none 0 0 0 ∧ KeptTo w' (eq2 A B) A.length B.length kb k (dist A B + 1) ∧ k ≤ 100000 ∧ Below kb w w'
theorem dist_cd (A B : List Int) : cd (eq2 A B) A.length ((A.length : Int) - B.length) = dist A B := by
  unfold cd dist
  have e1 : ((A.length : Nat) : Int).toNat = A.length := by omega
  have e2 : ((A.length : Int) - (A.length - B.length)).toNat = B.length := by omega
  rw [e1, e2]
theorem dist_bd (A B : List Int) : dist A B ≤ A.length + B.length := (cst_bd _ _).1
/-- Midway through find. -/
structure Fnd (g pf pt pn pm pa pb kb : Nat) (A B : List Int) (aa ab : Option Addr) (ca cb : Nat) (fa : Option Addr) (w : World) (g3 : Nat) (low : Int) (a : Option Addr) (n c : Nat) (l : List Int) (e k lim : Nat) (W : World) : Prop where
  fin : FinAt W g pf pt pn pm pa pb kb A B aa ab ca cb fa 1 1 none 0 0 0
  box : RowAt W g3 132 (lstC low a n c)
  lst : Lst W a n c l
  good : My.Good (eq2 A B) A.length B.length e low l
  comp : ∀ X Y, Comp (eq2 A B) A.length B.length e low l X Y
  kept : KeptTo W (eq2 A B) A.length B.length kb k lim
  le : e ≤ dist A B
  few : k ≤ e + 1
  lim : ∀ x, x % 64 = 0 → x < e → x < lim
  below : Below kb w W
  ne : w.heap.size ≤ g3 ∧ g3 ≠ g ∧ g3 ≠ pf ∧ g3 ≠ pt ∧ g3 ≠ pn ∧ g3 ≠ pm ∧ g3 ≠ pa ∧ g3 ≠ pb ∧ g3 ≠ kb ∧ kb < W.heap.size ∧ kb ≤ w.heap.size
section
variable {g pf pt pn pm pa pb kb : Nat} {A B : List Int} {aa ab : Option Addr} {ca cb : Nat} {fa : Option Addr} {w : World} {g3 : Nat} {low : Int} {a : Option Addr} {n c : Nat} {l : List Int} {e k lim : Nat} {W W' : World}
theorem Fnd.on (h : Fnd g pf pt pn pm pa pb kb A B aa ab ca cb fa w g3 low a n c l e k lim W) (hb : Below W.heap.size W W') : Fnd g pf pt pn pm pa pb kb A B aa ab ca cb fa w g3 low a n c l e k lim W' :=
  ⟨h.fin.below hb, h.box.below hb, h.lst.below hb, h.good, h.comp, h.kept.below hb, h.le, h.few, h.lim, h.below.trans (hb.mono (by have := h.ne; omega)), by have := h.ne; have := hb.size; omega⟩
end
set_option maxRecDepth 100000 in
set_option maxHeartbeats 4000000 in
theorem find_any (g pf pt pn pm pa pb kb : Nat) (A B : List Int) (aa ab : Option Addr) (ca cb : Nat) (fa : Option Addr) (r : Int) (w : World) (hF : FinAt w g pf pt pn pm pa pb kb A B aa ab ca cb fa 1 1 none 0 0 0) (hL : Lst w fa 1 1 [r]) (hS : Slid (eq2 A B) A.length B.length 0 0 r) (hk : w.heap[kb]? = some (.map #[] 0)) (hA : A.length ≤ 4096) (hB : B.length ≤ 4096) :
    Calls Tryd.prog 76 #[PtB g] w (FindIs g pf pt pn pm pa pb kb A B aa ab ca cb fa w) := by
  obtain ⟨n, hn⟩ : ∃ n, A.length = n := ⟨_, rfl⟩
  obtain ⟨m, hm⟩ : ∃ m, B.length = m := ⟨_, rfl⟩
  have HN := Lib.hid hn
  have HM := Lib.hid hm
  have HF := Lib.hid hF
  have HL := Lib.hid hL
  have HSl := Lib.hid hS
  have HK := Lib.hid hk
  have HAL := Lib.hid hA
  have HBL := Lib.hid hB
  have k2 := hF.row.cell 2 rfl
  have k3 := hF.row.cell 3 rfl
  clear hF hL hS hk hA hB hn hm
  go_enter Tryd.func76, Tryd.ntmps76
  go_wp2_with fail
  obtain ⟨W1, hW1⟩ : ∃ W, w.alloc (.cells #[.int .i64 0, .slice fa 1 1] 132) = W := ⟨_, rfl⟩
  have hb1 : Below w.heap.size w W1 := by rw [← hW1]; exact (Below.refl _ _).alloc (Nat.le_refl _) _
  have F1 := Lib.hid (show Fnd g pf pt pn pm pa pb kb A B aa ab ca cb fa w w.heap.size 0 fa 1 1 [r] 0 0 0 W1 from by
    have hk := HK.out
    have hkl : kb < w.heap.size := by
      rcases Nat.lt_or_ge kb w.heap.size with h | h
      · exact h
      · rw [Array.getElem?_eq_none h] at hk; cases hk
    have b1 : ∀ {b : Nat} {v : Value}, w.cell? ⟨b, 0, none⟩ = some v → b < w.heap.size := fun h => World.block_lt_of_cell? _ _ h
    have l1 := b1 HF.out.f; have l2 := b1 HF.out.t; have l3 := b1 HF.out.caught.n; have l4 := b1 HF.out.caught.m; have l5 := b1 HF.out.caught.a; have l6 := b1 HF.out.caught.b; have l7 := HF.out.row.lt; have l8 := hb1.size
    refine ⟨HF.out.below hb1, by rw [← hW1]; exact RowAt.new w _ (lstC 0 fa 1 1), HL.out.below hb1, first_good HSl.out, first_comp HSl.out, kept_none ((hb1.block kb hkl).trans hk), Nat.zero_le _, by omega, fun x _ h => by omega, hb1.mono (by omega), ?_⟩
    exact ⟨by omega, by omega, by omega, by omega, by omega, by omega, by omega, by omega, by omega, by omega, by omega⟩)
  rw [hW1]
  clear hW1 hb1 k2 k3
  have HDB := Lib.hid (show dist A B ≤ 8192 by have := dist_bd A B; have := HAL.out; have := HBL.out; have := HN.out; have := HM.out; omega)
  go_loopg [4] (dist A B) (fun gh v4 W => ∃ (low : Int) (a : Option Addr) (ln c : Nat) (l : List Int) (e k lim : Nat), v4 = .int .i64 e ∧ gh + e = dist A B ∧ Hid (k ≤ e) ∧ Hid (Fnd g pf pt pn pm pa pb kb A B aa ab ca cb fa w w.heap.size low a ln c l e k lim W))
  case atStart => exact ⟨0, fa, 1, 1, [r], 0, 0, 0, rfl, rfl, Lib.hid (Nat.le_refl _), F1⟩
  case round =>
    obtain ⟨low, a, ln, c, l, e, k, lim, rfl, hgh, HKE, HX⟩ := hrel
    have HGH := Lib.hid hgh
    have he8 : (e : Int) ≤ 8192 := by have := HDB.out; have := HX.out.le; omega
    have he0 : (0 : Int) ≤ (e : Int) := by omega
    clear hgh
    obtain ⟨q, hq⟩ : ∃ q, ((e : Int) % 64 == 0) = q := ⟨_, rfl⟩
    have HQ := Lib.hid hq
    go_upto_if 11 with (fail)
    clear hq
    go_cut [] from 12 to 17 (fun W => ∃ k lim, Hid (Fnd g pf pt pn pm pa pb kb A B aa ab ca cb fa w w.heap.size low a ln c l e k lim W) ∧ Hid (k ≤ e + 1 ∧ ∀ x, x % 64 = 0 → x < e + 1 → x < lim))
    case first =>
      obtain ⟨b, off, rfl⟩ := HX.out.lst.some_ HX.out.good.pos
      cases q with
      | true =>
        have HE := Lib.hid (show e % 64 = 0 by have := beq_iff_eq.1 HQ.out; omega)
        have c5 := HX.out.fin.row.cell 5 rfl
        have d0 := HX.out.box.cell 0 rfl
        have d1 := HX.out.box.cell 1 rfl
        go_wp2_with fail
        go_still_tail 6, (by kernel_rfl)
        change wpList _ _ _ _ _ wr.drew
        go_wp2_with (refine wl_keep rfl _ _ _ rfl (HX.out.on (below_drewN wr 1)).kept (by have := HX.out.few; omega) rfl e (by omega) rfl low b off ln c l rfl (HX.out.on (below_drewN wr 1)).lst HX.out.good HX.out.comp (fun x h1 h2 h3 => HX.out.lim x h1 (by omega)) ?_; intro w4 hk4 hg4)
        go_meet
        case rel =>
          have H4 := HX.out.on (below_drewN wr 1)
          obtain ⟨es, cl, hm⟩ := H4.kept.map
          have ne := H4.ne
          refine ⟨k + 1, e + 1, Lib.hid ⟨H4.fin.beside hm hg4, H4.box.grown hg4 (fun h => by have := Option.some.inj h; omega), H4.lst.beside hm hg4, H4.good, H4.comp, hk4, H4.le, by have := HKE.out; omega, fun x h1 h2 => by omega, H4.below.grown hg4 (Nat.le_of_lt ne.2.2.2.2.2.2.2.2.2.1) (fun j hj => by cases hj; exact Nat.le_refl _), ?_⟩, Lib.hid ⟨by have := HKE.out; omega, fun x h1 h2 => h2⟩⟩
          have h9 : (wr.drewN 1).heap.size ≤ w4.heap.size := hg4.size
          exact ⟨by omega, by omega, by omega, by omega, by omega, by omega, by omega, by omega, by omega, by omega, by omega⟩
      | false =>
        have HE := Lib.hid (show e % 64 ≠ 0 by have := beq_eq_false_iff_ne.1 HQ.out; omega)
        go_wp2_with fail
        go_meet
        case rel =>
          refine ⟨k, lim, HX, Lib.hid ⟨by have := HKE.out; omega, fun x h1 h2 => HX.out.lim x h1 ?_⟩⟩
          have := HE.out
          rcases Nat.lt_or_ge x e with h | h
          · exact h
          · have : x = e := by omega
            subst this; omega
    case rest =>
      obtain ⟨k2, lim2, HY, HL2⟩ := hcut
      have d0 := HY.out.box.cell 0 rfl
      have d1 := HY.out.box.cell 1 rfl
      have e0 := HY.out.fin.row.cell 0 rfl
      have e1 := HY.out.fin.row.cell 1 rfl
      rw [HN.out] at e0
      rw [HM.out] at e1
      have hlows := HY.out.good.lows
      have RE := Lib.hid (fun W (hb : Below wc.heap.size wc W) => reaches_any low a ln c l n m W (HY.out.lst.below hb) (by have := HN.out; have := HM.out; have := HAL.out; have := HBL.out; have := HY.out.good.pos; omega) (by have := HN.out; have := HM.out; have := HAL.out; have := HBL.out; have := HY.out.good.pos; omega) (by omega) (by have := HN.out; have := HAL.out; omega) (by omega) (by have := HM.out; have := HBL.out; omega))
      have hend := find_end HY.out.good HY.out.comp (by rw [dist_cd]; exact HY.out.le)
      rw [HN.out, HM.out] at hend
      clear hlows
      by_cases hD : e = dist A B
      · have hr : reachF low l n m = true := by
          rw [hend, ← HN.out, ← HM.out, dist_cd]; simp; omega
        rw [hr] at RE
        have HD := Lib.hid hD
        clear hend hr hD
        go_wp2_with fail
        go_region_held3 (fun W => W.cell? ⟨w.heap.size, 0, none⟩ = some (.int .i64 low) ∧ W.cell? ⟨w.heap.size, 1, none⟩ = some (.slice a ln c) ∧ W.cell? ⟨g, 0, none⟩ = some (.int .i64 n) ∧ W.cell? ⟨g, 1, none⟩ = some (.int .i64 m)) (first | exact ⟨d0, d1, e0, e1⟩ | exact ⟨p0, p1, p2, p3⟩) (first
          | (go_at_call 78; (refine (RE.out _ (below_drewN wc 1)).mono ?_); rintro e w5 ⟨rfl, hb5⟩; have hb6 : Below wc.heap.size wc w5 := (below_drewN wc 1).trans hb5; have H5 := Lib.hid (HY.out.on hb6); have p0 := cell_below d0 hb6; have p1 := cell_below d1 hb6; have p2 := cell_below e0 hb6; have p3 := cell_below e1 hb6; clear hb5 hb6))
        go_wp2
        go_ret
        obtain ⟨D, hD1, hD2⟩ := H5.out.kept
        exact ⟨k2, by rw [HD.out]; rfl, H5.out.fin, ⟨D, hD1, fun x h1 h2 => hD2 x h1 (HL2.out.2 x h1 (by have := HD.out; omega))⟩, by have := HL2.out.1; omega, H5.out.below⟩
      · have hlt : e < dist A B := by have := HY.out.le; omega
        have hr : reachF low l n m = false := by
          rw [hend, ← HN.out, ← HM.out, dist_cd]; simp; omega
        rw [hr] at RE
        have HLT := Lib.hid hlt
        clear hend hr hD hlt
        go_wp2_with fail
        go_region_held3 (fun W => W.cell? ⟨w.heap.size, 0, none⟩ = some (.int .i64 low) ∧ W.cell? ⟨w.heap.size, 1, none⟩ = some (.slice a ln c) ∧ W.cell? ⟨g, 0, none⟩ = some (.int .i64 n) ∧ W.cell? ⟨g, 1, none⟩ = some (.int .i64 m)) (first | exact ⟨d0, d1, e0, e1⟩ | exact ⟨p0, p1, p2, p3⟩) (first
          | (go_at_call 78; (refine (RE.out _ (below_drewN wc 1)).mono ?_); rintro e w5 ⟨rfl, hb5⟩; have hb6 : Below wc.heap.size wc w5 := (below_drewN wc 1).trans hb5; have H5 := Lib.hid (HY.out.on hb6); have p0 := cell_below d0 hb6; have p1 := cell_below d1 hb6; have p2 := cell_below e0 hb6; have p3 := cell_below e1 hb6; clear hb5 hb6))
        clear d0 d1 e0 e1 p2 p3
        have c4 := H5.out.fin.row.cell 4 rfl
        go_wp2_with fail
        go_still_tail 5, (by kernel_rfl)
        change wpList _ _ _ _ _ w5.drew
        have H6 := Lib.hid (H5.out.on (below_drewN w5 1))
        have NX := Lib.hid (next_any A B aa ab ca cb g pf pt pn pm pa pb low a ln c l e w5.drew H6.out.fin.both HAL.out HBL.out H6.out.lst H6.out.good (by rw [dist_cd]; exact HLT.out))
        clear p0 p1 c4
        go_wp2_with (first
          | (go_at_call 94; (refine NX.out.mono ?_); rintro e w7 ⟨low', l', a', n', c', rfl, hl', hN', hb7⟩; have H7 := Lib.hid (H6.out.on hb7); have HL7 := Lib.hid hl'; have HN7 := Lib.hid hN'; clear hl' hN' hb7)
          | (refine store_row rfl 132 _ _ rfl w.heap.size _ (lstC low a ln c) (lstC low' a' n' c') rfl rfl H7.out.box rfl infoL (lstC_one _ _ _ _) ?_; intro w8 hr8 hg8 _; have HR8 := Lib.hid hr8; have HG8 := Lib.hid hg8; clear hr8 hg8))
        have hG8 := Lib.hid (HN7.out.good H7.out.good (by rw [dist_cd]; exact HLT.out))
        have ne := H7.out.ne
        have h9 := HG8.out.size
        go_roundg (dist A B - (e + 1))
        case measure => have := HGH.out; have := HLT.out; omega
        case rel =>
          refine ⟨low', a', n', c', l', e + 1, k2, lim2, by go_num, by have := HLT.out; omega, Lib.hid (by have := HL2.out.1; omega), Lib.hid ⟨H7.out.fin.rows H7.out.box (noR_lst _ _ _ _) HG8.out ⟨by omega, by omega, by omega, by omega, by omega, by omega, by omega⟩, HR8.out, HL7.out.rows H7.out.box (noR_lst _ _ _ _) (by decide) HG8.out, hG8.out, fun X Y => ?_, H7.out.kept.rows H7.out.box (noR_lst _ _ _ _) (by decide) HG8.out, by have := HLT.out; omega, by have := HL2.out.1; omega, fun x h1 h2 => HL2.out.2 x h1 (by omega), H7.out.below.grown HG8.out (by omega) (fun j hj => by cases hj; omega), ?_⟩⟩
          · have := HN7.out.comp H7.out.good (by rw [dist_cd]; exact HLT.out) (H7.out.comp (X - 1) (Y + 1))
            rwa [show X - 1 + 1 = X by omega, show Y + 1 - 1 = Y by omega] at this
          · exact ⟨by omega, by omega, by omega, by omega, by omega, by omega, by omega, by omega, by omega, by omega, by omega⟩
#print axioms find_any
end Go.Proofs.YtfoalaoanpbmeaaDoor
