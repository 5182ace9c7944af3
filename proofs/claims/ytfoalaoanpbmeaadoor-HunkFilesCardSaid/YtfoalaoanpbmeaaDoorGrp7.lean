/-
  Merged: MyFind, MyAgain.
-/
import Derived.Test.YtfoalaoanpbmeaaDoorMyKept
import Derived.StillTailTactics
import Derived.Test.YtfoalaoanpbmeaaDoorSliceG
namespace Go.Proofs.YtfoalaoanpbmeaaDoor
open Go.RowKit Go.Maps My

/-- What find hands back. -/
def FindIs (g pf pt pn pm pa pb kb : Nat) (A B : List Int) (aa ab : Option Addr) (ca cb : Nat) (fa : Option Addr) (w : World) (e : Ending) (w' : World) : Prop := ∃ k, e = .returned (.int .i64 (dist A B : Nat)) ∧ FinAt w' g pf pt pn pm pa pb kb A B aa ab ca cb fa 1 1 none 0 0 0 ∧ KeptTo w' (eq2 A B) A.length B.length kb k (dist A B + 1) ∧ k ≤ 100000 ∧ Below kb w w'
theorem dist_cd (A B : List Int) : cd (eq2 A B) A.length ((A.length : Int) - B.length) = dist A B := by
  unfold cd dist
  have e1 : ((A.length : Nat) : Int).toNat = A.length := by omega
  have e2 : ((A.length : Int) - (A.length - B.length)).toNat = B.length := by omega
  rw [e1, e2]
theorem dist_bd (A B : List Int) : dist A B ≤ A.length + B.length := (cst_bd _ _).1
/-- Midway through find. -/
structure Fnd (g pf pt pn pm pa pb kb : Nat) (A B : List Int) (aa ab : Option Addr) (ca cb : Nat) (fa : Option Addr) (w : World) (g3 : Nat) (low : Int) (a : Option Addr) (n c : Nat) (l : List Int) (e k lim : Nat) (W : World) : Prop where
  fin : FinAt W g pf pt pn pm pa pb kb A B aa ab ca cb fa 1 1 none 0 0 0
  box : RowAt W g3 132 (lstC low a n c)
  lst : Lst W a n c l
  good : My.Good (eq2 A B) A.length B.length e low l
  comp : ∀ X Y, Comp (eq2 A B) A.length B.length e low l X Y
  kept : KeptTo W (eq2 A B) A.length B.length kb k lim
  le : e ≤ dist A B
  few : k ≤ e + 1
  lim : ∀ x, x % 64 = 0 → x < e → x < lim
  below : Below kb w W
  ne : w.heap.size ≤ g3 ∧ g3 ≠ g ∧ g3 ≠ pf ∧ g3 ≠ pt ∧ g3 ≠ pn ∧ g3 ≠ pm ∧ g3 ≠ pa ∧ g3 ≠ pb ∧ g3 ≠ kb ∧ kb < W.heap.size ∧ kb ≤ w.heap.size
section
variable {g pf pt pn pm pa pb kb : Nat} {A B : List Int} {aa ab : Option Addr} {ca cb : Nat} {fa : Option Addr} {w : World} {g3 : Nat} {low : Int} {a : Option Addr} {n c : Nat} {l : List Int} {e k lim : Nat} {W W' : World}
theorem Fnd.on (h : Fnd g pf pt pn pm pa pb kb A B aa ab ca cb fa w g3 low a n c l e k lim W) (hb : Below W.heap.size W W') : Fnd g pf pt pn pm pa pb kb A B aa ab ca cb fa w g3 low a n c l e k lim W' :=
  ⟨h.fin.below hb, h.box.below hb, h.lst.below hb, h.good, h.comp, h.kept.below hb, h.le, h.few, h.lim, h.below.trans (hb.mono (by have := h.ne; omega)), by have := h.ne; have := hb.size; omega⟩
end
set_option maxRecDepth 100000 in
set_option maxHeartbeats 4000000 in
theorem find_any (g pf pt pn pm pa pb kb : Nat) (A B : List Int) (aa ab : Option Addr) (ca cb : Nat) (fa : Option Addr) (r : Int) (w : World) (hF : FinAt w g pf pt pn pm pa pb kb A B aa ab ca cb fa 1 1 none 0 0 0) (hL : Lst w fa 1 1 [r]) (hS : Slid (eq2 A B) A.length B.length 0 0 r) (hk : w.heap[kb]? = some (.map #[] 0)) (hA : A.length ≤ 4096) (hB : B.length ≤ 4096) :
    Calls Tryd.prog 76 #[PtB g] w (FindIs g pf pt pn pm pa pb kb A B aa ab ca cb fa w) := by
  obtain ⟨n, hn⟩ : ∃ n, A.length = n := ⟨_, rfl⟩
  obtain ⟨m, hm⟩ : ∃ m, B.length = m := ⟨_, rfl⟩
  have HN := Lib.hid hn
  have HM := Lib.hid hm
  have HF := Lib.hid hF
  have HL := Lib.hid hL
  have HSl := Lib.hid hS
  have HK := Lib.hid hk
  have HAL := Lib.hid hA
  have HBL := Lib.hid hB
  have k2 := hF.row.cell 2 rfl
  have k3 := hF.row.cell 3 rfl
  clear hF hL hS hk hA hB hn hm
  go_enter Tryd.func76, Tryd.ntmps76
  go_wp2_with fail
  obtain ⟨W1, hW1⟩ : ∃ W, w.alloc (.cells #[.int .i64 0, .slice fa 1 1] 132) = W := ⟨_, rfl⟩
  have hb1 : Below w.heap.size w W1 := by rw [← hW1]; exact (Below.refl _ _).alloc (Nat.le_refl _) _
  have F1 := Lib.hid (show Fnd g pf pt pn pm pa pb kb A B aa ab ca cb fa w w.heap.size 0 fa 1 1 [r] 0 0 0 W1 from by
    have hk := HK.out
    have hkl : kb < w.heap.size := by
      rcases Nat.lt_or_ge kb w.heap.size with h | h
      · exact h
      · rw [Array.getElem?_eq_none h] at hk; cases hk
    have b1 : ∀ {b : Nat} {v : Value}, w.cell? ⟨b, 0, none⟩ = some v → b < w.heap.size := fun h => World.block_lt_of_cell? _ _ h
    have l1 := b1 HF.out.f; have l2 := b1 HF.out.t; have l3 := b1 HF.out.caught.n; have l4 := b1 HF.out.caught.m; have l5 := b1 HF.out.caught.a; have l6 := b1 HF.out.caught.b; have l7 := HF.out.row.lt; have l8 := hb1.size
    refine ⟨HF.out.below hb1, by rw [← hW1]; exact RowAt.new w _ (lstC 0 fa 1 1), HL.out.below hb1, first_good HSl.out, first_comp HSl.out, kept_none ((hb1.block kb hkl).trans hk), Nat.zero_le _, by omega, fun x _ h => by omega, hb1.mono (by omega), ?_⟩
    exact ⟨by omega, by omega, by omega, by omega, by omega, by omega, by omega, by omega, by omega, by omega, by omega⟩)
  rw [hW1]
  clear hW1 hb1 k2 k3
  have HDB := Lib.hid (show dist A B ≤ 8192 by have := dist_bd A B; have := HAL.out; have := HBL.out; have := HN.out; have := HM.out; omega)
  go_loopg [4] (dist A B) (fun gh v4 W => ∃ (low : Int) (a : Option Addr) (ln c : Nat) (l : List Int) (e k lim : Nat), v4 = .int .i64 e ∧ gh + e = dist A B ∧ Hid (k ≤ e) ∧ Hid (Fnd g pf pt pn pm pa pb kb A B aa ab ca cb fa w w.heap.size low a ln c l e k lim W))
  case atStart => exact ⟨0, fa, 1, 1, [r], 0, 0, 0, rfl, rfl, Lib.hid (Nat.le_refl _), F1⟩
  case round =>
    obtain ⟨low, a, ln, c, l, e, k, lim, rfl, hgh, HKE, HX⟩ := hrel
    have HGH := Lib.hid hgh
    have he8 : (e : Int) ≤ 8192 := by have := HDB.out; have := HX.out.le; omega
    have he0 : (0 : Int) ≤ (e : Int) := by omega
    clear hgh
    obtain ⟨q, hq⟩ : ∃ q, ((e : Int) % 64 == 0) = q := ⟨_, rfl⟩
    have HQ := Lib.hid hq
    go_upto_if 11 with (fail)
    clear hq
    go_cut [] from 12 to 17 (fun W => ∃ k lim, Hid (Fnd g pf pt pn pm pa pb kb A B aa ab ca cb fa w w.heap.size low a ln c l e k lim W) ∧ Hid (k ≤ e + 1 ∧ ∀ x, x % 64 = 0 → x < e + 1 → x < lim))
    case first =>
      obtain ⟨b, off, rfl⟩ := HX.out.lst.some_ HX.out.good.pos
      cases q with
      | true =>
        have HE := Lib.hid (show e % 64 = 0 by have := beq_iff_eq.1 HQ.out; omega)
        have c5 := HX.out.fin.row.cell 5 rfl
        have d0 := HX.out.box.cell 0 rfl
        have d1 := HX.out.box.cell 1 rfl
        go_wp2_with fail
        go_still_tail 6, (by kernel_rfl)
        change wpList _ _ _ _ _ wr.drew
        go_wp2_with (refine wl_keep rfl _ _ _ rfl (HX.out.on (below_drewN wr 1)).kept (by have := HX.out.few; omega) rfl e (by omega) rfl low b off ln c l rfl (HX.out.on (below_drewN wr 1)).lst HX.out.good HX.out.comp (fun x h1 h2 h3 => HX.out.lim x h1 (by omega)) ?_; intro w4 hk4 hg4)
        go_meet
        case rel =>
          have H4 := HX.out.on (below_drewN wr 1)
          obtain ⟨es, cl, hm⟩ := H4.kept.map
          have ne := H4.ne
          refine ⟨k + 1, e + 1, Lib.hid ⟨H4.fin.beside hm hg4, H4.box.grown hg4 (fun h => by have := Option.some.inj h; omega), H4.lst.beside hm hg4, H4.good, H4.comp, hk4, H4.le, by have := HKE.out; omega, fun x h1 h2 => by omega, H4.below.grown hg4 (Nat.le_of_lt ne.2.2.2.2.2.2.2.2.2.1) (fun j hj => by cases hj; exact Nat.le_refl _), ?_⟩, Lib.hid ⟨by have := HKE.out; omega, fun x h1 h2 => h2⟩⟩
          have h9 : (wr.drewN 1).heap.size ≤ w4.heap.size := hg4.size
          exact ⟨by omega, by omega, by omega, by omega, by omega, by omega, by omega, by omega, by omega, by omega, by omega⟩
      | false =>
        have HE := Lib.hid (show e % 64 ≠ 0 by have := beq_eq_false_iff_ne.1 HQ.out; omega)
        go_wp2_with fail
        go_meet
        case rel =>
          refine ⟨k, lim, HX, Lib.hid ⟨by have := HKE.out; omega, fun x h1 h2 => HX.out.lim x h1 ?_⟩⟩
          have := HE.out
          rcases Nat.lt_or_ge x e with h | h
          · exact h
          · have : x = e := by omega
            subst this; omega
    case rest =>
      obtain ⟨k2, lim2, HY, HL2⟩ := hcut
      have d0 := HY.out.box.cell 0 rfl
      have d1 := HY.out.box.cell 1 rfl
      have e0 := HY.out.fin.row.cell 0 rfl
      have e1 := HY.out.fin.row.cell 1 rfl
      rw [HN.out] at e0
      rw [HM.out] at e1
      have hlows := HY.out.good.lows
      have RE := Lib.hid (fun W (hb : Below wc.heap.size wc W) => reaches_any low a ln c l n m W (HY.out.lst.below hb) (by have := HN.out; have := HM.out; have := HAL.out; have := HBL.out; have := HY.out.good.pos; omega) (by have := HN.out; have := HM.out; have := HAL.out; have := HBL.out; have := HY.out.good.pos; omega) (by omega) (by have := HN.out; have := HAL.out; omega) (by omega) (by have := HM.out; have := HBL.out; omega))
      have hend := find_end HY.out.good HY.out.comp (by rw [dist_cd]; exact HY.out.le)
      rw [HN.out, HM.out] at hend
      clear hlows
      by_cases hD : e = dist A B
      · have hr : reachF low l n m = true := by
          rw [hend, ← HN.out, ← HM.out, dist_cd]; simp; omega
        rw [hr] at RE
        have HD := Lib.hid hD
        clear hend hr hD
        go_wp2_with fail
        go_region_held3 (fun W => W.cell? ⟨w.heap.size, 0, none⟩ = some (.int .i64 low) ∧ W.cell? ⟨w.heap.size, 1, none⟩ = some (.slice a ln c) ∧ W.cell? ⟨g, 0, none⟩ = some (.int .i64 n) ∧ W.cell? ⟨g, 1, none⟩ = some (.int .i64 m)) (first | exact ⟨d0, d1, e0, e1⟩ | exact ⟨p0, p1, p2, p3⟩) (first
          | (go_at_call 78; (refine (RE.out _ (below_drewN wc 1)).mono ?_); rintro e w5 ⟨rfl, hb5⟩; have hb6 : Below wc.heap.size wc w5 := (below_drewN wc 1).trans hb5; have H5 := Lib.hid (HY.out.on hb6); have p0 := cell_below d0 hb6; have p1 := cell_below d1 hb6; have p2 := cell_below e0 hb6; have p3 := cell_below e1 hb6; clear hb5 hb6))
        go_wp2
        go_ret
        obtain ⟨D, hD1, hD2⟩ := H5.out.kept
        exact ⟨k2, by rw [HD.out]; rfl, H5.out.fin, ⟨D, hD1, fun x h1 h2 => hD2 x h1 (HL2.out.2 x h1 (by have := HD.out; omega))⟩, by have := HL2.out.1; omega, H5.out.below⟩
      · have hlt : e < dist A B := by have := HY.out.le; omega
        have hr : reachF low l n m = false := by
          rw [hend, ← HN.out, ← HM.out, dist_cd]; simp; omega
        rw [hr] at RE
        have HLT := Lib.hid hlt
        clear hend hr hD hlt
        go_wp2_with fail
        go_region_held3 (fun W => W.cell? ⟨w.heap.size, 0, none⟩ = some (.int .i64 low) ∧ W.cell? ⟨w.heap.size, 1, none⟩ = some (.slice a ln c) ∧ W.cell? ⟨g, 0, none⟩ = some (.int .i64 n) ∧ W.cell? ⟨g, 1, none⟩ = some (.int .i64 m)) (first | exact ⟨d0, d1, e0, e1⟩ | exact ⟨p0, p1, p2, p3⟩) (first
          | (go_at_call 78; (refine (RE.out _ (below_drewN wc 1)).mono ?_); rintro e w5 ⟨rfl, hb5⟩; have hb6 : Below wc.heap.size wc w5 := (below_drewN wc 1).trans hb5; have H5 := Lib.hid (HY.out.on hb6); have p0 := cell_below d0 hb6; have p1 := cell_below d1 hb6; have p2 := cell_below e0 hb6; have p3 := cell_below e1 hb6; clear hb5 hb6))
        clear d0 d1 e0 e1 p2 p3
        have c4 := H5.out.fin.row.cell 4 rfl
        go_wp2_with fail
        go_still_tail 5, (by kernel_rfl)
        change wpList _ _ _ _ _ w5.drew
        have H6 := Lib.hid (H5.out.on (below_drewN w5 1))
        have NX := Lib.hid (next_any A B aa ab ca cb g pf pt pn pm pa pb low a ln c l e w5.drew H6.out.fin.both HAL.out HBL.out H6.out.lst H6.out.good (by rw [dist_cd]; exact HLT.out))
        clear p0 p1 c4
        go_wp2_with (first
          | (go_at_call 94; (refine NX.out.mono ?_); rintro e w7 ⟨low', l', a', n', c', rfl, hl', hN', hb7⟩; have H7 := Lib.hid (H6.out.on hb7); have HL7 := Lib.hid hl'; have HN7 := Lib.hid hN'; clear hl' hN' hb7)
          | (refine store_row rfl 132 _ _ rfl w.heap.size _ (lstC low a ln c) (lstC low' a' n' c') rfl rfl H7.out.box rfl infoL (lstC_one _ _ _ _) ?_; intro w8 hr8 hg8 _; have HR8 := Lib.hid hr8; have HG8 := Lib.hid hg8; clear hr8 hg8))
        have hG8 := Lib.hid (HN7.out.good H7.out.good (by rw [dist_cd]; exact HLT.out))
        have ne := H7.out.ne
        have h9 := HG8.out.size
        go_roundg (dist A B - (e + 1))
        case measure => have := HGH.out; have := HLT.out; omega
        case rel =>
          refine ⟨low', a', n', c', l', e + 1, k2, lim2, by go_num, by have := HLT.out; omega, Lib.hid (by have := HL2.out.1; omega), Lib.hid ⟨H7.out.fin.rows H7.out.box (noR_lst _ _ _ _) HG8.out ⟨by omega, by omega, by omega, by omega, by omega, by omega, by omega⟩, HR8.out, HL7.out.rows H7.out.box (noR_lst _ _ _ _) (by decide) HG8.out, hG8.out, fun X Y => ?_, H7.out.kept.rows H7.out.box (noR_lst _ _ _ _) (by decide) HG8.out, by have := HLT.out; omega, by have := HL2.out.1; omega, fun x h1 h2 => HL2.out.2 x h1 (by omega), H7.out.below.grown HG8.out (by omega) (fun j hj => by cases hj; omega), ?_⟩⟩
          · have := HN7.out.comp H7.out.good (by rw [dist_cd]; exact HLT.out) (H7.out.comp (X - 1) (Y + 1))
            rwa [show X - 1 + 1 = X by omega, show Y + 1 - 1 = Y by omega] at this
          · exact ⟨by omega, by omega, by omega, by omega, by omega, by omega, by omega, by omega, by omega, by omega, by omega⟩
#print axioms find_any
end Go.Proofs.YtfoalaoanpbmeaaDoor

namespace Go.Proofs.YtfoalaoanpbmeaaDoor
open Go.RowKit Go.Maps My

/-- A list, as it lies and what it is. -/
structure LV where
  low : Int
  a : Option Addr
  n : Nat
  c : Nat
  l : List Int
instance : Inhabited LV := ⟨⟨0, none, 0, 0, []⟩⟩
def lvK : Kind LV := ⟨fun x => lstC x.low x.a x.n x.c, 2, fun _ => True, by decide, fun _ _ => rfl, fun x _ v hv => lstC_one _ _ _ _ v hv⟩
theorem lvInfo : (Tryd.prog.info? 132).map (fun i => (i.zero, i.size, i.bytes)) = some (some (.agg #[.int .i64 0, .slice none 0 0]), 2, 32) := by kernel_rfl
/-- A finder after the search: what was there, the row, the lists made again. -/
structure Ag (w0 wb : World) (g pf pt pn pm pa pb kb : Nat) (A B : List Int) (aa ab : Option Addr) (ca cb : Nat) (fa : Option Addr) (ga : Option Addr) (gn gc : Nat) (fr : Int) (AL : List LV) (f : Nat) (c0 : Int) (W : World) : Prop where
  same : ∀ b, b < wb.heap.size → b ≠ g → W.heap[b]? = wb.heap[b]?
  below : Below w0.heap.size w0 W
  size : wb.heap.size ≤ W.heap.size
  row : RowAt W g 150 (finC A.length B.length 0 fa 1 1 (nextV pf pt pn pm) kb ga gn gc fr)
  own : OwnG lvK 132 W wb.heap.size (.slice ga gn gc) AL
  each : ∀ t, t < AL.length → Lst W (gd AL t).a (gd AL t).n (gd AL t).c (gd AL t).l ∧ My.Good (eq2 A B) A.length B.length (f + t) (gd AL t).low (gd AL t).l ∧ Comp (eq2 A B) A.length B.length (f + t) (gd AL t).low (gd AL t).l (c0 - 64 + t) (c0 + 64 - t)
  lt : g < wb.heap.size ∧ w0.heap.size ≤ g ∧ w0.heap.size ≤ wb.heap.size
/-- What a search left. -/
structure Base (w0 wb : World) (g pf pt pn pm pa pb kb : Nat) (A B : List Int) (aa ab : Option Addr) (ca cb : Nat) (fa : Option Addr) (k : Nat) : Prop where
  fin : FinAt wb g pf pt pn pm pa pb kb A B aa ab ca cb fa 1 1 none 0 0 0
  kept : KeptTo wb (eq2 A B) A.length B.length kb k (dist A B + 1)
  below : Below w0.heap.size w0 wb
  few : k ≤ 100000
  ge : w0.heap.size ≤ g
section
variable {w0 wb : World} {g pf pt pn pm pa pb kb : Nat} {A B : List Int} {aa ab : Option Addr} {ca cb : Nat} {fa ga : Option Addr} {gn gc : Nat} {fr : Int} {AL : List LV} {f k : Nat} {c0 : Int} {W W' : World}
theorem nextV_no (pf pt pn pm : Nat) : ∀ z, nextV pf pt pn pm ≠ .int .i32 z := fun z => by simp
theorem Runs.same {a : Option Addr} {n c : Nat} {l : List Int} (h : Runs wb a n c l) {t : TypeId} {cs : List Value} (hr : RowAt wb g t cs) (hn : NoR cs) (hs : ∀ b, b < wb.heap.size → b ≠ g → W.heap[b]? = wb.heap[b]?) : Runs W a n c l := by
  obtain ⟨h1, h2, h3, h4⟩ := h
  refine ⟨h1, h2, h3, ?_⟩
  rcases h4 with h4 | ⟨b, off, ha, hc⟩
  · exact .inl h4
  · exact .inr ⟨b, off, ha, fun j hj => (cell_same (hs b (World.block_lt_of_cell? _ _ (hc j hj)) (Runs.off hr hn (hc j hj)).symm)).trans (hc j hj)⟩
theorem Lst.same {a : Option Addr} {n c : Nat} {l : List Int} (h : Lst wb a n c l) {t : TypeId} {cs : List Value} (hr : RowAt wb g t cs) (hn : NoR cs) (ht : t ≠ 21) (hs : ∀ b, b < wb.heap.size → b ≠ g → W.heap[b]? = wb.heap[b]?) : Lst W a n c l := by
  refine ⟨fun b off e => ?_, h.runs.same hr hn hs, h.small, h.few⟩
  obtain ⟨cs', fr, h1⟩ := h.typed b off e
  refine ⟨cs', fr, (hs b (h.typed.lt e) (fun e2 => ?_)).trans h1⟩
  subst e2
  have hr2 : wb.heap[b]? = some (.cells cs.toArray t (0, 0)) := hr
  rw [hr2] at h1
  simp only [Option.some.injEq, Obj.cells.injEq] at h1
  exact ht h1.2.1
theorem Base.noR (_ : Base w0 wb g pf pt pn pm pa pb kb A B aa ab ca cb fa k) : NoR (finC A.length B.length 0 fa 1 1 (nextV pf pt pn pm) kb none 0 0 0) := noR_fin _ _ _ _ _ _ _ _ _ _ _ _ (nextV_no _ _ _ _)
theorem Base.keptAt (h : Base w0 wb g pf pt pn pm pa pb kb A B aa ab ca cb fa k) (hs : ∀ b, b < wb.heap.size → b ≠ g → W.heap[b]? = wb.heap[b]?) : KeptTo W (eq2 A B) A.length B.length kb k (dist A B + 1) := by
  have hne := h.fin.ne.2.2.2.2.2.2.1
  obtain ⟨D, h1, h2⟩ := h.kept
  have hlt := h1.lt
  obtain ⟨es, cl, h3, h4⟩ := h1
  exact ⟨D, ⟨es, cl, (hs kb hlt hne).trans h3, h4⟩, fun e he hl => by
    obtain ⟨low, b, off, k, c, l, e1, e2, e3⟩ := h2 e he hl
    exact ⟨low, b, off, k, c, l, e1, e2.same h.fin.row h.noR (by decide) hs, e3⟩⟩
theorem Ag.kept (h : Ag w0 wb g pf pt pn pm pa pb kb A B aa ab ca cb fa ga gn gc fr AL f c0 W) (hB : Base w0 wb g pf pt pn pm pa pb kb A B aa ab ca cb fa k) : KeptTo W (eq2 A B) A.length B.length kb k (dist A B + 1) := hB.keptAt h.same
theorem Ag.both (h : Ag w0 wb g pf pt pn pm pa pb kb A B aa ab ca cb fa ga gn gc fr AL f c0 W) (hB : Base w0 wb g pf pt pn pm pa pb kb A B aa ab ca cb fa k) : Both W g pf pt pn pm pa pb A B aa ab ca cb := by
  have hF := hB.fin
  obtain ⟨n1, n2, n3, n4, n5, n6, n7, _⟩ := hF.ne
  have c : ∀ {b : Nat} {v : Value}, wb.cell? ⟨b, 0, none⟩ = some v → b ≠ g → W.cell? ⟨b, 0, none⟩ = some v := fun hc hne => (cell_same (h.same _ (World.block_lt_of_cell? _ _ hc) hne)).trans hc
  exact ⟨⟨c hF.caught.n n3, c hF.caught.m n4, c hF.caught.a n5, c hF.caught.b n6, hF.caught.ra.same hF.row hB.noR h.same, hF.caught.rb.same hF.row hB.noR h.same⟩, c hF.f n1, c hF.t n2, h.row.cell 0 rfl, h.row.cell 1 rfl⟩
theorem Ag.on (h : Ag w0 wb g pf pt pn pm pa pb kb A B aa ab ca cb fa ga gn gc fr AL f c0 W) (hb : Below W.heap.size W W') : Ag w0 wb g pf pt pn pm pa pb kb A B aa ab ca cb fa ga gn gc fr AL f c0 W' :=
  ⟨fun b h1 h2 => (hb.block b (by have := h.size; omega)).trans (h.same b h1 h2), h.below.trans (hb.mono (by have := h.lt; have := h.size; omega)), by have := h.size; have := hb.size; omega, h.row.below hb, h.own.below hb, fun t ht => ⟨(h.each t ht).1.below hb, (h.each t ht).2⟩, h.lt⟩
/-- The row written: other lists, another number. -/
theorem Ag.make {fr0 : Int} {ga0 : Option Addr} {gn0 gc0 : Nat} (hsame : ∀ b, b < wb.heap.size → b ≠ g → W.heap[b]? = wb.heap[b]?) (hbelow : Below w0.heap.size w0 W) (hsize : wb.heap.size ≤ W.heap.size) (hrow : RowAt W g 150 (finC A.length B.length 0 fa 1 1 (nextV pf pt pn pm) kb ga0 gn0 gc0 fr0)) (hlt : g < wb.heap.size ∧ w0.heap.size ≤ g ∧ w0.heap.size ≤ wb.heap.size)
    {ga' : Option Addr} {gn' gc' : Nat} {fr' : Int} {AL' : List LV} {f' : Nat} {c0' : Int} (o : Nat) (u : Value)
    (hr : (finC A.length B.length 0 fa 1 1 (nextV pf pt pn pm) kb ga0 gn0 gc0 fr0).set o u = finC A.length B.length 0 fa 1 1 (nextV pf pt pn pm) kb ga' gn' gc' fr')
    (ho : OwnG lvK 132 W wb.heap.size (.slice ga' gn' gc') AL')
    (he : ∀ t, t < AL'.length → Lst W (gd AL' t).a (gd AL' t).n (gd AL' t).c (gd AL' t).l ∧ My.Good (eq2 A B) A.length B.length (f' + t) (gd AL' t).low (gd AL' t).l ∧ Comp (eq2 A B) A.length B.length (f' + t) (gd AL' t).low (gd AL' t).l (c0' - 64 + t) (c0' + 64 - t)) :
    Ag w0 wb g pf pt pn pm pa pb kb A B aa ab ca cb fa ga' gn' gc' fr' AL' f' c0' (W.setCell ⟨g, o, none⟩ u) := by
  refine ⟨fun b h1 h2 => (Below.heap_setCell _ _ _ _ h2).trans (hsame b h1 h2), hbelow.setCell (by show w0.heap.size ≤ g; omega) _, by rw [show (W.setCell ⟨g, o, none⟩ u).heap.size = W.heap.size by simp [World.setCell]]; exact hsize, ?_, ?_, fun t ht => ⟨(he t ht).1.row hrow (noR_fin _ _ _ _ _ _ _ _ _ _ _ _ (nextV_no _ _ _ _)) (by decide) u, (he t ht).2⟩, hlt⟩
  · have := hrow.set o u
    rw [hr] at this
    exact this
  · obtain ⟨⟨o1, o2⟩, o3⟩ := ho
    refine ⟨⟨o1, ?_⟩, o3⟩
    rcases o2 with o2 | ⟨b, cap, cur, hv, hb, hh, r⟩
    · exact .inl o2
    · refine .inr ⟨b, cap, cur, hv, hb, ?_, r⟩
      rw [Below.heap_setCell _ _ _ _ (by show b ≠ g; omega)]; exact hh
theorem Ag.set (h : Ag w0 wb g pf pt pn pm pa pb kb A B aa ab ca cb fa ga gn gc fr AL f c0 W) {ga' : Option Addr} {gn' gc' : Nat} {fr' : Int} {AL' : List LV} {f' : Nat} {c0' : Int} (o : Nat) (u : Value)
    (hr : (finC A.length B.length 0 fa 1 1 (nextV pf pt pn pm) kb ga gn gc fr).set o u = finC A.length B.length 0 fa 1 1 (nextV pf pt pn pm) kb ga' gn' gc' fr')
    (ho : OwnG lvK 132 W wb.heap.size (.slice ga' gn' gc') AL')
    (he : ∀ t, t < AL'.length → Lst W (gd AL' t).a (gd AL' t).n (gd AL' t).c (gd AL' t).l ∧ My.Good (eq2 A B) A.length B.length (f' + t) (gd AL' t).low (gd AL' t).l ∧ Comp (eq2 A B) A.length B.length (f' + t) (gd AL' t).low (gd AL' t).l (c0' - 64 + t) (c0' + 64 - t)) :
    Ag w0 wb g pf pt pn pm pa pb kb A B aa ab ca cb fa ga' gn' gc' fr' AL' f' c0' (W.setCell ⟨g, o, none⟩ u) := Ag.make h.same h.below h.size h.row h.lt o u hr ho he
/-- The row of lists grown. -/
theorem Ag.grown (h : Ag w0 wb g pf pt pn pm pa pb kb A B aa ab ca cb fa ga gn gc fr AL f c0 W) (hg : W.grownBy W' (Value.slice ga gn gc).ownBlock) :
    (∀ b, b < wb.heap.size → b ≠ g → W'.heap[b]? = wb.heap[b]?) ∧ Below w0.heap.size w0 W' ∧ wb.heap.size ≤ W'.heap.size ∧ RowAt W' g 150 (finC A.length B.length 0 fa 1 1 (nextV pf pt pn pm) kb ga gn gc fr) ∧ (∀ {a : Option Addr} {n c : Nat} {l : List Int}, Lst W a n c l → Lst W' a n c l) := by
  have hlt := h.lt
  have hown : ∀ k, (Value.slice ga gn gc).ownBlock = some k → wb.heap.size ≤ k := fun k hk => (h.own.lt k hk).1
  have hty : ∀ k, (Value.slice ga gn gc).ownBlock = some k → ∃ cur fr, W.heap[k]? = some (.cells cur 132 fr) := fun k hk => by
    obtain ⟨⟨_, o2⟩, _⟩ := h.own
    rcases o2 with ⟨hv, _⟩ | ⟨b, cap, cur, hv, hb, hh, r⟩
    · rw [hv] at hk; cases hk
    · rw [hv] at hk; cases hk; exact ⟨_, _, hh⟩
  have blk : ∀ b, b < W.heap.size → (∀ k, (Value.slice ga gn gc).ownBlock = some k → b ≠ k) → W'.heap[b]? = W.heap[b]? := fun b hb hne => hg.block b hb (fun e => hne b e.symm rfl)
  refine ⟨fun b h1 h2 => (blk b (by have := h.size; omega) (fun k hk => by have := hown k hk; omega)).trans (h.same b h1 h2), h.below.grown hg (by have := h.size; omega) (fun k hk => by have := hown k hk; omega), by have := h.size; have := hg.size; omega, ?_, fun {a n c l} hl => ?_⟩
  · have := blk g (by have := h.size; omega) (fun k hk => by have := hown k hk; omega)
    exact this.trans h.row
  · have key : ∀ b off, a = some ⟨b, off, none⟩ → W'.heap[b]? = W.heap[b]? := fun b off e => blk b (hl.typed.lt e) (fun k hk e2 => by
      obtain ⟨cs, fr, h1⟩ := hl.typed b off e
      obtain ⟨cur, fr2, h2⟩ := hty k hk
      rw [← e2, h1] at h2
      simp only [Option.some.injEq, Obj.cells.injEq] at h2
      exact absurd h2.2.1 (by decide))
    refine ⟨fun b off e => ?_, ?_, hl.small, hl.few⟩
    · obtain ⟨cs, fr, h1⟩ := hl.typed b off e
      exact ⟨cs, fr, (key b off e).trans h1⟩
    · obtain ⟨h1, h2, h3, h4⟩ := hl.runs
      refine ⟨h1, h2, h3, ?_⟩
      rcases h4 with h4 | ⟨b, off, ha, hc⟩
      · exact .inl h4
      · exact .inr ⟨b, off, ha, fun j hj => (cell_same (key b off ha)).trans (hc j hj)⟩
/-- Its lists are not the box for what is handed back. -/
theorem Ag.neBox (h : Ag w0 wb g pf pt pn pm pa pb kb A B aa ab ca cb fa ga gn gc fr AL f c0 W) (hne : AL ≠ []) {b : Nat} {t : TypeId} (hb : RowAt W b t (lstC 0 none 0 0)) : (Value.slice ga gn gc).ownBlock ≠ some b := by
  intro e
  have hpos : 0 < AL.length := List.length_pos_iff.2 hne
  have hn := h.own.len
  obtain ⟨gA, hga, _, _, _⟩ := h.own.row (by omega)
  subst hga
  have e2 : gA = b := Option.some.inj e
  subst e2
  have h1 := h.own.atG.at_ 0 (by omega) 1 (.slice (gd AL 0).a (gd AL 0).n (gd AL 0).c) rfl
  rw [Nat.zero_mul, Nat.zero_add] at h1
  have h2 := hb.cell 1 rfl
  rw [h2] at h1
  obtain ⟨b', off, hs⟩ := (h.each 0 hpos).1.some_ (h.each 0 hpos).2.1.pos
  rw [hs] at h1
  simp at h1
/-- The box for what is handed back is written. -/
theorem Ag.box (h : Ag w0 wb g pf pt pn pm pa pb kb A B aa ab ca cb fa ga gn gc fr AL f c0 W) (hne : AL ≠ []) {b : Nat} (hb : RowAt W b 132 (lstC 0 none 0 0)) (hg : W.grownBy W' (some b)) (hlt : wb.heap.size ≤ b) : Ag w0 wb g pf pt pn pm pa pb kb A B aa ab ca cb fa ga gn gc fr AL f c0 W' := by
  have hl := h.lt
  have hs := h.size
  refine ⟨fun k h1 h2 => (hg.block k (by omega) (fun e => by have := Option.some.inj e; omega)).trans (h.same k h1 h2), h.below.grown hg (by omega) (fun k hk => by cases hk; omega), by have := hg.size; omega, h.row.grown hg (fun e => by have := Option.some.inj e; omega), h.own.kept hg (.inr (h.neBox hne hb)), fun t ht => ⟨(h.each t ht).1.rows hb (noR_lst _ _ _ _) (by decide) hg, (h.each t ht).2⟩, hl⟩
end
#print axioms Ag.grown
end Go.Proofs.YtfoalaoanpbmeaaDoor
