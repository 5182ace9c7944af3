/-
  The list of so many edits, made again where it must be: walked.
-/
import Derived.Test.YtfoalaoanpbmeaaDoorGrp7
import Derived.Deep.RegionHeld
namespace Go.Proofs.YtfoalaoanpbmeaaDoor
open Go.RowKit Go.Maps My

theorem OwnG.off {α : Type} {K : Kind α} {E : TypeId} {w : World} {base : Nat} {v : Value} {L : List α} (h : OwnG K E w base v L) {g : Nat} (hg : g < base) (o : Nat) (u : Value) : OwnG K E (w.setCell ⟨g, o, none⟩ u) base v L := by
  obtain ⟨⟨o1, o2⟩, o3⟩ := h
  refine ⟨⟨o1, ?_⟩, o3⟩
  rcases o2 with o2 | ⟨b, cap, cur, hv, hb, hh, r⟩
  · exact .inl o2
  · refine .inr ⟨b, cap, cur, hv, hb, ?_, r⟩
    rw [Below.heap_setCell _ _ _ _ (by show b ≠ g; omega)]; exact hh
theorem nat_zero (n : Nat) : ((n : Int) == 0) = (n == 0) := by
  by_cases h : n = 0
  · subst h; rfl
  · rw [beq_eq_false_iff_ne.2 h, beq_eq_false_iff_ne.2 (by omega)]
/-- All but the finder's row and rows of lists is as it was. -/
structure Chg8 (g : Nat) (w w' : World) : Prop where
  size : w.heap.size ≤ w'.heap.size
  block : ∀ b, b < w.heap.size → b ≠ g → (∀ cur fr, w.heap[b]? ≠ some (.cells cur 132 fr)) → w'.heap[b]? = w.heap[b]?
theorem Chg8.of_below {g : Nat} {w w' : World} (h : Below w.heap.size w w') : Chg8 g w w' := ⟨h.size, fun b hb _ _ => h.block b hb⟩
theorem Chg8.trans {g : Nat} {w w1 w2 : World} (h1 : Chg8 g w w1) (h2 : Chg8 g w1 w2) : Chg8 g w w2 := ⟨Nat.le_trans h1.size h2.size, fun b hb hne ht => by
  have e1 := h1.block b hb hne ht
  exact (h2.block b (Nat.lt_of_lt_of_le hb h1.size) hne (fun cur fr e => ht cur fr (e1.symm.trans e))).trans e1⟩
theorem Chg8.set (g : Nat) (w : World) (o : Nat) (u : Value) : Chg8 g w (w.setCell ⟨g, o, none⟩ u) := ⟨by simp [World.setCell], fun b _ hne _ => Below.heap_setCell _ _ _ _ hne⟩
theorem Chg8.grown {g : Nat} {w w' : World} {base : Nat} {v : Value} {L : List LV} (h : OwnG lvK 132 w base v L) (hg : w.grownBy w' v.ownBlock) : Chg8 g w w' := ⟨hg.size, fun b hb _ ht => hg.block b hb (fun e => by
  obtain ⟨⟨_, o2⟩, _⟩ := h
  rcases o2 with ⟨hv, _⟩ | ⟨b', cap, cur, hv, _, hh, _⟩
  · rw [hv] at e; cases e
  · rw [hv] at e
    cases e
    exact ht _ _ hh)⟩
/-- What is ready for the next question, of so many edits from a diagonal. -/
def Rdy (AL : List LV) (f e0 : Nat) (c0 q : Int) (ed : Nat) : Prop := f % 64 = 0 ∧ f ≤ e0 ∧ e0 ≤ f + 63 ∧ ed ≤ e0 + 1 ∧ q - c0 ≤ (e0 : Int) + 1 - ed ∧ c0 - q ≤ (e0 : Int) + 1 - ed ∧ AL ≠ []
/-- What list hands back. -/
def ListIs (w0 wb : World) (g pf pt pn pm pa pb kb : Nat) (A B : List Int) (aa ab : Option Addr) (ca cb : Nat) (fa : Option Addr) (e : Nat) (q : Int) (w : World) (en : Ending) (w' : World) : Prop :=
  ∃ (x : LV) (ga : Option Addr) (gn gc f e0 : Nat) (c0 : Int) (AL : List LV), en = .returned (.agg #[.int .i64 x.low, .slice x.a x.n x.c]) ∧ Ag w0 wb g pf pt pn pm pa pb kb A B aa ab ca cb fa ga gn gc f AL f c0 w' ∧ Rdy AL f e0 c0 q (e + 1) ∧ f = e - e % 64 ∧
    Lst w' x.a x.n x.c x.l ∧ My.Good (eq2 A B) A.length B.length e x.low x.l ∧ (∃ X Y, Comp (eq2 A B) A.length B.length e x.low x.l X Y ∧ X ≤ q - 1 ∧ q - 1 ≤ Y) ∧ Chg8 g w w'
theorem ready_stepL {ops : Array Oper} {o : Oper} {a : Act} {w : World} {K : Act → World → Prop} {Q : Exit → Act → World → Prop} (h : o.wp Tryd.prog a w K Q) (hw : Region.wanted o (yielded ops a.tmps) = true := by rfl) : if Region.wanted o (yielded ops a.tmps) = true then o.wp Tryd.prog a w K Q else K (a.put o.dst undef) w := by
  rw [if_pos hw]; exact h
/-- One list more. -/
theorem list_leaf {w0 wb w : World} {g pf pt pn pm pa pb kb : Nat} {A B : List Int} {aa ab : Option Addr} {ca cb : Nat} {fa ga : Option Addr} {gc F e0 e j : Nat} {AL : List LV} {c0 q : Int} {x : LV} (hj : AL.length = j + 1) (hR : Rdy AL F e0 c0 q (e + 1)) (hD : F + j < cd (eq2 A B) A.length ((A.length : Int) - B.length))
    (HX : My.Good (eq2 A B) A.length B.length (F + j) x.low x.l ∧ Comp (eq2 A B) A.length B.length (F + j) x.low x.l (c0 - 64 + j) (c0 + 64 - j))
    (low' : Int) (l' : List Int) (a' : Option Addr) (n' c' : Nat) (W8 : World) (hA : Ag w0 wb g pf pt pn pm pa pb kb A B aa ab ca cb fa ga (j + 1) gc F AL F c0 W8) (hL : Lst W8 a' n' c' l') (hN : My.Next (eq2 A B) A.length B.length x.low x.l low' l') (hC : Chg8 g w W8) (hQ : RowAt W8 w.heap.size 132 (lstC 0 none 0 0))
    (a9 : Option Addr) (c9 : Nat) (w9 : World) (ho : OwnG lvK 132 w9 wb.heap.size (.slice a9 (j + 2) c9) (AL ++ [⟨low', a', n', c', l'⟩])) (hg : W8.grownBy w9 (Value.slice ga (j + 1) gc).ownBlock) :
    ∃ (ga : Option Addr) (gc : Nat) (AL : List LV), Hid (Ag w0 wb g pf pt pn pm pa pb kb A B aa ab ca cb fa ga (j + 2) gc F AL F c0 (w9.setCell ⟨g, 6, none⟩ (.slice a9 (j + 2) c9))) ∧ Hid (Rdy AL F e0 c0 q (e + 1)) ∧ Hid (Chg8 g w (w9.setCell ⟨g, 6, none⟩ (.slice a9 (j + 2) c9))) ∧ Hid (RowAt (w9.setCell ⟨g, 6, none⟩ (.slice a9 (j + 2) c9)) w.heap.size 132 (lstC 0 none 0 0)) := by
  obtain ⟨s1, s2, s3, s4, s5⟩ := hA.grown hg
  have hne : AL ≠ [] := hR.2.2.2.2.2.2
  have hgood := hN.good HX.1 hD
  have hcomp := hN.comp HX.1 hD HX.2
  refine ⟨a9, c9, AL ++ [⟨low', a', n', c', l'⟩], Lib.hid (Ag.make s1 s2 s3 s4 hA.lt 6 _ rfl ho (fun t ht => ?_)), Lib.hid ?_, Lib.hid ((hC.trans (Chg8.grown hA.own hg)).trans (Chg8.set g _ 6 _)), Lib.hid ?_⟩
  · rw [List.length_append, hj, List.length_cons, List.length_nil] at ht
    by_cases htj : t < AL.length
    · have e1 : gd (AL ++ [⟨low', a', n', c', l'⟩]) t = gd AL t := by
        unfold gd
        simp only [List.getD_eq_getElem?_getD]
        rw [List.getElem?_append_left htj]
      rw [e1]
      exact ⟨s5 (hA.each t htj).1, (hA.each t htj).2⟩
    · obtain rfl : t = j + 1 := by omega
      have e1 : gd (AL ++ [⟨low', a', n', c', l'⟩]) (j + 1) = ⟨low', a', n', c', l'⟩ := by
        unfold gd
        simp only [List.getD_eq_getElem?_getD]
        rw [List.getElem?_append_right (by omega), hj, Nat.sub_self]; rfl
      rw [e1]
      refine ⟨s5 hL, by rw [show F + (j + 1) = F + j + 1 by omega]; exact hgood, ?_⟩
      rw [show F + (j + 1) = F + j + 1 by omega, show c0 - 64 + ((j + 1 : Nat) : Int) = c0 - 64 + j + 1 by omega, show c0 + 64 - ((j + 1 : Nat) : Int) = c0 + 64 - j - 1 by omega]
      exact hcomp
  · obtain ⟨r1, r2, r3, r4, r5, r6, _⟩ := hR
    exact ⟨r1, r2, r3, r4, r5, r6, by simp⟩
  · refine (hQ.grown hg (hA.neBox hne hQ).symm).other (show w.heap.size ≠ g from fun e => ?_) _
    subst e
    have h1 := hQ.cell 0 rfl
    have h2 : RowAt W8 w.heap.size 150 _ := hA.row
    have h3 : W8.heap[w.heap.size]? = some (.cells _ 150 (0, 0)) := h2
    have h4 : W8.heap[w.heap.size]? = some (.cells _ 132 (0, 0)) := hQ
    rw [h3] at h4
    simp only [Option.some.injEq, Obj.cells.injEq] at h4
    exact absurd h4.2.1 (by decide)
set_option maxRecDepth 100000 in
set_option maxHeartbeats 4000000 in
theorem list_any (w0 wb : World) (g pf pt pn pm pa pb kb : Nat) (A B : List Int) (aa ab : Option Addr) (ca cb : Nat) (fa : Option Addr) (k : Nat) (hB : Base w0 wb g pf pt pn pm pa pb kb A B aa ab ca cb fa k) (hA4 : A.length ≤ 4096) (hB4 : B.length ≤ 4096)
    (ga : Option Addr) (gn gc : Nat) (fr : Int) (AL : List LV) (f e0 : Nat) (c0 : Int) (w : World) (hag : Ag w0 wb g pf pt pn pm pa pb kb A B aa ab ca cb fa ga gn gc fr AL f c0 w) (e : Nat) (x q : Int) (hp : Pt A.length B.length x q) (hF : Free (eq2 A B) A.length B.length x q) (he : cd (eq2 A B) x q = e + 1)
    (hr : AL = [] ∨ (fr = (f : Int) ∧ Rdy AL f e0 c0 q (e + 1))) (hD : e < dist A B) :
    Calls Tryd.prog 77 #[PtB g, .int .i64 e, .int .i64 q] w (ListIs w0 wb g pf pt pn pm pa pb kb A B aa ab ca cb fa e q w) := by
  obtain ⟨F, hF64⟩ : ∃ F, e - e % 64 = F := ⟨_, rfl⟩
  have hFI : (e : Int) - (e : Int) % 64 = (F : Int) := by omega
  have HB := Lib.hid hB
  have HA := Lib.hid hag
  have HP := Lib.hid hp
  have HFr := Lib.hid hF
  have HE := Lib.hid he
  have HD := Lib.hid hD
  have HR := Lib.hid hr
  have HFF := Lib.hid hF64
  have HLN := Lib.hid hag.own.len
  have HDB := Lib.hid (show dist A B ≤ 8192 by have := dist_bd A B; omega)
  have e8 : (e : Int) ≤ 8192 := by have := HDB.out; omega
  have e0' : (0 : Int) ≤ (e : Int) := by omega
  have F8 : (F : Int) ≤ 8192 := by omega
  have hwF : IntKind.i64.wrap (F : Int) = (F : Int) := IntWalk.i64_in _ (by omega)
  have c6 := hag.row.cell 6 rfl
  have c7 := hag.row.cell 7 rfl
  obtain ⟨z, hz⟩ : ∃ z, (gn == 0) = z := ⟨_, rfl⟩
  obtain ⟨z2, hz2⟩ : ∃ z, (fr != (F : Int)) = z := ⟨_, rfl⟩
  have hzI : ((gn : Int) == 0) = z := by rw [← hz]; exact nat_zero gn
  have HZ := Lib.hid hz
  have HZ2 := Lib.hid hz2
  clear hB hag hp hF he hD hr hF64
  go_enter Tryd.func77, Tryd.ntmps77
  have HWB := Lib.hid (show wb.heap.size ≤ w.heap.size from HA.out.size)
  obtain ⟨bb, hbb⟩ : ∃ b, (z || z2) = b := ⟨_, rfl⟩
  have HBB := Lib.hid hbb
  clear hbb
  go_upto_region 2 with (refine alloc_row rfl 132 (lstC 0 none 0 0) rfl (by intro w; kernel_rfl) ?_; intro w1 hr1 hb1 hs1; have HB1 := Lib.hid hb1; have A1 := Lib.hid (HA.out.on hb1); have Q1 := Lib.hid hr1; replace c6 := A1.out.row.cell 6 rfl; replace c7 := A1.out.row.cell 7 rfl; clear hr1 hb1 hs1)
  go_cut [25] from 12 to 24 (fun v25 W => v25 = .bool bb ∧ W = w1)
  case first =>
    cases z <;> cases z2
    all_goals
      go_wp2_with fail
      go_meet
      case rel => exact ⟨by rw [← HBB.out]; rfl, rfl⟩
  case rest =>
    obtain ⟨rfl, rfl⟩ := hcut
    clear hz hz2 hzI hFI c6 c7
    go_upto_if 25 with (fail)
    go_cut [] from 26 to 41 (fun W => ∃ (ga : Option Addr) (gn gc e0 : Nat) (c0 : Int) (AL : List LV), Hid (Ag w0 wb g pf pt pn pm pa pb kb A B aa ab ca cb fa ga gn gc F AL F c0 W) ∧ Hid (Rdy AL F e0 c0 q (e + 1)) ∧ Hid (Chg8 g w W) ∧ Hid (RowAt W w.heap.size 132 (lstC 0 none 0 0)))
    case first =>
      cases bb with
      | false =>
        have h1 := HBB.out
        have h2 : z = false ∧ z2 = false := by cases z <;> cases z2 <;> simp at h1 ⊢
        have h3 : fr = F := by have := HZ2.out; rw [h2.2] at this; simpa using this
        have h4 : AL ≠ [] := by
          have h5 := HZ.out; rw [h2.1] at h5
          intro h6
          have h7 := HLN.out
          rw [h6] at h7
          have : gn = 0 := by simpa using h7.symm
          rw [this] at h5; simp at h5
        have h5 : Rdy AL f e0 c0 q (e + 1) ∧ f = F := by
          rcases HR.out with h | ⟨h6, h7⟩
          · exact absurd h h4
          · exact ⟨h7, by omega⟩
        obtain ⟨h5, rfl⟩ := h5
        subst h3
        have HH := Lib.hid h5
        clear h1 h2 h4 h5
        go_wp2_with fail
        go_meet
        case rel => exact ⟨ga, gn, gc, e0, c0, AL, A1, HH, Lib.hid (Chg8.of_below HB1.out), Q1⟩
      | true =>
        have c5 := A1.out.row.cell 5 rfl
        have KP := Lib.hid (A1.out.kept HB.out)
        have HF64 := Lib.hid (show F % 64 = 0 ∧ F < dist A B + 1 ∧ F ≤ e ∧ e ≤ F + 63 by have := HFF.out; have := HD.out; exact ⟨by omega, by omega, by omega, by omega⟩)
        have hq := HP.out
        have bq : -8192 ≤ q ∧ q ≤ 8192 := by have := hq.x0; have := hq.xn; have := hq.y0; have := hq.ym; omega
        clear hq
        go_wp2_with (first
          | ((with_reducible show wpList _ _ _ (⟨some 34, _, _, _, _, _⟩ :: _) _ _); go_must (refine wl_kept rfl _ _ rfl KP.out rfl F (by omega) rfl HF64.out.1 HF64.out.2.1 ?_); intro low b off ln c l hl hG hC
             have HL2 := Lib.hid hl; have HG2 := Lib.hid hG; have HC2 := Lib.hid hC; clear hl hG hC)
          | (go_at_call 97
             obtain ⟨x', q', hn1, hn2, hn3⟩ := kept_near F HP.out HFr.out (by have := HE.out; have := HF64.out; omega) (by have := HE.out; have := HF64.out; omega) HC2.out
             have hnr := near_room hn1 hn2 hn3
             have hlw := HG2.out.lows
             have NG := Lib.hid (near_good HG2.out hn1 hn2 hn3)
             have NC := Lib.hid (near_comp HC2.out hn1 hn2 hn3)
             have hps := HG2.out.pos
             have HNE := Lib.hid (near_any low q (some ⟨b, off, none⟩) ln c l wc HL2.out (by omega) (by omega) bq.1 bq.2 hnr.1 hnr.2.1 hnr.2.2)
             clear hn1 hn2 hn3 hnr hlw hps
             (with_reducible refine HNE.out.mono ?_); rintro en w4 ⟨a4, n4, c4, rfl, hl4, hb4⟩
             have A4 := Lib.hid (A1.out.on hb4)
             have B5 := Lib.hid (show Below w4.heap.size w4 (w4.alloc (.cells #[.int .i64 (low + 2 * nearA low q), .slice a4 n4 c4] 132)) from (Below.refl _ _).alloc (Nat.le_refl _) _)
             have A5 := Lib.hid (A4.out.on B5.out)
             have BW := Lib.hid (HB1.out.trans ((hb4.trans (B5.out.mono hb4.size)).mono HB1.out.size))
             have Q5 := Lib.hid ((Q1.out.below hb4).below B5.out)
             have L5 := Lib.hid (hl4.below B5.out)
             have h7 := A5.out.row.cell 7 rfl
             have f7 := A5.out.row.free 7
             have R5 := Lib.hid (A5.out.row.set 7 (.int .i64 (F : Int)))
             have h6 := R5.out.cell 6 rfl
             have f6 := R5.out.free 6
             clear hl4 hb4 c5))
        go_meet
        case rel =>
          have A6 := A5.out.set (fr' := (F : Int)) 7 (.int .i64 (F : Int)) rfl A5.out.own A5.out.each
          have hz := A4.out.size
          have hg := A5.out.lt.1
          have own1 : OwnG lvK 132 ((w4.alloc (.cells #[.int .i64 (low + 2 * nearA low q), .slice a4 n4 c4] 132)).setCell ⟨g, 7, none⟩ (.int .i64 (F : Int))) wb.heap.size (.slice (some ⟨w4.heap.size, 0, none⟩) 1 1) [⟨low + 2 * nearA low q, a4, n4, c4, nearL low l q⟩] :=
            OwnG.off (OwnG.mono ⟨World.ownsRow_lit w4 #[.int .i64 (low + 2 * nearA low q), .slice a4 n4 c4] 1 (Nat.le_refl _) (by decide) rfl, fun _ _ => trivial⟩ hz) hg 7 _
          refine ⟨_, _, _, e, q, _, Lib.hid (A6.set (AL' := [⟨low + 2 * nearA low q, a4, n4, c4, nearL low l q⟩]) (f' := F) (c0' := q) 6 _ rfl own1 (fun t ht => ?_)), Lib.hid ⟨HF64.out.1, HF64.out.2.2.1, HF64.out.2.2.2, Nat.le_refl _, by omega, by omega, by simp⟩, Lib.hid ?_, Lib.hid ?_⟩
          · obtain rfl : t = 0 := by simpa using ht
            refine ⟨L5.out.row A5.out.row (noR_fin _ _ _ _ _ _ _ _ _ _ _ _ (nextV_no _ _ _ _)) (by decide) _, NG.out, ?_⟩
            have := NC.out
            rwa [show q - 64 = q - 64 + ((0 : Nat) : Int) by omega, show q + 64 = q + 64 - ((0 : Nat) : Int) by omega] at this
          · exact ((Chg8.of_below BW.out).trans (Chg8.set g _ 7 _)).trans (Chg8.set g _ 6 _)
          · exact (Q5.out.other (show w.heap.size ≠ g by have := HA.out.size; omega) _).other (show w.heap.size ≠ g by have := HA.out.size; omega) _
    case rest =>
      obtain ⟨ga2, gn2, gc2, e2, c2, AL2, A2, R2, C2, Q2⟩ := hcut
      clear A1 Q1 HB1 HBB HZ HZ2 HA HR HLN
      go_wp2_with fail
      go_loopg [] (e + 1 - AL2.length) (fun gh W => ∃ (ga : Option Addr) (gn gc e0 : Nat) (c0 : Int) (AL : List LV), Hid (gh = e + 1 - AL.length) ∧ Hid (Ag w0 wb g pf pt pn pm pa pb kb A B aa ab ca cb fa ga gn gc F AL F c0 W) ∧ Hid (Rdy AL F e0 c0 q (e + 1)) ∧ Hid (Chg8 g w W) ∧ Hid (RowAt W w.heap.size 132 (lstC 0 none 0 0)))
      case atStart => exact ⟨ga2, gn2, gc2, e2, c2, AL2, Lib.hid rfl, A2, R2, C2, Q2⟩
      case round =>
        obtain ⟨ga3, gn3, gc3, e3, c3, AL3, HGH, A3, R3, C3, Q3⟩ := hrel
        have hln := A3.out.own.len
        have HLN := Lib.hid hln
        have c6 := A3.out.row.cell 6 rfl
        have HEF := Lib.hid (show (e : Int) - (F : Int) = ((e - F : Nat) : Int) ∧ F ≤ e ∧ e ≤ F + 63 by have := HFF.out; exact ⟨by omega, by omega, by omega⟩)
        obtain ⟨d, hd⟩ : ∃ d, e - F = d := ⟨_, rfl⟩
        have HDd := Lib.hid hd
        have hdI : (e : Int) - (F : Int) = (d : Int) := by rw [HEF.out.1, hd]
        have hwd : IntKind.i64.wrap (d : Int) = (d : Int) := IntWalk.i64_in _ (by have := HEF.out; omega)
        have hpos := Lib.hid (show 0 < AL3.length from List.length_pos_iff.2 R3.out.2.2.2.2.2.2)
        clear hln hd
        by_cases hc : gn3 ≤ d
        · have hcb : decide (gn3 ≤ d) = true := by simpa using hc
          have hcI : (gn3 : Int) ≤ (d : Int) := by omega
          have HC := Lib.hid hc
          obtain ⟨j, hj⟩ : ∃ j, gn3 = j + 1 := ⟨gn3 - 1, by have := hpos.out; have := HLN.out; omega⟩
          subst hj
          obtain ⟨b3, o3, rfl⟩ := A3.out.own.atG.some_ (Nat.succ_pos j)
          have hx := A3.out.own.atG.at_ j (Nat.lt_succ_self j)
          have HX := Lib.hid (A3.out.each j (by rw [HLN.out]; exact Nat.lt_succ_self j))
          obtain ⟨x, hxg⟩ : ∃ x, gd AL3 j = x := ⟨_, rfl⟩
          rw [hxg] at hx HX
          have c4 := A3.out.row.cell 4 rfl
          have x0 : wr.cell? ⟨b3, o3 + j * 2, none⟩ = some (.int .i64 x.low) := hx 0 (.int .i64 x.low) rfl
          have x1 : wr.cell? ⟨b3, o3 + j * 2 + 1, none⟩ = some (.slice x.a x.n x.c) := hx 1 (.slice x.a x.n x.c) rfl
          have j6 : (j : Int) < (j : Int) + 1 := by omega
          have j1 : ((j + 1 : Nat) : Int) - 1 = (j : Int) := by omega
          have j2 : IntKind.i64.wrap (j : Int) = (j : Int) := IntWalk.i64_in _ (by have := HEF.out; have := HDd.out; omega)
          have j3 : (j : Int) < ((j + 1 : Nat) : Int) := by omega
          have NX := Lib.hid (fun W (hb : Below wr.heap.size wr W) => next_any A B aa ab ca cb g pf pt pn pm pa pb x.low x.a x.n x.c x.l (F + j) W ((A3.out.both HB.out).below hb) hA4 hB4 (HX.out.1.below hb) HX.out.2.1 (by rw [dist_cd]; have := HD.out; have := HEF.out; have := HDd.out; have := HC.out; omega))
          clear hx hxg hc
          go_wp2_with fail
          have j4 : IntKind.i64.wrap ((j : Int) + 1 - 1) = (j : Int) := by rw [show (j : Int) + 1 - 1 = (j : Int) by omega]; exact j2
          have j5 : (j : Int) + 1 - 1 = (j : Int) := by omega
          have LEN48 := Lib.hid (show (AL3.length + 1) * (32 + 1) ≤ 140737488355328 by have := HLN.out; have := HEF.out; have := HDd.out; have := HC.out; omega)
          have LEN1 := Lib.hid (show j + 2 = AL3.length + 1 by have := HLN.out; omega)
          have LEAF := Lib.hid (fun low' l' a' n' c' W8 => list_leaf (w := w) (HX := HX.out.2) (w0 := w0) (wb := wb) (g := g) (pf := pf) (pt := pt) (pn := pn) (pm := pm) (pa := pa) (pb := pb) (kb := kb) (aa := aa) (ab := ab) (ca := ca) (cb := cb) (fa := fa) (ga := some ⟨b3, o3, none⟩) (gc := gc3) (F := F) (AL := AL3) (c0 := c3) (hD := by rw [dist_cd]; have := HD.out; have := HEF.out; have := HDd.out; have := HC.out; omega) (j := j) (hj := HLN.out) (e0 := e3) (hR := R3.out) low' l' a' n' c' W8)
          refine wp_region_held_drew (S := fun W => W.cell? ⟨g, 4, none⟩ = some (nextV pf pt pn pm)) (by kernel_rfl) c4 (fun hHeld => ?_)
          refine wpAnyH_take (i := 0) (oi := ⟨some 51, .move (.tmp 0), _, _, _, _⟩) (v := (PtB g)) rfl (by kernel_rfl) (by kernel_rfl) (by kernel_rfl) (fun _ _ _ h => h) (Or.inl ⟨by rfl, fun W hW => by go_simp⟩) (by assumption) ?_
          simp only [Act.put, List.setIfInBounds_toArray, List.set_cons_zero, List.set_cons_succ]
          refine wpAnyH_take (i := 1) (oi := ⟨some 52, .move (.tmp 0), _, _, _, _⟩) (v := (PtB g)) rfl (by kernel_rfl) (by kernel_rfl) (by kernel_rfl) (fun _ _ _ h => h) (Or.inl ⟨by rfl, fun W hW => by go_simp⟩) (by assumption) ?_
          simp only [Act.put, List.setIfInBounds_toArray, List.set_cons_zero, List.set_cons_succ]
          refine wpAnyH_take (i := 2) (oi := ⟨some 53, .nilCheck (.tmp 52), _, _, _, _⟩) (v := (.pointer (some ⟨g, 0, none⟩))) rfl (by kernel_rfl) (by kernel_rfl) (by kernel_rfl) (fun _ _ _ h => h) (Or.inl ⟨by rfl, fun W hW => by go_simp⟩) (by assumption) ?_
          simp only [Act.put, List.setIfInBounds_toArray, List.set_cons_zero, List.set_cons_succ]
          refine wpAnyH_take (i := 3) (oi := ⟨some 54, .fieldAddr 150 (.tmp 53) 5, _, _, _, _⟩) (v := (.pointer (some ⟨g, 6, none⟩))) rfl (by kernel_rfl) (by kernel_rfl) (by kernel_rfl) (fun _ _ _ h => h) (Or.inl ⟨by rfl, fun W hW => by go_simp⟩) (by assumption) ?_
          simp only [Act.put, List.setIfInBounds_toArray, List.set_cons_zero, List.set_cons_succ]
          refine wpAnyH_take (i := 5) (oi := ⟨some 56, .move (.tmp 0), _, _, _, _⟩) (v := (PtB g)) rfl (by kernel_rfl) (by kernel_rfl) (by kernel_rfl) (fun _ _ _ h => h) (Or.inl ⟨by rfl, fun W hW => by go_simp⟩) (by assumption) ?_
          simp only [Act.put, List.setIfInBounds_toArray, List.set_cons_zero, List.set_cons_succ]
          refine wpAnyH_take (i := 6) (oi := ⟨some 57, .nilCheck (.tmp 56), _, _, _, _⟩) (v := (.pointer (some ⟨g, 0, none⟩))) rfl (by kernel_rfl) (by kernel_rfl) (by kernel_rfl) (fun _ _ _ h => h) (Or.inl ⟨by rfl, fun W hW => by go_simp⟩) (by assumption) ?_
          simp only [Act.put, List.setIfInBounds_toArray, List.set_cons_zero, List.set_cons_succ]
          refine wpAnyH_take (i := 7) (oi := ⟨some 58, .fieldAddr 150 (.tmp 57) 3, _, _, _, _⟩) (v := (.pointer (some ⟨g, 4, none⟩))) rfl (by kernel_rfl) (by kernel_rfl) (by kernel_rfl) (fun _ _ _ h => h) (Or.inl ⟨by rfl, fun W hW => by go_simp⟩) (by assumption) ?_
          simp only [Act.put, List.setIfInBounds_toArray, List.set_cons_zero, List.set_cons_succ]
          refine wpAnyH_take (i := 8) (oi := ⟨some 59, .load 147 (.tmp 58), _, _, _, _⟩) (v := (nextV pf pt pn pm)) rfl (by kernel_rfl) (by kernel_rfl) (by kernel_rfl) (fun _ _ _ h => h) (Or.inl ⟨by rfl, fun W hW => by have hcell := hW; go_simp⟩) (by assumption) ?_
          simp only [Act.put, List.setIfInBounds_toArray, List.set_cons_zero, List.set_cons_succ]
          refine wpAnyH_take (i := 9) (oi := ⟨some 60, .move (.tmp 0), _, _, _, _⟩) (v := (PtB g)) rfl (by kernel_rfl) (by kernel_rfl) (by kernel_rfl) (fun _ _ _ h => h) (Or.inl ⟨by rfl, fun W hW => by go_simp⟩) (by assumption) ?_
          simp only [Act.put, List.setIfInBounds_toArray, List.set_cons_zero, List.set_cons_succ]
          refine wpAnyH_take (i := 10) (oi := ⟨some 61, .nilCheck (.tmp 60), _, _, _, _⟩) (v := (.pointer (some ⟨g, 0, none⟩))) rfl (by kernel_rfl) (by kernel_rfl) (by kernel_rfl) (fun _ _ _ h => h) (Or.inl ⟨by rfl, fun W hW => by go_simp⟩) (by assumption) ?_
          simp only [Act.put, List.setIfInBounds_toArray, List.set_cons_zero, List.set_cons_succ]
          refine wpAnyH_take (i := 11) (oi := ⟨some 62, .fieldAddr 150 (.tmp 61) 5, _, _, _, _⟩) (v := (.pointer (some ⟨g, 6, none⟩))) rfl (by kernel_rfl) (by kernel_rfl) (by kernel_rfl) (fun _ _ _ h => h) (Or.inl ⟨by rfl, fun W hW => by go_simp⟩) (by assumption) ?_
          simp only [Act.put, List.setIfInBounds_toArray, List.set_cons_zero, List.set_cons_succ]
          refine wpAnyH_take (i := 13) (oi := ⟨some 64, .move (.tmp 0), _, _, _, _⟩) (v := (PtB g)) rfl (by kernel_rfl) (by kernel_rfl) (by kernel_rfl) (fun _ _ _ h => h) (Or.inl ⟨by rfl, fun W hW => by go_simp⟩) (by assumption) ?_
          simp only [Act.put, List.setIfInBounds_toArray, List.set_cons_zero, List.set_cons_succ]
          refine wpAnyH_take (i := 14) (oi := ⟨some 65, .nilCheck (.tmp 64), _, _, _, _⟩) (v := (.pointer (some ⟨g, 0, none⟩))) rfl (by kernel_rfl) (by kernel_rfl) (by kernel_rfl) (fun _ _ _ h => h) (Or.inl ⟨by rfl, fun W hW => by go_simp⟩) (by assumption) ?_
          simp only [Act.put, List.setIfInBounds_toArray, List.set_cons_zero, List.set_cons_succ]
          refine wpAnyH_take (i := 15) (oi := ⟨some 66, .fieldAddr 150 (.tmp 65) 5, _, _, _, _⟩) (v := (.pointer (some ⟨g, 6, none⟩))) rfl (by kernel_rfl) (by kernel_rfl) (by kernel_rfl) (fun _ _ _ h => h) (Or.inl ⟨by rfl, fun W hW => by go_simp⟩) (by assumption) ?_
          simp only [Act.put, List.setIfInBounds_toArray, List.set_cons_zero, List.set_cons_succ]
          refine wpAnyH_ready (rs := [4, 12, 16]) (by kernel_rfl) (by simp) ?_
          refine (AllReadyH.cons (o := ⟨some 55, .load 148 (.tmp 54), _, _, _, _⟩) rfl (fun K hK => ?_) (AllReadyH.cons (o := ⟨some 63, .load 148 (.tmp 62), _, _, _, _⟩) rfl (fun K hK => ?_) (AllReadyH.cons (o := ⟨some 67, .load 148 (.tmp 66), _, _, _, _⟩) rfl (fun K hK => ?_) AllReadyH.nil)))
          ·
            go_simp
            refine hK.out _ _ c4 (fun hHeld => ?_)
            clear hK K
            refine wpAnyH_ready (rs := [12, 16]) (by kernel_rfl) (by simp) ?_
            refine (AllReadyH.cons (o := ⟨some 63, .load 148 (.tmp 62), _, _, _, _⟩) rfl (fun K hK => ?_) (AllReadyH.cons (o := ⟨some 67, .load 148 (.tmp 66), _, _, _, _⟩) rfl (fun K hK => ?_) AllReadyH.nil))
            ·
              go_simp
              refine hK.out _ _ c4 (fun hHeld => ?_)
              clear hK K
              refine wpAnyH_ready (rs := [16]) (by kernel_rfl) (by simp) ?_
              refine (AllReadyH.cons (o := ⟨some 67, .load 148 (.tmp 66), _, _, _, _⟩) rfl (fun K hK => ?_) AllReadyH.nil)
              ·
                go_simp
                refine hK.out _ _ c4 (fun hHeld => ?_)
                clear hK K
                refine wpAnyH_take (i := 17) (oi := ⟨some 68, .call { callee := .builtin .len, args := #[(.tmp 67)], argTypes := #[148] }, _, _, _, _⟩) (v := (.int .i64 ((j + 1 : Nat) : Int))) rfl (by kernel_rfl) (by kernel_rfl) (by kernel_rfl) (fun _ _ _ h => h) (Or.inl ⟨by rfl, fun W hW => by go_simp⟩) (by assumption) ?_
                simp only [Act.put, List.setIfInBounds_toArray, List.set_cons_zero, List.set_cons_succ]
                refine wpAnyH_take (i := 18) (oi := ⟨some 69, .binOp .sub 3 (.tmp 68) (.const (.int .i64 1)) 3, _, _, _, _⟩) (v := (.int .i64 (j : Int))) rfl (by kernel_rfl) (by kernel_rfl) (by kernel_rfl) (fun _ _ _ h => h) (Or.inl ⟨by rfl, fun W hW => by go_simp⟩) (by assumption) ?_
                simp only [Act.put, List.setIfInBounds_toArray, List.set_cons_zero, List.set_cons_succ]
                refine wpAnyH_take (i := 19) (oi := ⟨some 70, .indexAddr 148 (.tmp 63) (.tmp 69), _, _, _, _⟩) (v := (.pointer (some ⟨b3, o3 + j * 2, none⟩))) rfl (by kernel_rfl) (by kernel_rfl) (by kernel_rfl) (fun _ _ _ h => h) (Or.inl ⟨by rfl, fun W hW => by go_simp⟩) (by assumption) ?_
                simp only [Act.put, List.setIfInBounds_toArray, List.set_cons_zero, List.set_cons_succ]
                refine wpAnyH_ready (rs := [20]) (by kernel_rfl) (by simp) ?_
                refine (AllReadyH.cons (o := ⟨some 71, .load 132 (.tmp 70), _, _, _, _⟩) rfl (fun K hK => ?_) AllReadyH.nil)
                ·
                  go_simp
                  refine hK.out _ _ c4 (fun hHeld => ?_)
                  clear hK K
                  refine wpAnyH_ready (rs := [21]) (by kernel_rfl) (by simp) ?_
                  refine (AllReadyH.cons (o := ⟨some 72, .call { callee := .value (.tmp 59), args := #[(.tmp 71)], argTypes := #[132] }, _, _, _, _⟩) rfl (fun K hK => ?_) AllReadyH.nil)
                  ·
                    go_simp
                    go_at_call 94; (refine (NX.out _ (below_drewN wr 1)).mono ?_); rintro en w7 ⟨low', l', a', n', c', rfl, hl', hN', hb7⟩
                    have A7 := Lib.hid (A3.out.on ((below_drewN wr 1).trans hb7))
                    have B8 := Lib.hid (show Below w7.heap.size w7 (w7.alloc (.cells #[.int .i64 low', .slice a' n' c'] 132)) from (Below.refl _ _).alloc (Nat.le_refl _) _)
                    have A8 := Lib.hid (A7.out.on B8.out)
                    have L8 := Lib.hid (hl'.below B8.out)
                    have C8 := Lib.hid ((C3.out.trans (Chg8.of_below ((below_drewN wr 1).trans hb7))).trans (Chg8.of_below B8.out))
                    have Q8 := Lib.hid ((Q3.out.below ((below_drewN wr 1).trans hb7)).below B8.out)
                    have N8 := Lib.hid hN'
                    have c4a := A7.out.row.cell 4 rfl
                    replace c6 := A7.out.row.cell 6 rfl
                    have H48 := Lib.hid (LEN48.out)
                    clear hl' hN' hb7
                    refine hK.out _ _ c4a (fun hHeld => ?_)
                    clear hK K
                    refine wpAnyH_ready (rs := [22]) (by kernel_rfl) (by simp) ?_
                    refine (AllReadyH.cons (o := ⟨some 73, .buildSlice 148 1 #[(0, (.tmp 72))], _, _, _, _⟩) rfl (fun K hK => ?_) AllReadyH.nil)
                    ·
                      go_simp
                      have c4b := A8.out.row.cell 4 rfl
                      replace c6 := A8.out.row.cell 6 rfl
                      refine hK.out _ _ c4b (fun hHeld => ?_)
                      clear hK K
                      refine wpAnyH_ready (rs := [23]) (by kernel_rfl) (by simp) ?_
                      refine (AllReadyH.cons (o := ⟨some 74, .call { callee := .builtin .append, args := #[(.tmp 55), (.tmp 73)], argTypes := #[148, 148] }, _, _, _, _⟩) rfl (fun K hK => ?_) AllReadyH.nil)
                      ·
                        refine ready_stepL (wp_appG lvK Tryd.underlying148 lvInfo rfl _ _ rfl wb.heap.size (.slice (some ⟨b3, o3, none⟩) (j + 1) gc3) AL3 rfl A8.out.own _ 1 1 [⟨low', a', n', c', l'⟩] rfl (oneG _ _ trivial _ _ rfl) LEN48.out A8.out.size (j + 2) LEN1.out ?_)
                        intro a9 c9 w9 ho9 hg9
                        have HO9 := Lib.hid ho9; have HG9 := Lib.hid hg9
                        have R9 := Lib.hid (A8.out.grown hg9).2.2.2.1
                        have c4c := R9.out.cell 4 rfl
                        clear ho9 hg9
                        refine hK.out _ _ c4c (fun hHeld => ?_)
                        clear hK K
                        refine wpAnyH_take (i := 24) (oi := ⟨some 75, .nilCheck (.tmp 51), _, _, _, _⟩) (v := (.pointer (some ⟨g, 0, none⟩))) rfl (by kernel_rfl) (by kernel_rfl) (by kernel_rfl) (fun _ _ _ h => h) (Or.inl ⟨by rfl, fun W hW => by go_simp⟩) (by assumption) ?_
                        simp only [Act.put, List.setIfInBounds_toArray, List.set_cons_zero, List.set_cons_succ]
                        refine wpAnyH_take (i := 25) (oi := ⟨some 76, .fieldAddr 150 (.tmp 75) 5, _, _, _, _⟩) (v := (.pointer (some ⟨g, 6, none⟩))) rfl (by kernel_rfl) (by kernel_rfl) (by kernel_rfl) (fun _ _ _ h => h) (Or.inl ⟨by rfl, fun W hW => by go_simp⟩) (by assumption) ?_
                        simp only [Act.put, List.setIfInBounds_toArray, List.set_cons_zero, List.set_cons_succ]
                        refine wpAnyH_ready (rs := [26]) (by kernel_rfl) (by simp) ?_
                        refine (AllReadyH.cons (o := ⟨none, .store 148 (.tmp 76) (.tmp 74), _, _, _, _⟩) rfl (fun K hK => ?_) AllReadyH.nil)
                        ·
                          have k6 := R9.out.cell 6 rfl
                          have f6 := R9.out.free 6
                          have c4d := (R9.out.set 6 (.slice a9 (j + 2) c9)).cell 4 rfl
                          clear c6 c4
                          go_simp
                          refine hK.out _ _ c4d (fun hHeld => ?_)
                          clear hK K
                          refine wpAnyH_done (by kernel_rfl) ?_ _
                          go_wp2_with fail
                          have LF := LEAF.out _ _ _ _ _ _ A8.out L8.out N8.out C8.out Q8.out _ _ _ HO9.out HG9.out
                          go_roundg (e + 1 - (j + 2))
                          case measure => have := HGH.out; have := HLN.out; have := HC.out; have := HDd.out; omega
                          case rel => obtain ⟨ga5, gc5, AL5, A5, R5, C5, Q5⟩ := LF; exact ⟨ga5, j + 2, gc5, e3, c3, AL5, Lib.hid (by rw [A5.out.own.len]), A5, R5, C5, Q5⟩
            ·
              go_simp
              refine hK.out _ _ c4 (fun hHeld => ?_)
              clear hK K
              refine wpAnyH_take (i := 17) (oi := ⟨some 68, .call { callee := .builtin .len, args := #[(.tmp 67)], argTypes := #[148] }, _, _, _, _⟩) (v := (.int .i64 ((j + 1 : Nat) : Int))) rfl (by kernel_rfl) (by kernel_rfl) (by kernel_rfl) (fun _ _ _ h => h) (Or.inl ⟨by rfl, fun W hW => by go_simp⟩) (by assumption) ?_
              simp only [Act.put, List.setIfInBounds_toArray, List.set_cons_zero, List.set_cons_succ]
              refine wpAnyH_take (i := 18) (oi := ⟨some 69, .binOp .sub 3 (.tmp 68) (.const (.int .i64 1)) 3, _, _, _, _⟩) (v := (.int .i64 (j : Int))) rfl (by kernel_rfl) (by kernel_rfl) (by kernel_rfl) (fun _ _ _ h => h) (Or.inl ⟨by rfl, fun W hW => by go_simp⟩) (by assumption) ?_
              simp only [Act.put, List.setIfInBounds_toArray, List.set_cons_zero, List.set_cons_succ]
              refine wpAnyH_ready (rs := [12]) (by kernel_rfl) (by simp) ?_
              refine (AllReadyH.cons (o := ⟨some 63, .load 148 (.tmp 62), _, _, _, _⟩) rfl (fun K hK => ?_) AllReadyH.nil)
              ·
                go_simp
                refine hK.out _ _ c4 (fun hHeld => ?_)
                clear hK K
                refine wpAnyH_take (i := 19) (oi := ⟨some 70, .indexAddr 148 (.tmp 63) (.tmp 69), _, _, _, _⟩) (v := (.pointer (some ⟨b3, o3 + j * 2, none⟩))) rfl (by kernel_rfl) (by kernel_rfl) (by kernel_rfl) (fun _ _ _ h => h) (Or.inl ⟨by rfl, fun W hW => by go_simp⟩) (by assumption) ?_
                simp only [Act.put, List.setIfInBounds_toArray, List.set_cons_zero, List.set_cons_succ]
                refine wpAnyH_ready (rs := [20]) (by kernel_rfl) (by simp) ?_
                refine (AllReadyH.cons (o := ⟨some 71, .load 132 (.tmp 70), _, _, _, _⟩) rfl (fun K hK => ?_) AllReadyH.nil)
                ·
                  go_simp
                  refine hK.out _ _ c4 (fun hHeld => ?_)
                  clear hK K
                  refine wpAnyH_ready (rs := [21]) (by kernel_rfl) (by simp) ?_
                  refine (AllReadyH.cons (o := ⟨some 72, .call { callee := .value (.tmp 59), args := #[(.tmp 71)], argTypes := #[132] }, _, _, _, _⟩) rfl (fun K hK => ?_) AllReadyH.nil)
                  ·
                    go_simp
                    go_at_call 94; (refine (NX.out _ (below_drewN wr 1)).mono ?_); rintro en w7 ⟨low', l', a', n', c', rfl, hl', hN', hb7⟩
                    have A7 := Lib.hid (A3.out.on ((below_drewN wr 1).trans hb7))
                    have B8 := Lib.hid (show Below w7.heap.size w7 (w7.alloc (.cells #[.int .i64 low', .slice a' n' c'] 132)) from (Below.refl _ _).alloc (Nat.le_refl _) _)
                    have A8 := Lib.hid (A7.out.on B8.out)
                    have L8 := Lib.hid (hl'.below B8.out)
                    have C8 := Lib.hid ((C3.out.trans (Chg8.of_below ((below_drewN wr 1).trans hb7))).trans (Chg8.of_below B8.out))
                    have Q8 := Lib.hid ((Q3.out.below ((below_drewN wr 1).trans hb7)).below B8.out)
                    have N8 := Lib.hid hN'
                    have c4a := A7.out.row.cell 4 rfl
                    replace c6 := A7.out.row.cell 6 rfl
                    have H48 := Lib.hid (LEN48.out)
                    clear hl' hN' hb7
                    refine hK.out _ _ c4a (fun hHeld => ?_)
                    clear hK K
                    refine wpAnyH_ready (rs := [22]) (by kernel_rfl) (by simp) ?_
                    refine (AllReadyH.cons (o := ⟨some 73, .buildSlice 148 1 #[(0, (.tmp 72))], _, _, _, _⟩) rfl (fun K hK => ?_) AllReadyH.nil)
                    ·
                      go_simp
                      have c4b := A8.out.row.cell 4 rfl
                      replace c6 := A8.out.row.cell 6 rfl
                      refine hK.out _ _ c4b (fun hHeld => ?_)
                      clear hK K
                      refine wpAnyH_ready (rs := [23]) (by kernel_rfl) (by simp) ?_
                      refine (AllReadyH.cons (o := ⟨some 74, .call { callee := .builtin .append, args := #[(.tmp 55), (.tmp 73)], argTypes := #[148, 148] }, _, _, _, _⟩) rfl (fun K hK => ?_) AllReadyH.nil)
                      ·
                        refine ready_stepL (wp_appG lvK Tryd.underlying148 lvInfo rfl _ _ rfl wb.heap.size (.slice (some ⟨b3, o3, none⟩) (j + 1) gc3) AL3 rfl A8.out.own _ 1 1 [⟨low', a', n', c', l'⟩] rfl (oneG _ _ trivial _ _ rfl) LEN48.out A8.out.size (j + 2) LEN1.out ?_)
                        intro a9 c9 w9 ho9 hg9
                        have HO9 := Lib.hid ho9; have HG9 := Lib.hid hg9
                        have R9 := Lib.hid (A8.out.grown hg9).2.2.2.1
                        have c4c := R9.out.cell 4 rfl
                        clear ho9 hg9
                        refine hK.out _ _ c4c (fun hHeld => ?_)
                        clear hK K
                        refine wpAnyH_take (i := 24) (oi := ⟨some 75, .nilCheck (.tmp 51), _, _, _, _⟩) (v := (.pointer (some ⟨g, 0, none⟩))) rfl (by kernel_rfl) (by kernel_rfl) (by kernel_rfl) (fun _ _ _ h => h) (Or.inl ⟨by rfl, fun W hW => by go_simp⟩) (by assumption) ?_
                        simp only [Act.put, List.setIfInBounds_toArray, List.set_cons_zero, List.set_cons_succ]
                        refine wpAnyH_take (i := 25) (oi := ⟨some 76, .fieldAddr 150 (.tmp 75) 5, _, _, _, _⟩) (v := (.pointer (some ⟨g, 6, none⟩))) rfl (by kernel_rfl) (by kernel_rfl) (by kernel_rfl) (fun _ _ _ h => h) (Or.inl ⟨by rfl, fun W hW => by go_simp⟩) (by assumption) ?_
                        simp only [Act.put, List.setIfInBounds_toArray, List.set_cons_zero, List.set_cons_succ]
                        refine wpAnyH_ready (rs := [26]) (by kernel_rfl) (by simp) ?_
                        refine (AllReadyH.cons (o := ⟨none, .store 148 (.tmp 76) (.tmp 74), _, _, _, _⟩) rfl (fun K hK => ?_) AllReadyH.nil)
                        ·
                          have k6 := R9.out.cell 6 rfl
                          have f6 := R9.out.free 6
                          have c4d := (R9.out.set 6 (.slice a9 (j + 2) c9)).cell 4 rfl
                          clear c6 c4
                          go_simp
                          refine hK.out _ _ c4d (fun hHeld => ?_)
                          clear hK K
                          refine wpAnyH_done (by kernel_rfl) ?_ _
                          go_wp2_with fail
                          have LF := LEAF.out _ _ _ _ _ _ A8.out L8.out N8.out C8.out Q8.out _ _ _ HO9.out HG9.out
                          go_roundg (e + 1 - (j + 2))
                          case measure => have := HGH.out; have := HLN.out; have := HC.out; have := HDd.out; omega
                          case rel => obtain ⟨ga5, gc5, AL5, A5, R5, C5, Q5⟩ := LF; exact ⟨ga5, j + 2, gc5, e3, c3, AL5, Lib.hid (by rw [A5.out.own.len]), A5, R5, C5, Q5⟩
          ·
            go_simp
            refine hK.out _ _ c4 (fun hHeld => ?_)
            clear hK K
            refine wpAnyH_ready (rs := [4, 16]) (by kernel_rfl) (by simp) ?_
            refine (AllReadyH.cons (o := ⟨some 55, .load 148 (.tmp 54), _, _, _, _⟩) rfl (fun K hK => ?_) (AllReadyH.cons (o := ⟨some 67, .load 148 (.tmp 66), _, _, _, _⟩) rfl (fun K hK => ?_) AllReadyH.nil))
            ·
              go_simp
              refine hK.out _ _ c4 (fun hHeld => ?_)
              clear hK K
              refine wpAnyH_ready (rs := [16]) (by kernel_rfl) (by simp) ?_
              refine (AllReadyH.cons (o := ⟨some 67, .load 148 (.tmp 66), _, _, _, _⟩) rfl (fun K hK => ?_) AllReadyH.nil)
              ·
                go_simp
                refine hK.out _ _ c4 (fun hHeld => ?_)
                clear hK K
                refine wpAnyH_take (i := 17) (oi := ⟨some 68, .call { callee := .builtin .len, args := #[(.tmp 67)], argTypes := #[148] }, _, _, _, _⟩) (v := (.int .i64 ((j + 1 : Nat) : Int))) rfl (by kernel_rfl) (by kernel_rfl) (by kernel_rfl) (fun _ _ _ h => h) (Or.inl ⟨by rfl, fun W hW => by go_simp⟩) (by assumption) ?_
                simp only [Act.put, List.setIfInBounds_toArray, List.set_cons_zero, List.set_cons_succ]
                refine wpAnyH_take (i := 18) (oi := ⟨some 69, .binOp .sub 3 (.tmp 68) (.const (.int .i64 1)) 3, _, _, _, _⟩) (v := (.int .i64 (j : Int))) rfl (by kernel_rfl) (by kernel_rfl) (by kernel_rfl) (fun _ _ _ h => h) (Or.inl ⟨by rfl, fun W hW => by go_simp⟩) (by assumption) ?_
                simp only [Act.put, List.setIfInBounds_toArray, List.set_cons_zero, List.set_cons_succ]
                refine wpAnyH_take (i := 19) (oi := ⟨some 70, .indexAddr 148 (.tmp 63) (.tmp 69), _, _, _, _⟩) (v := (.pointer (some ⟨b3, o3 + j * 2, none⟩))) rfl (by kernel_rfl) (by kernel_rfl) (by kernel_rfl) (fun _ _ _ h => h) (Or.inl ⟨by rfl, fun W hW => by go_simp⟩) (by assumption) ?_
                simp only [Act.put, List.setIfInBounds_toArray, List.set_cons_zero, List.set_cons_succ]
                refine wpAnyH_ready (rs := [20]) (by kernel_rfl) (by simp) ?_
                refine (AllReadyH.cons (o := ⟨some 71, .load 132 (.tmp 70), _, _, _, _⟩) rfl (fun K hK => ?_) AllReadyH.nil)
                ·
                  go_simp
                  refine hK.out _ _ c4 (fun hHeld => ?_)
                  clear hK K
                  refine wpAnyH_ready (rs := [21]) (by kernel_rfl) (by simp) ?_
                  refine (AllReadyH.cons (o := ⟨some 72, .call { callee := .value (.tmp 59), args := #[(.tmp 71)], argTypes := #[132] }, _, _, _, _⟩) rfl (fun K hK => ?_) AllReadyH.nil)
                  ·
                    go_simp
                    go_at_call 94; (refine (NX.out _ (below_drewN wr 1)).mono ?_); rintro en w7 ⟨low', l', a', n', c', rfl, hl', hN', hb7⟩
                    have A7 := Lib.hid (A3.out.on ((below_drewN wr 1).trans hb7))
                    have B8 := Lib.hid (show Below w7.heap.size w7 (w7.alloc (.cells #[.int .i64 low', .slice a' n' c'] 132)) from (Below.refl _ _).alloc (Nat.le_refl _) _)
                    have A8 := Lib.hid (A7.out.on B8.out)
                    have L8 := Lib.hid (hl'.below B8.out)
                    have C8 := Lib.hid ((C3.out.trans (Chg8.of_below ((below_drewN wr 1).trans hb7))).trans (Chg8.of_below B8.out))
                    have Q8 := Lib.hid ((Q3.out.below ((below_drewN wr 1).trans hb7)).below B8.out)
                    have N8 := Lib.hid hN'
                    have c4a := A7.out.row.cell 4 rfl
                    replace c6 := A7.out.row.cell 6 rfl
                    have H48 := Lib.hid (LEN48.out)
                    clear hl' hN' hb7
                    refine hK.out _ _ c4a (fun hHeld => ?_)
                    clear hK K
                    refine wpAnyH_ready (rs := [22]) (by kernel_rfl) (by simp) ?_
                    refine (AllReadyH.cons (o := ⟨some 73, .buildSlice 148 1 #[(0, (.tmp 72))], _, _, _, _⟩) rfl (fun K hK => ?_) AllReadyH.nil)
                    ·
                      go_simp
                      have c4b := A8.out.row.cell 4 rfl
                      replace c6 := A8.out.row.cell 6 rfl
                      refine hK.out _ _ c4b (fun hHeld => ?_)
                      clear hK K
                      refine wpAnyH_ready (rs := [23]) (by kernel_rfl) (by simp) ?_
                      refine (AllReadyH.cons (o := ⟨some 74, .call { callee := .builtin .append, args := #[(.tmp 55), (.tmp 73)], argTypes := #[148, 148] }, _, _, _, _⟩) rfl (fun K hK => ?_) AllReadyH.nil)
                      ·
                        refine ready_stepL (wp_appG lvK Tryd.underlying148 lvInfo rfl _ _ rfl wb.heap.size (.slice (some ⟨b3, o3, none⟩) (j + 1) gc3) AL3 rfl A8.out.own _ 1 1 [⟨low', a', n', c', l'⟩] rfl (oneG _ _ trivial _ _ rfl) LEN48.out A8.out.size (j + 2) LEN1.out ?_)
                        intro a9 c9 w9 ho9 hg9
                        have HO9 := Lib.hid ho9; have HG9 := Lib.hid hg9
                        have R9 := Lib.hid (A8.out.grown hg9).2.2.2.1
                        have c4c := R9.out.cell 4 rfl
                        clear ho9 hg9
                        refine hK.out _ _ c4c (fun hHeld => ?_)
                        clear hK K
                        refine wpAnyH_take (i := 24) (oi := ⟨some 75, .nilCheck (.tmp 51), _, _, _, _⟩) (v := (.pointer (some ⟨g, 0, none⟩))) rfl (by kernel_rfl) (by kernel_rfl) (by kernel_rfl) (fun _ _ _ h => h) (Or.inl ⟨by rfl, fun W hW => by go_simp⟩) (by assumption) ?_
                        simp only [Act.put, List.setIfInBounds_toArray, List.set_cons_zero, List.set_cons_succ]
                        refine wpAnyH_take (i := 25) (oi := ⟨some 76, .fieldAddr 150 (.tmp 75) 5, _, _, _, _⟩) (v := (.pointer (some ⟨g, 6, none⟩))) rfl (by kernel_rfl) (by kernel_rfl) (by kernel_rfl) (fun _ _ _ h => h) (Or.inl ⟨by rfl, fun W hW => by go_simp⟩) (by assumption) ?_
                        simp only [Act.put, List.setIfInBounds_toArray, List.set_cons_zero, List.set_cons_succ]
                        refine wpAnyH_ready (rs := [26]) (by kernel_rfl) (by simp) ?_
                        refine (AllReadyH.cons (o := ⟨none, .store 148 (.tmp 76) (.tmp 74), _, _, _, _⟩) rfl (fun K hK => ?_) AllReadyH.nil)
                        ·
                          have k6 := R9.out.cell 6 rfl
                          have f6 := R9.out.free 6
                          have c4d := (R9.out.set 6 (.slice a9 (j + 2) c9)).cell 4 rfl
                          clear c6 c4
                          go_simp
                          refine hK.out _ _ c4d (fun hHeld => ?_)
                          clear hK K
                          refine wpAnyH_done (by kernel_rfl) ?_ _
                          go_wp2_with fail
                          have LF := LEAF.out _ _ _ _ _ _ A8.out L8.out N8.out C8.out Q8.out _ _ _ HO9.out HG9.out
                          go_roundg (e + 1 - (j + 2))
                          case measure => have := HGH.out; have := HLN.out; have := HC.out; have := HDd.out; omega
                          case rel => obtain ⟨ga5, gc5, AL5, A5, R5, C5, Q5⟩ := LF; exact ⟨ga5, j + 2, gc5, e3, c3, AL5, Lib.hid (by rw [A5.out.own.len]), A5, R5, C5, Q5⟩
            ·
              go_simp
              refine hK.out _ _ c4 (fun hHeld => ?_)
              clear hK K
              refine wpAnyH_take (i := 17) (oi := ⟨some 68, .call { callee := .builtin .len, args := #[(.tmp 67)], argTypes := #[148] }, _, _, _, _⟩) (v := (.int .i64 ((j + 1 : Nat) : Int))) rfl (by kernel_rfl) (by kernel_rfl) (by kernel_rfl) (fun _ _ _ h => h) (Or.inl ⟨by rfl, fun W hW => by go_simp⟩) (by assumption) ?_
              simp only [Act.put, List.setIfInBounds_toArray, List.set_cons_zero, List.set_cons_succ]
              refine wpAnyH_take (i := 18) (oi := ⟨some 69, .binOp .sub 3 (.tmp 68) (.const (.int .i64 1)) 3, _, _, _, _⟩) (v := (.int .i64 (j : Int))) rfl (by kernel_rfl) (by kernel_rfl) (by kernel_rfl) (fun _ _ _ h => h) (Or.inl ⟨by rfl, fun W hW => by go_simp⟩) (by assumption) ?_
              simp only [Act.put, List.setIfInBounds_toArray, List.set_cons_zero, List.set_cons_succ]
              refine wpAnyH_take (i := 19) (oi := ⟨some 70, .indexAddr 148 (.tmp 63) (.tmp 69), _, _, _, _⟩) (v := (.pointer (some ⟨b3, o3 + j * 2, none⟩))) rfl (by kernel_rfl) (by kernel_rfl) (by kernel_rfl) (fun _ _ _ h => h) (Or.inl ⟨by rfl, fun W hW => by go_simp⟩) (by assumption) ?_
              simp only [Act.put, List.setIfInBounds_toArray, List.set_cons_zero, List.set_cons_succ]
              refine wpAnyH_ready (rs := [4, 20]) (by kernel_rfl) (by simp) ?_
              refine (AllReadyH.cons (o := ⟨some 55, .load 148 (.tmp 54), _, _, _, _⟩) rfl (fun K hK => ?_) (AllReadyH.cons (o := ⟨some 71, .load 132 (.tmp 70), _, _, _, _⟩) rfl (fun K hK => ?_) AllReadyH.nil))
              ·
                go_simp
                refine hK.out _ _ c4 (fun hHeld => ?_)
                clear hK K
                refine wpAnyH_ready (rs := [20]) (by kernel_rfl) (by simp) ?_
                refine (AllReadyH.cons (o := ⟨some 71, .load 132 (.tmp 70), _, _, _, _⟩) rfl (fun K hK => ?_) AllReadyH.nil)
                ·
                  go_simp
                  refine hK.out _ _ c4 (fun hHeld => ?_)
                  clear hK K
                  refine wpAnyH_ready (rs := [21]) (by kernel_rfl) (by simp) ?_
                  refine (AllReadyH.cons (o := ⟨some 72, .call { callee := .value (.tmp 59), args := #[(.tmp 71)], argTypes := #[132] }, _, _, _, _⟩) rfl (fun K hK => ?_) AllReadyH.nil)
                  ·
                    go_simp
                    go_at_call 94; (refine (NX.out _ (below_drewN wr 1)).mono ?_); rintro en w7 ⟨low', l', a', n', c', rfl, hl', hN', hb7⟩
                    have A7 := Lib.hid (A3.out.on ((below_drewN wr 1).trans hb7))
                    have B8 := Lib.hid (show Below w7.heap.size w7 (w7.alloc (.cells #[.int .i64 low', .slice a' n' c'] 132)) from (Below.refl _ _).alloc (Nat.le_refl _) _)
                    have A8 := Lib.hid (A7.out.on B8.out)
                    have L8 := Lib.hid (hl'.below B8.out)
                    have C8 := Lib.hid ((C3.out.trans (Chg8.of_below ((below_drewN wr 1).trans hb7))).trans (Chg8.of_below B8.out))
                    have Q8 := Lib.hid ((Q3.out.below ((below_drewN wr 1).trans hb7)).below B8.out)
                    have N8 := Lib.hid hN'
                    have c4a := A7.out.row.cell 4 rfl
                    replace c6 := A7.out.row.cell 6 rfl
                    have H48 := Lib.hid (LEN48.out)
                    clear hl' hN' hb7
                    refine hK.out _ _ c4a (fun hHeld => ?_)
                    clear hK K
                    refine wpAnyH_ready (rs := [22]) (by kernel_rfl) (by simp) ?_
                    refine (AllReadyH.cons (o := ⟨some 73, .buildSlice 148 1 #[(0, (.tmp 72))], _, _, _, _⟩) rfl (fun K hK => ?_) AllReadyH.nil)
                    ·
                      go_simp
                      have c4b := A8.out.row.cell 4 rfl
                      replace c6 := A8.out.row.cell 6 rfl
                      refine hK.out _ _ c4b (fun hHeld => ?_)
                      clear hK K
                      refine wpAnyH_ready (rs := [23]) (by kernel_rfl) (by simp) ?_
                      refine (AllReadyH.cons (o := ⟨some 74, .call { callee := .builtin .append, args := #[(.tmp 55), (.tmp 73)], argTypes := #[148, 148] }, _, _, _, _⟩) rfl (fun K hK => ?_) AllReadyH.nil)
                      ·
                        refine ready_stepL (wp_appG lvK Tryd.underlying148 lvInfo rfl _ _ rfl wb.heap.size (.slice (some ⟨b3, o3, none⟩) (j + 1) gc3) AL3 rfl A8.out.own _ 1 1 [⟨low', a', n', c', l'⟩] rfl (oneG _ _ trivial _ _ rfl) LEN48.out A8.out.size (j + 2) LEN1.out ?_)
                        intro a9 c9 w9 ho9 hg9
                        have HO9 := Lib.hid ho9; have HG9 := Lib.hid hg9
                        have R9 := Lib.hid (A8.out.grown hg9).2.2.2.1
                        have c4c := R9.out.cell 4 rfl
                        clear ho9 hg9
                        refine hK.out _ _ c4c (fun hHeld => ?_)
                        clear hK K
                        refine wpAnyH_take (i := 24) (oi := ⟨some 75, .nilCheck (.tmp 51), _, _, _, _⟩) (v := (.pointer (some ⟨g, 0, none⟩))) rfl (by kernel_rfl) (by kernel_rfl) (by kernel_rfl) (fun _ _ _ h => h) (Or.inl ⟨by rfl, fun W hW => by go_simp⟩) (by assumption) ?_
                        simp only [Act.put, List.setIfInBounds_toArray, List.set_cons_zero, List.set_cons_succ]
                        refine wpAnyH_take (i := 25) (oi := ⟨some 76, .fieldAddr 150 (.tmp 75) 5, _, _, _, _⟩) (v := (.pointer (some ⟨g, 6, none⟩))) rfl (by kernel_rfl) (by kernel_rfl) (by kernel_rfl) (fun _ _ _ h => h) (Or.inl ⟨by rfl, fun W hW => by go_simp⟩) (by assumption) ?_
                        simp only [Act.put, List.setIfInBounds_toArray, List.set_cons_zero, List.set_cons_succ]
                        refine wpAnyH_ready (rs := [26]) (by kernel_rfl) (by simp) ?_
                        refine (AllReadyH.cons (o := ⟨none, .store 148 (.tmp 76) (.tmp 74), _, _, _, _⟩) rfl (fun K hK => ?_) AllReadyH.nil)
                        ·
                          have k6 := R9.out.cell 6 rfl
                          have f6 := R9.out.free 6
                          have c4d := (R9.out.set 6 (.slice a9 (j + 2) c9)).cell 4 rfl
                          clear c6 c4
                          go_simp
                          refine hK.out _ _ c4d (fun hHeld => ?_)
                          clear hK K
                          refine wpAnyH_done (by kernel_rfl) ?_ _
                          go_wp2_with fail
                          have LF := LEAF.out _ _ _ _ _ _ A8.out L8.out N8.out C8.out Q8.out _ _ _ HO9.out HG9.out
                          go_roundg (e + 1 - (j + 2))
                          case measure => have := HGH.out; have := HLN.out; have := HC.out; have := HDd.out; omega
                          case rel => obtain ⟨ga5, gc5, AL5, A5, R5, C5, Q5⟩ := LF; exact ⟨ga5, j + 2, gc5, e3, c3, AL5, Lib.hid (by rw [A5.out.own.len]), A5, R5, C5, Q5⟩
              ·
                go_simp
                refine hK.out _ _ c4 (fun hHeld => ?_)
                clear hK K
                refine wpAnyH_ready (rs := [4, 21]) (by kernel_rfl) (by simp) ?_
                refine (AllReadyH.cons (o := ⟨some 55, .load 148 (.tmp 54), _, _, _, _⟩) rfl (fun K hK => ?_) (AllReadyH.cons (o := ⟨some 72, .call { callee := .value (.tmp 59), args := #[(.tmp 71)], argTypes := #[132] }, _, _, _, _⟩) rfl (fun K hK => ?_) AllReadyH.nil))
                ·
                  go_simp
                  refine hK.out _ _ c4 (fun hHeld => ?_)
                  clear hK K
                  refine wpAnyH_ready (rs := [21]) (by kernel_rfl) (by simp) ?_
                  refine (AllReadyH.cons (o := ⟨some 72, .call { callee := .value (.tmp 59), args := #[(.tmp 71)], argTypes := #[132] }, _, _, _, _⟩) rfl (fun K hK => ?_) AllReadyH.nil)
                  ·
                    go_simp
                    go_at_call 94; (refine (NX.out _ (below_drewN wr 1)).mono ?_); rintro en w7 ⟨low', l', a', n', c', rfl, hl', hN', hb7⟩
                    have A7 := Lib.hid (A3.out.on ((below_drewN wr 1).trans hb7))
                    have B8 := Lib.hid (show Below w7.heap.size w7 (w7.alloc (.cells #[.int .i64 low', .slice a' n' c'] 132)) from (Below.refl _ _).alloc (Nat.le_refl _) _)
                    have A8 := Lib.hid (A7.out.on B8.out)
                    have L8 := Lib.hid (hl'.below B8.out)
                    have C8 := Lib.hid ((C3.out.trans (Chg8.of_below ((below_drewN wr 1).trans hb7))).trans (Chg8.of_below B8.out))
                    have Q8 := Lib.hid ((Q3.out.below ((below_drewN wr 1).trans hb7)).below B8.out)
                    have N8 := Lib.hid hN'
                    have c4a := A7.out.row.cell 4 rfl
                    replace c6 := A7.out.row.cell 6 rfl
                    have H48 := Lib.hid (LEN48.out)
                    clear hl' hN' hb7
                    refine hK.out _ _ c4a (fun hHeld => ?_)
                    clear hK K
                    refine wpAnyH_ready (rs := [22]) (by kernel_rfl) (by simp) ?_
                    refine (AllReadyH.cons (o := ⟨some 73, .buildSlice 148 1 #[(0, (.tmp 72))], _, _, _, _⟩) rfl (fun K hK => ?_) AllReadyH.nil)
                    ·
                      go_simp
                      have c4b := A8.out.row.cell 4 rfl
                      replace c6 := A8.out.row.cell 6 rfl
                      refine hK.out _ _ c4b (fun hHeld => ?_)
                      clear hK K
                      refine wpAnyH_ready (rs := [23]) (by kernel_rfl) (by simp) ?_
                      refine (AllReadyH.cons (o := ⟨some 74, .call { callee := .builtin .append, args := #[(.tmp 55), (.tmp 73)], argTypes := #[148, 148] }, _, _, _, _⟩) rfl (fun K hK => ?_) AllReadyH.nil)
                      ·
                        refine ready_stepL (wp_appG lvK Tryd.underlying148 lvInfo rfl _ _ rfl wb.heap.size (.slice (some ⟨b3, o3, none⟩) (j + 1) gc3) AL3 rfl A8.out.own _ 1 1 [⟨low', a', n', c', l'⟩] rfl (oneG _ _ trivial _ _ rfl) LEN48.out A8.out.size (j + 2) LEN1.out ?_)
                        intro a9 c9 w9 ho9 hg9
                        have HO9 := Lib.hid ho9; have HG9 := Lib.hid hg9
                        have R9 := Lib.hid (A8.out.grown hg9).2.2.2.1
                        have c4c := R9.out.cell 4 rfl
                        clear ho9 hg9
                        refine hK.out _ _ c4c (fun hHeld => ?_)
                        clear hK K
                        refine wpAnyH_take (i := 24) (oi := ⟨some 75, .nilCheck (.tmp 51), _, _, _, _⟩) (v := (.pointer (some ⟨g, 0, none⟩))) rfl (by kernel_rfl) (by kernel_rfl) (by kernel_rfl) (fun _ _ _ h => h) (Or.inl ⟨by rfl, fun W hW => by go_simp⟩) (by assumption) ?_
                        simp only [Act.put, List.setIfInBounds_toArray, List.set_cons_zero, List.set_cons_succ]
                        refine wpAnyH_take (i := 25) (oi := ⟨some 76, .fieldAddr 150 (.tmp 75) 5, _, _, _, _⟩) (v := (.pointer (some ⟨g, 6, none⟩))) rfl (by kernel_rfl) (by kernel_rfl) (by kernel_rfl) (fun _ _ _ h => h) (Or.inl ⟨by rfl, fun W hW => by go_simp⟩) (by assumption) ?_
                        simp only [Act.put, List.setIfInBounds_toArray, List.set_cons_zero, List.set_cons_succ]
                        refine wpAnyH_ready (rs := [26]) (by kernel_rfl) (by simp) ?_
                        refine (AllReadyH.cons (o := ⟨none, .store 148 (.tmp 76) (.tmp 74), _, _, _, _⟩) rfl (fun K hK => ?_) AllReadyH.nil)
                        ·
                          have k6 := R9.out.cell 6 rfl
                          have f6 := R9.out.free 6
                          have c4d := (R9.out.set 6 (.slice a9 (j + 2) c9)).cell 4 rfl
                          clear c6 c4
                          go_simp
                          refine hK.out _ _ c4d (fun hHeld => ?_)
                          clear hK K
                          refine wpAnyH_done (by kernel_rfl) ?_ _
                          go_wp2_with fail
                          have LF := LEAF.out _ _ _ _ _ _ A8.out L8.out N8.out C8.out Q8.out _ _ _ HO9.out HG9.out
                          go_roundg (e + 1 - (j + 2))
                          case measure => have := HGH.out; have := HLN.out; have := HC.out; have := HDd.out; omega
                          case rel => obtain ⟨ga5, gc5, AL5, A5, R5, C5, Q5⟩ := LF; exact ⟨ga5, j + 2, gc5, e3, c3, AL5, Lib.hid (by rw [A5.out.own.len]), A5, R5, C5, Q5⟩
                ·
                  go_simp
                  go_at_call 94; (refine (NX.out _ (below_drewN wr 1)).mono ?_); rintro en w7 ⟨low', l', a', n', c', rfl, hl', hN', hb7⟩
                  have A7 := Lib.hid (A3.out.on ((below_drewN wr 1).trans hb7))
                  have B8 := Lib.hid (show Below w7.heap.size w7 (w7.alloc (.cells #[.int .i64 low', .slice a' n' c'] 132)) from (Below.refl _ _).alloc (Nat.le_refl _) _)
                  have A8 := Lib.hid (A7.out.on B8.out)
                  have L8 := Lib.hid (hl'.below B8.out)
                  have C8 := Lib.hid ((C3.out.trans (Chg8.of_below ((below_drewN wr 1).trans hb7))).trans (Chg8.of_below B8.out))
                  have Q8 := Lib.hid ((Q3.out.below ((below_drewN wr 1).trans hb7)).below B8.out)
                  have N8 := Lib.hid hN'
                  have c4a := A7.out.row.cell 4 rfl
                  replace c6 := A7.out.row.cell 6 rfl
                  have H48 := Lib.hid (LEN48.out)
                  clear hl' hN' hb7
                  refine hK.out _ _ c4a (fun hHeld => ?_)
                  clear hK K
                  refine wpAnyH_ready (rs := [4, 22]) (by kernel_rfl) (by simp) ?_
                  refine (AllReadyH.cons (o := ⟨some 55, .load 148 (.tmp 54), _, _, _, _⟩) rfl (fun K hK => ?_) (AllReadyH.cons (o := ⟨some 73, .buildSlice 148 1 #[(0, (.tmp 72))], _, _, _, _⟩) rfl (fun K hK => ?_) AllReadyH.nil))
                  ·
                    go_simp
                    refine hK.out _ _ c4a (fun hHeld => ?_)
                    clear hK K
                    refine wpAnyH_ready (rs := [22]) (by kernel_rfl) (by simp) ?_
                    refine (AllReadyH.cons (o := ⟨some 73, .buildSlice 148 1 #[(0, (.tmp 72))], _, _, _, _⟩) rfl (fun K hK => ?_) AllReadyH.nil)
                    ·
                      go_simp
                      have c4b := A8.out.row.cell 4 rfl
                      replace c6 := A8.out.row.cell 6 rfl
                      refine hK.out _ _ c4b (fun hHeld => ?_)
                      clear hK K
                      refine wpAnyH_ready (rs := [23]) (by kernel_rfl) (by simp) ?_
                      refine (AllReadyH.cons (o := ⟨some 74, .call { callee := .builtin .append, args := #[(.tmp 55), (.tmp 73)], argTypes := #[148, 148] }, _, _, _, _⟩) rfl (fun K hK => ?_) AllReadyH.nil)
                      ·
                        refine ready_stepL (wp_appG lvK Tryd.underlying148 lvInfo rfl _ _ rfl wb.heap.size (.slice (some ⟨b3, o3, none⟩) (j + 1) gc3) AL3 rfl A8.out.own _ 1 1 [⟨low', a', n', c', l'⟩] rfl (oneG _ _ trivial _ _ rfl) LEN48.out A8.out.size (j + 2) LEN1.out ?_)
                        intro a9 c9 w9 ho9 hg9
                        have HO9 := Lib.hid ho9; have HG9 := Lib.hid hg9
                        have R9 := Lib.hid (A8.out.grown hg9).2.2.2.1
                        have c4c := R9.out.cell 4 rfl
                        clear ho9 hg9
                        refine hK.out _ _ c4c (fun hHeld => ?_)
                        clear hK K
                        refine wpAnyH_take (i := 24) (oi := ⟨some 75, .nilCheck (.tmp 51), _, _, _, _⟩) (v := (.pointer (some ⟨g, 0, none⟩))) rfl (by kernel_rfl) (by kernel_rfl) (by kernel_rfl) (fun _ _ _ h => h) (Or.inl ⟨by rfl, fun W hW => by go_simp⟩) (by assumption) ?_
                        simp only [Act.put, List.setIfInBounds_toArray, List.set_cons_zero, List.set_cons_succ]
                        refine wpAnyH_take (i := 25) (oi := ⟨some 76, .fieldAddr 150 (.tmp 75) 5, _, _, _, _⟩) (v := (.pointer (some ⟨g, 6, none⟩))) rfl (by kernel_rfl) (by kernel_rfl) (by kernel_rfl) (fun _ _ _ h => h) (Or.inl ⟨by rfl, fun W hW => by go_simp⟩) (by assumption) ?_
                        simp only [Act.put, List.setIfInBounds_toArray, List.set_cons_zero, List.set_cons_succ]
                        refine wpAnyH_ready (rs := [26]) (by kernel_rfl) (by simp) ?_
                        refine (AllReadyH.cons (o := ⟨none, .store 148 (.tmp 76) (.tmp 74), _, _, _, _⟩) rfl (fun K hK => ?_) AllReadyH.nil)
                        ·
                          have k6 := R9.out.cell 6 rfl
                          have f6 := R9.out.free 6
                          have c4d := (R9.out.set 6 (.slice a9 (j + 2) c9)).cell 4 rfl
                          clear c6 c4
                          go_simp
                          refine hK.out _ _ c4d (fun hHeld => ?_)
                          clear hK K
                          refine wpAnyH_done (by kernel_rfl) ?_ _
                          go_wp2_with fail
                          have LF := LEAF.out _ _ _ _ _ _ A8.out L8.out N8.out C8.out Q8.out _ _ _ HO9.out HG9.out
                          go_roundg (e + 1 - (j + 2))
                          case measure => have := HGH.out; have := HLN.out; have := HC.out; have := HDd.out; omega
                          case rel => obtain ⟨ga5, gc5, AL5, A5, R5, C5, Q5⟩ := LF; exact ⟨ga5, j + 2, gc5, e3, c3, AL5, Lib.hid (by rw [A5.out.own.len]), A5, R5, C5, Q5⟩
                  ·
                    go_simp
                    have c4b := A8.out.row.cell 4 rfl
                    replace c6 := A8.out.row.cell 6 rfl
                    refine hK.out _ _ c4b (fun hHeld => ?_)
                    clear hK K
                    refine wpAnyH_ready (rs := [4]) (by kernel_rfl) (by simp) ?_
                    refine (AllReadyH.cons (o := ⟨some 55, .load 148 (.tmp 54), _, _, _, _⟩) rfl (fun K hK => ?_) AllReadyH.nil)
                    ·
                      go_simp
                      refine hK.out _ _ c4b (fun hHeld => ?_)
                      clear hK K
                      refine wpAnyH_ready (rs := [23]) (by kernel_rfl) (by simp) ?_
                      refine (AllReadyH.cons (o := ⟨some 74, .call { callee := .builtin .append, args := #[(.tmp 55), (.tmp 73)], argTypes := #[148, 148] }, _, _, _, _⟩) rfl (fun K hK => ?_) AllReadyH.nil)
                      ·
                        refine ready_stepL (wp_appG lvK Tryd.underlying148 lvInfo rfl _ _ rfl wb.heap.size (.slice (some ⟨b3, o3, none⟩) (j + 1) gc3) AL3 rfl A8.out.own _ 1 1 [⟨low', a', n', c', l'⟩] rfl (oneG _ _ trivial _ _ rfl) LEN48.out A8.out.size (j + 2) LEN1.out ?_)
                        intro a9 c9 w9 ho9 hg9
                        have HO9 := Lib.hid ho9; have HG9 := Lib.hid hg9
                        have R9 := Lib.hid (A8.out.grown hg9).2.2.2.1
                        have c4c := R9.out.cell 4 rfl
                        clear ho9 hg9
                        refine hK.out _ _ c4c (fun hHeld => ?_)
                        clear hK K
                        refine wpAnyH_take (i := 24) (oi := ⟨some 75, .nilCheck (.tmp 51), _, _, _, _⟩) (v := (.pointer (some ⟨g, 0, none⟩))) rfl (by kernel_rfl) (by kernel_rfl) (by kernel_rfl) (fun _ _ _ h => h) (Or.inl ⟨by rfl, fun W hW => by go_simp⟩) (by assumption) ?_
                        simp only [Act.put, List.setIfInBounds_toArray, List.set_cons_zero, List.set_cons_succ]
                        refine wpAnyH_take (i := 25) (oi := ⟨some 76, .fieldAddr 150 (.tmp 75) 5, _, _, _, _⟩) (v := (.pointer (some ⟨g, 6, none⟩))) rfl (by kernel_rfl) (by kernel_rfl) (by kernel_rfl) (fun _ _ _ h => h) (Or.inl ⟨by rfl, fun W hW => by go_simp⟩) (by assumption) ?_
                        simp only [Act.put, List.setIfInBounds_toArray, List.set_cons_zero, List.set_cons_succ]
                        refine wpAnyH_ready (rs := [26]) (by kernel_rfl) (by simp) ?_
                        refine (AllReadyH.cons (o := ⟨none, .store 148 (.tmp 76) (.tmp 74), _, _, _, _⟩) rfl (fun K hK => ?_) AllReadyH.nil)
                        ·
                          have k6 := R9.out.cell 6 rfl
                          have f6 := R9.out.free 6
                          have c4d := (R9.out.set 6 (.slice a9 (j + 2) c9)).cell 4 rfl
                          clear c6 c4
                          go_simp
                          refine hK.out _ _ c4d (fun hHeld => ?_)
                          clear hK K
                          refine wpAnyH_done (by kernel_rfl) ?_ _
                          go_wp2_with fail
                          have LF := LEAF.out _ _ _ _ _ _ A8.out L8.out N8.out C8.out Q8.out _ _ _ HO9.out HG9.out
                          go_roundg (e + 1 - (j + 2))
                          case measure => have := HGH.out; have := HLN.out; have := HC.out; have := HDd.out; omega
                          case rel => obtain ⟨ga5, gc5, AL5, A5, R5, C5, Q5⟩ := LF; exact ⟨ga5, j + 2, gc5, e3, c3, AL5, Lib.hid (by rw [A5.out.own.len]), A5, R5, C5, Q5⟩
          ·
            go_simp
            refine hK.out _ _ c4 (fun hHeld => ?_)
            clear hK K
            refine wpAnyH_take (i := 17) (oi := ⟨some 68, .call { callee := .builtin .len, args := #[(.tmp 67)], argTypes := #[148] }, _, _, _, _⟩) (v := (.int .i64 ((j + 1 : Nat) : Int))) rfl (by kernel_rfl) (by kernel_rfl) (by kernel_rfl) (fun _ _ _ h => h) (Or.inl ⟨by rfl, fun W hW => by go_simp⟩) (by assumption) ?_
            simp only [Act.put, List.setIfInBounds_toArray, List.set_cons_zero, List.set_cons_succ]
            refine wpAnyH_take (i := 18) (oi := ⟨some 69, .binOp .sub 3 (.tmp 68) (.const (.int .i64 1)) 3, _, _, _, _⟩) (v := (.int .i64 (j : Int))) rfl (by kernel_rfl) (by kernel_rfl) (by kernel_rfl) (fun _ _ _ h => h) (Or.inl ⟨by rfl, fun W hW => by go_simp⟩) (by assumption) ?_
            simp only [Act.put, List.setIfInBounds_toArray, List.set_cons_zero, List.set_cons_succ]
            refine wpAnyH_ready (rs := [4, 12]) (by kernel_rfl) (by simp) ?_
            refine (AllReadyH.cons (o := ⟨some 55, .load 148 (.tmp 54), _, _, _, _⟩) rfl (fun K hK => ?_) (AllReadyH.cons (o := ⟨some 63, .load 148 (.tmp 62), _, _, _, _⟩) rfl (fun K hK => ?_) AllReadyH.nil))
            ·
              go_simp
              refine hK.out _ _ c4 (fun hHeld => ?_)
              clear hK K
              refine wpAnyH_ready (rs := [12]) (by kernel_rfl) (by simp) ?_
              refine (AllReadyH.cons (o := ⟨some 63, .load 148 (.tmp 62), _, _, _, _⟩) rfl (fun K hK => ?_) AllReadyH.nil)
              ·
                go_simp
                refine hK.out _ _ c4 (fun hHeld => ?_)
                clear hK K
                refine wpAnyH_take (i := 19) (oi := ⟨some 70, .indexAddr 148 (.tmp 63) (.tmp 69), _, _, _, _⟩) (v := (.pointer (some ⟨b3, o3 + j * 2, none⟩))) rfl (by kernel_rfl) (by kernel_rfl) (by kernel_rfl) (fun _ _ _ h => h) (Or.inl ⟨by rfl, fun W hW => by go_simp⟩) (by assumption) ?_
                simp only [Act.put, List.setIfInBounds_toArray, List.set_cons_zero, List.set_cons_succ]
                refine wpAnyH_ready (rs := [20]) (by kernel_rfl) (by simp) ?_
                refine (AllReadyH.cons (o := ⟨some 71, .load 132 (.tmp 70), _, _, _, _⟩) rfl (fun K hK => ?_) AllReadyH.nil)
                ·
                  go_simp
                  refine hK.out _ _ c4 (fun hHeld => ?_)
                  clear hK K
                  refine wpAnyH_ready (rs := [21]) (by kernel_rfl) (by simp) ?_
                  refine (AllReadyH.cons (o := ⟨some 72, .call { callee := .value (.tmp 59), args := #[(.tmp 71)], argTypes := #[132] }, _, _, _, _⟩) rfl (fun K hK => ?_) AllReadyH.nil)
                  ·
                    go_simp
                    go_at_call 94; (refine (NX.out _ (below_drewN wr 1)).mono ?_); rintro en w7 ⟨low', l', a', n', c', rfl, hl', hN', hb7⟩
                    have A7 := Lib.hid (A3.out.on ((below_drewN wr 1).trans hb7))
                    have B8 := Lib.hid (show Below w7.heap.size w7 (w7.alloc (.cells #[.int .i64 low', .slice a' n' c'] 132)) from (Below.refl _ _).alloc (Nat.le_refl _) _)
                    have A8 := Lib.hid (A7.out.on B8.out)
                    have L8 := Lib.hid (hl'.below B8.out)
                    have C8 := Lib.hid ((C3.out.trans (Chg8.of_below ((below_drewN wr 1).trans hb7))).trans (Chg8.of_below B8.out))
                    have Q8 := Lib.hid ((Q3.out.below ((below_drewN wr 1).trans hb7)).below B8.out)
                    have N8 := Lib.hid hN'
                    have c4a := A7.out.row.cell 4 rfl
                    replace c6 := A7.out.row.cell 6 rfl
                    have H48 := Lib.hid (LEN48.out)
                    clear hl' hN' hb7
                    refine hK.out _ _ c4a (fun hHeld => ?_)
                    clear hK K
                    refine wpAnyH_ready (rs := [22]) (by kernel_rfl) (by simp) ?_
                    refine (AllReadyH.cons (o := ⟨some 73, .buildSlice 148 1 #[(0, (.tmp 72))], _, _, _, _⟩) rfl (fun K hK => ?_) AllReadyH.nil)
                    ·
                      go_simp
                      have c4b := A8.out.row.cell 4 rfl
                      replace c6 := A8.out.row.cell 6 rfl
                      refine hK.out _ _ c4b (fun hHeld => ?_)
                      clear hK K
                      refine wpAnyH_ready (rs := [23]) (by kernel_rfl) (by simp) ?_
                      refine (AllReadyH.cons (o := ⟨some 74, .call { callee := .builtin .append, args := #[(.tmp 55), (.tmp 73)], argTypes := #[148, 148] }, _, _, _, _⟩) rfl (fun K hK => ?_) AllReadyH.nil)
                      ·
                        refine ready_stepL (wp_appG lvK Tryd.underlying148 lvInfo rfl _ _ rfl wb.heap.size (.slice (some ⟨b3, o3, none⟩) (j + 1) gc3) AL3 rfl A8.out.own _ 1 1 [⟨low', a', n', c', l'⟩] rfl (oneG _ _ trivial _ _ rfl) LEN48.out A8.out.size (j + 2) LEN1.out ?_)
                        intro a9 c9 w9 ho9 hg9
                        have HO9 := Lib.hid ho9; have HG9 := Lib.hid hg9
                        have R9 := Lib.hid (A8.out.grown hg9).2.2.2.1
                        have c4c := R9.out.cell 4 rfl
                        clear ho9 hg9
                        refine hK.out _ _ c4c (fun hHeld => ?_)
                        clear hK K
                        refine wpAnyH_take (i := 24) (oi := ⟨some 75, .nilCheck (.tmp 51), _, _, _, _⟩) (v := (.pointer (some ⟨g, 0, none⟩))) rfl (by kernel_rfl) (by kernel_rfl) (by kernel_rfl) (fun _ _ _ h => h) (Or.inl ⟨by rfl, fun W hW => by go_simp⟩) (by assumption) ?_
                        simp only [Act.put, List.setIfInBounds_toArray, List.set_cons_zero, List.set_cons_succ]
                        refine wpAnyH_take (i := 25) (oi := ⟨some 76, .fieldAddr 150 (.tmp 75) 5, _, _, _, _⟩) (v := (.pointer (some ⟨g, 6, none⟩))) rfl (by kernel_rfl) (by kernel_rfl) (by kernel_rfl) (fun _ _ _ h => h) (Or.inl ⟨by rfl, fun W hW => by go_simp⟩) (by assumption) ?_
                        simp only [Act.put, List.setIfInBounds_toArray, List.set_cons_zero, List.set_cons_succ]
                        refine wpAnyH_ready (rs := [26]) (by kernel_rfl) (by simp) ?_
                        refine (AllReadyH.cons (o := ⟨none, .store 148 (.tmp 76) (.tmp 74), _, _, _, _⟩) rfl (fun K hK => ?_) AllReadyH.nil)
                        ·
                          have k6 := R9.out.cell 6 rfl
                          have f6 := R9.out.free 6
                          have c4d := (R9.out.set 6 (.slice a9 (j + 2) c9)).cell 4 rfl
                          clear c6 c4
                          go_simp
                          refine hK.out _ _ c4d (fun hHeld => ?_)
                          clear hK K
                          refine wpAnyH_done (by kernel_rfl) ?_ _
                          go_wp2_with fail
                          have LF := LEAF.out _ _ _ _ _ _ A8.out L8.out N8.out C8.out Q8.out _ _ _ HO9.out HG9.out
                          go_roundg (e + 1 - (j + 2))
                          case measure => have := HGH.out; have := HLN.out; have := HC.out; have := HDd.out; omega
                          case rel => obtain ⟨ga5, gc5, AL5, A5, R5, C5, Q5⟩ := LF; exact ⟨ga5, j + 2, gc5, e3, c3, AL5, Lib.hid (by rw [A5.out.own.len]), A5, R5, C5, Q5⟩
            ·
              go_simp
              refine hK.out _ _ c4 (fun hHeld => ?_)
              clear hK K
              refine wpAnyH_take (i := 19) (oi := ⟨some 70, .indexAddr 148 (.tmp 63) (.tmp 69), _, _, _, _⟩) (v := (.pointer (some ⟨b3, o3 + j * 2, none⟩))) rfl (by kernel_rfl) (by kernel_rfl) (by kernel_rfl) (fun _ _ _ h => h) (Or.inl ⟨by rfl, fun W hW => by go_simp⟩) (by assumption) ?_
              simp only [Act.put, List.setIfInBounds_toArray, List.set_cons_zero, List.set_cons_succ]
              refine wpAnyH_ready (rs := [4, 20]) (by kernel_rfl) (by simp) ?_
              refine (AllReadyH.cons (o := ⟨some 55, .load 148 (.tmp 54), _, _, _, _⟩) rfl (fun K hK => ?_) (AllReadyH.cons (o := ⟨some 71, .load 132 (.tmp 70), _, _, _, _⟩) rfl (fun K hK => ?_) AllReadyH.nil))
              ·
                go_simp
                refine hK.out _ _ c4 (fun hHeld => ?_)
                clear hK K
                refine wpAnyH_ready (rs := [20]) (by kernel_rfl) (by simp) ?_
                refine (AllReadyH.cons (o := ⟨some 71, .load 132 (.tmp 70), _, _, _, _⟩) rfl (fun K hK => ?_) AllReadyH.nil)
                ·
                  go_simp
                  refine hK.out _ _ c4 (fun hHeld => ?_)
                  clear hK K
                  refine wpAnyH_ready (rs := [21]) (by kernel_rfl) (by simp) ?_
                  refine (AllReadyH.cons (o := ⟨some 72, .call { callee := .value (.tmp 59), args := #[(.tmp 71)], argTypes := #[132] }, _, _, _, _⟩) rfl (fun K hK => ?_) AllReadyH.nil)
                  ·
                    go_simp
                    go_at_call 94; (refine (NX.out _ (below_drewN wr 1)).mono ?_); rintro en w7 ⟨low', l', a', n', c', rfl, hl', hN', hb7⟩
                    have A7 := Lib.hid (A3.out.on ((below_drewN wr 1).trans hb7))
                    have B8 := Lib.hid (show Below w7.heap.size w7 (w7.alloc (.cells #[.int .i64 low', .slice a' n' c'] 132)) from (Below.refl _ _).alloc (Nat.le_refl _) _)
                    have A8 := Lib.hid (A7.out.on B8.out)
                    have L8 := Lib.hid (hl'.below B8.out)
                    have C8 := Lib.hid ((C3.out.trans (Chg8.of_below ((below_drewN wr 1).trans hb7))).trans (Chg8.of_below B8.out))
                    have Q8 := Lib.hid ((Q3.out.below ((below_drewN wr 1).trans hb7)).below B8.out)
                    have N8 := Lib.hid hN'
                    have c4a := A7.out.row.cell 4 rfl
                    replace c6 := A7.out.row.cell 6 rfl
                    have H48 := Lib.hid (LEN48.out)
                    clear hl' hN' hb7
                    refine hK.out _ _ c4a (fun hHeld => ?_)
                    clear hK K
                    refine wpAnyH_ready (rs := [22]) (by kernel_rfl) (by simp) ?_
                    refine (AllReadyH.cons (o := ⟨some 73, .buildSlice 148 1 #[(0, (.tmp 72))], _, _, _, _⟩) rfl (fun K hK => ?_) AllReadyH.nil)
                    ·
                      go_simp
                      have c4b := A8.out.row.cell 4 rfl
                      replace c6 := A8.out.row.cell 6 rfl
                      refine hK.out _ _ c4b (fun hHeld => ?_)
                      clear hK K
                      refine wpAnyH_ready (rs := [23]) (by kernel_rfl) (by simp) ?_
                      refine (AllReadyH.cons (o := ⟨some 74, .call { callee := .builtin .append, args := #[(.tmp 55), (.tmp 73)], argTypes := #[148, 148] }, _, _, _, _⟩) rfl (fun K hK => ?_) AllReadyH.nil)
                      ·
                        refine ready_stepL (wp_appG lvK Tryd.underlying148 lvInfo rfl _ _ rfl wb.heap.size (.slice (some ⟨b3, o3, none⟩) (j + 1) gc3) AL3 rfl A8.out.own _ 1 1 [⟨low', a', n', c', l'⟩] rfl (oneG _ _ trivial _ _ rfl) LEN48.out A8.out.size (j + 2) LEN1.out ?_)
                        intro a9 c9 w9 ho9 hg9
                        have HO9 := Lib.hid ho9; have HG9 := Lib.hid hg9
                        have R9 := Lib.hid (A8.out.grown hg9).2.2.2.1
                        have c4c := R9.out.cell 4 rfl
                        clear ho9 hg9
                        refine hK.out _ _ c4c (fun hHeld => ?_)
                        clear hK K
                        refine wpAnyH_take (i := 24) (oi := ⟨some 75, .nilCheck (.tmp 51), _, _, _, _⟩) (v := (.pointer (some ⟨g, 0, none⟩))) rfl (by kernel_rfl) (by kernel_rfl) (by kernel_rfl) (fun _ _ _ h => h) (Or.inl ⟨by rfl, fun W hW => by go_simp⟩) (by assumption) ?_
                        simp only [Act.put, List.setIfInBounds_toArray, List.set_cons_zero, List.set_cons_succ]
                        refine wpAnyH_take (i := 25) (oi := ⟨some 76, .fieldAddr 150 (.tmp 75) 5, _, _, _, _⟩) (v := (.pointer (some ⟨g, 6, none⟩))) rfl (by kernel_rfl) (by kernel_rfl) (by kernel_rfl) (fun _ _ _ h => h) (Or.inl ⟨by rfl, fun W hW => by go_simp⟩) (by assumption) ?_
                        simp only [Act.put, List.setIfInBounds_toArray, List.set_cons_zero, List.set_cons_succ]
                        refine wpAnyH_ready (rs := [26]) (by kernel_rfl) (by simp) ?_
                        refine (AllReadyH.cons (o := ⟨none, .store 148 (.tmp 76) (.tmp 74), _, _, _, _⟩) rfl (fun K hK => ?_) AllReadyH.nil)
                        ·
                          have k6 := R9.out.cell 6 rfl
                          have f6 := R9.out.free 6
                          have c4d := (R9.out.set 6 (.slice a9 (j + 2) c9)).cell 4 rfl
                          clear c6 c4
                          go_simp
                          refine hK.out _ _ c4d (fun hHeld => ?_)
                          clear hK K
                          refine wpAnyH_done (by kernel_rfl) ?_ _
                          go_wp2_with fail
                          have LF := LEAF.out _ _ _ _ _ _ A8.out L8.out N8.out C8.out Q8.out _ _ _ HO9.out HG9.out
                          go_roundg (e + 1 - (j + 2))
                          case measure => have := HGH.out; have := HLN.out; have := HC.out; have := HDd.out; omega
                          case rel => obtain ⟨ga5, gc5, AL5, A5, R5, C5, Q5⟩ := LF; exact ⟨ga5, j + 2, gc5, e3, c3, AL5, Lib.hid (by rw [A5.out.own.len]), A5, R5, C5, Q5⟩
              ·
                go_simp
                refine hK.out _ _ c4 (fun hHeld => ?_)
                clear hK K
                refine wpAnyH_ready (rs := [4, 21]) (by kernel_rfl) (by simp) ?_
                refine (AllReadyH.cons (o := ⟨some 55, .load 148 (.tmp 54), _, _, _, _⟩) rfl (fun K hK => ?_) (AllReadyH.cons (o := ⟨some 72, .call { callee := .value (.tmp 59), args := #[(.tmp 71)], argTypes := #[132] }, _, _, _, _⟩) rfl (fun K hK => ?_) AllReadyH.nil))
                ·
                  go_simp
                  refine hK.out _ _ c4 (fun hHeld => ?_)
                  clear hK K
                  refine wpAnyH_ready (rs := [21]) (by kernel_rfl) (by simp) ?_
                  refine (AllReadyH.cons (o := ⟨some 72, .call { callee := .value (.tmp 59), args := #[(.tmp 71)], argTypes := #[132] }, _, _, _, _⟩) rfl (fun K hK => ?_) AllReadyH.nil)
                  ·
                    go_simp
                    go_at_call 94; (refine (NX.out _ (below_drewN wr 1)).mono ?_); rintro en w7 ⟨low', l', a', n', c', rfl, hl', hN', hb7⟩
                    have A7 := Lib.hid (A3.out.on ((below_drewN wr 1).trans hb7))
                    have B8 := Lib.hid (show Below w7.heap.size w7 (w7.alloc (.cells #[.int .i64 low', .slice a' n' c'] 132)) from (Below.refl _ _).alloc (Nat.le_refl _) _)
                    have A8 := Lib.hid (A7.out.on B8.out)
                    have L8 := Lib.hid (hl'.below B8.out)
                    have C8 := Lib.hid ((C3.out.trans (Chg8.of_below ((below_drewN wr 1).trans hb7))).trans (Chg8.of_below B8.out))
                    have Q8 := Lib.hid ((Q3.out.below ((below_drewN wr 1).trans hb7)).below B8.out)
                    have N8 := Lib.hid hN'
                    have c4a := A7.out.row.cell 4 rfl
                    replace c6 := A7.out.row.cell 6 rfl
                    have H48 := Lib.hid (LEN48.out)
                    clear hl' hN' hb7
                    refine hK.out _ _ c4a (fun hHeld => ?_)
                    clear hK K
                    refine wpAnyH_ready (rs := [22]) (by kernel_rfl) (by simp) ?_
                    refine (AllReadyH.cons (o := ⟨some 73, .buildSlice 148 1 #[(0, (.tmp 72))], _, _, _, _⟩) rfl (fun K hK => ?_) AllReadyH.nil)
                    ·
                      go_simp
                      have c4b := A8.out.row.cell 4 rfl
                      replace c6 := A8.out.row.cell 6 rfl
                      refine hK.out _ _ c4b (fun hHeld => ?_)
                      clear hK K
                      refine wpAnyH_ready (rs := [23]) (by kernel_rfl) (by simp) ?_
                      refine (AllReadyH.cons (o := ⟨some 74, .call { callee := .builtin .append, args := #[(.tmp 55), (.tmp 73)], argTypes := #[148, 148] }, _, _, _, _⟩) rfl (fun K hK => ?_) AllReadyH.nil)
                      ·
                        refine ready_stepL (wp_appG lvK Tryd.underlying148 lvInfo rfl _ _ rfl wb.heap.size (.slice (some ⟨b3, o3, none⟩) (j + 1) gc3) AL3 rfl A8.out.own _ 1 1 [⟨low', a', n', c', l'⟩] rfl (oneG _ _ trivial _ _ rfl) LEN48.out A8.out.size (j + 2) LEN1.out ?_)
                        intro a9 c9 w9 ho9 hg9
                        have HO9 := Lib.hid ho9; have HG9 := Lib.hid hg9
                        have R9 := Lib.hid (A8.out.grown hg9).2.2.2.1
                        have c4c := R9.out.cell 4 rfl
                        clear ho9 hg9
                        refine hK.out _ _ c4c (fun hHeld => ?_)
                        clear hK K
                        refine wpAnyH_take (i := 24) (oi := ⟨some 75, .nilCheck (.tmp 51), _, _, _, _⟩) (v := (.pointer (some ⟨g, 0, none⟩))) rfl (by kernel_rfl) (by kernel_rfl) (by kernel_rfl) (fun _ _ _ h => h) (Or.inl ⟨by rfl, fun W hW => by go_simp⟩) (by assumption) ?_
                        simp only [Act.put, List.setIfInBounds_toArray, List.set_cons_zero, List.set_cons_succ]
                        refine wpAnyH_take (i := 25) (oi := ⟨some 76, .fieldAddr 150 (.tmp 75) 5, _, _, _, _⟩) (v := (.pointer (some ⟨g, 6, none⟩))) rfl (by kernel_rfl) (by kernel_rfl) (by kernel_rfl) (fun _ _ _ h => h) (Or.inl ⟨by rfl, fun W hW => by go_simp⟩) (by assumption) ?_
                        simp only [Act.put, List.setIfInBounds_toArray, List.set_cons_zero, List.set_cons_succ]
                        refine wpAnyH_ready (rs := [26]) (by kernel_rfl) (by simp) ?_
                        refine (AllReadyH.cons (o := ⟨none, .store 148 (.tmp 76) (.tmp 74), _, _, _, _⟩) rfl (fun K hK => ?_) AllReadyH.nil)
                        ·
                          have k6 := R9.out.cell 6 rfl
                          have f6 := R9.out.free 6
                          have c4d := (R9.out.set 6 (.slice a9 (j + 2) c9)).cell 4 rfl
                          clear c6 c4
                          go_simp
                          refine hK.out _ _ c4d (fun hHeld => ?_)
                          clear hK K
                          refine wpAnyH_done (by kernel_rfl) ?_ _
                          go_wp2_with fail
                          have LF := LEAF.out _ _ _ _ _ _ A8.out L8.out N8.out C8.out Q8.out _ _ _ HO9.out HG9.out
                          go_roundg (e + 1 - (j + 2))
                          case measure => have := HGH.out; have := HLN.out; have := HC.out; have := HDd.out; omega
                          case rel => obtain ⟨ga5, gc5, AL5, A5, R5, C5, Q5⟩ := LF; exact ⟨ga5, j + 2, gc5, e3, c3, AL5, Lib.hid (by rw [A5.out.own.len]), A5, R5, C5, Q5⟩
                ·
                  go_simp
                  go_at_call 94; (refine (NX.out _ (below_drewN wr 1)).mono ?_); rintro en w7 ⟨low', l', a', n', c', rfl, hl', hN', hb7⟩
                  have A7 := Lib.hid (A3.out.on ((below_drewN wr 1).trans hb7))
                  have B8 := Lib.hid (show Below w7.heap.size w7 (w7.alloc (.cells #[.int .i64 low', .slice a' n' c'] 132)) from (Below.refl _ _).alloc (Nat.le_refl _) _)
                  have A8 := Lib.hid (A7.out.on B8.out)
                  have L8 := Lib.hid (hl'.below B8.out)
                  have C8 := Lib.hid ((C3.out.trans (Chg8.of_below ((below_drewN wr 1).trans hb7))).trans (Chg8.of_below B8.out))
                  have Q8 := Lib.hid ((Q3.out.below ((below_drewN wr 1).trans hb7)).below B8.out)
                  have N8 := Lib.hid hN'
                  have c4a := A7.out.row.cell 4 rfl
                  replace c6 := A7.out.row.cell 6 rfl
                  have H48 := Lib.hid (LEN48.out)
                  clear hl' hN' hb7
                  refine hK.out _ _ c4a (fun hHeld => ?_)
                  clear hK K
                  refine wpAnyH_ready (rs := [4, 22]) (by kernel_rfl) (by simp) ?_
                  refine (AllReadyH.cons (o := ⟨some 55, .load 148 (.tmp 54), _, _, _, _⟩) rfl (fun K hK => ?_) (AllReadyH.cons (o := ⟨some 73, .buildSlice 148 1 #[(0, (.tmp 72))], _, _, _, _⟩) rfl (fun K hK => ?_) AllReadyH.nil))
                  ·
                    go_simp
                    refine hK.out _ _ c4a (fun hHeld => ?_)
                    clear hK K
                    refine wpAnyH_ready (rs := [22]) (by kernel_rfl) (by simp) ?_
                    refine (AllReadyH.cons (o := ⟨some 73, .buildSlice 148 1 #[(0, (.tmp 72))], _, _, _, _⟩) rfl (fun K hK => ?_) AllReadyH.nil)
                    ·
                      go_simp
                      have c4b := A8.out.row.cell 4 rfl
                      replace c6 := A8.out.row.cell 6 rfl
                      refine hK.out _ _ c4b (fun hHeld => ?_)
                      clear hK K
                      refine wpAnyH_ready (rs := [23]) (by kernel_rfl) (by simp) ?_
                      refine (AllReadyH.cons (o := ⟨some 74, .call { callee := .builtin .append, args := #[(.tmp 55), (.tmp 73)], argTypes := #[148, 148] }, _, _, _, _⟩) rfl (fun K hK => ?_) AllReadyH.nil)
                      ·
                        refine ready_stepL (wp_appG lvK Tryd.underlying148 lvInfo rfl _ _ rfl wb.heap.size (.slice (some ⟨b3, o3, none⟩) (j + 1) gc3) AL3 rfl A8.out.own _ 1 1 [⟨low', a', n', c', l'⟩] rfl (oneG _ _ trivial _ _ rfl) LEN48.out A8.out.size (j + 2) LEN1.out ?_)
                        intro a9 c9 w9 ho9 hg9
                        have HO9 := Lib.hid ho9; have HG9 := Lib.hid hg9
                        have R9 := Lib.hid (A8.out.grown hg9).2.2.2.1
                        have c4c := R9.out.cell 4 rfl
                        clear ho9 hg9
                        refine hK.out _ _ c4c (fun hHeld => ?_)
                        clear hK K
                        refine wpAnyH_take (i := 24) (oi := ⟨some 75, .nilCheck (.tmp 51), _, _, _, _⟩) (v := (.pointer (some ⟨g, 0, none⟩))) rfl (by kernel_rfl) (by kernel_rfl) (by kernel_rfl) (fun _ _ _ h => h) (Or.inl ⟨by rfl, fun W hW => by go_simp⟩) (by assumption) ?_
                        simp only [Act.put, List.setIfInBounds_toArray, List.set_cons_zero, List.set_cons_succ]
                        refine wpAnyH_take (i := 25) (oi := ⟨some 76, .fieldAddr 150 (.tmp 75) 5, _, _, _, _⟩) (v := (.pointer (some ⟨g, 6, none⟩))) rfl (by kernel_rfl) (by kernel_rfl) (by kernel_rfl) (fun _ _ _ h => h) (Or.inl ⟨by rfl, fun W hW => by go_simp⟩) (by assumption) ?_
                        simp only [Act.put, List.setIfInBounds_toArray, List.set_cons_zero, List.set_cons_succ]
                        refine wpAnyH_ready (rs := [26]) (by kernel_rfl) (by simp) ?_
                        refine (AllReadyH.cons (o := ⟨none, .store 148 (.tmp 76) (.tmp 74), _, _, _, _⟩) rfl (fun K hK => ?_) AllReadyH.nil)
                        ·
                          have k6 := R9.out.cell 6 rfl
                          have f6 := R9.out.free 6
                          have c4d := (R9.out.set 6 (.slice a9 (j + 2) c9)).cell 4 rfl
                          clear c6 c4
                          go_simp
                          refine hK.out _ _ c4d (fun hHeld => ?_)
                          clear hK K
                          refine wpAnyH_done (by kernel_rfl) ?_ _
                          go_wp2_with fail
                          have LF := LEAF.out _ _ _ _ _ _ A8.out L8.out N8.out C8.out Q8.out _ _ _ HO9.out HG9.out
                          go_roundg (e + 1 - (j + 2))
                          case measure => have := HGH.out; have := HLN.out; have := HC.out; have := HDd.out; omega
                          case rel => obtain ⟨ga5, gc5, AL5, A5, R5, C5, Q5⟩ := LF; exact ⟨ga5, j + 2, gc5, e3, c3, AL5, Lib.hid (by rw [A5.out.own.len]), A5, R5, C5, Q5⟩
                  ·
                    go_simp
                    have c4b := A8.out.row.cell 4 rfl
                    replace c6 := A8.out.row.cell 6 rfl
                    refine hK.out _ _ c4b (fun hHeld => ?_)
                    clear hK K
                    refine wpAnyH_ready (rs := [4]) (by kernel_rfl) (by simp) ?_
                    refine (AllReadyH.cons (o := ⟨some 55, .load 148 (.tmp 54), _, _, _, _⟩) rfl (fun K hK => ?_) AllReadyH.nil)
                    ·
                      go_simp
                      refine hK.out _ _ c4b (fun hHeld => ?_)
                      clear hK K
                      refine wpAnyH_ready (rs := [23]) (by kernel_rfl) (by simp) ?_
                      refine (AllReadyH.cons (o := ⟨some 74, .call { callee := .builtin .append, args := #[(.tmp 55), (.tmp 73)], argTypes := #[148, 148] }, _, _, _, _⟩) rfl (fun K hK => ?_) AllReadyH.nil)
                      ·
                        refine ready_stepL (wp_appG lvK Tryd.underlying148 lvInfo rfl _ _ rfl wb.heap.size (.slice (some ⟨b3, o3, none⟩) (j + 1) gc3) AL3 rfl A8.out.own _ 1 1 [⟨low', a', n', c', l'⟩] rfl (oneG _ _ trivial _ _ rfl) LEN48.out A8.out.size (j + 2) LEN1.out ?_)
                        intro a9 c9 w9 ho9 hg9
                        have HO9 := Lib.hid ho9; have HG9 := Lib.hid hg9
                        have R9 := Lib.hid (A8.out.grown hg9).2.2.2.1
                        have c4c := R9.out.cell 4 rfl
                        clear ho9 hg9
                        refine hK.out _ _ c4c (fun hHeld => ?_)
                        clear hK K
                        refine wpAnyH_take (i := 24) (oi := ⟨some 75, .nilCheck (.tmp 51), _, _, _, _⟩) (v := (.pointer (some ⟨g, 0, none⟩))) rfl (by kernel_rfl) (by kernel_rfl) (by kernel_rfl) (fun _ _ _ h => h) (Or.inl ⟨by rfl, fun W hW => by go_simp⟩) (by assumption) ?_
                        simp only [Act.put, List.setIfInBounds_toArray, List.set_cons_zero, List.set_cons_succ]
                        refine wpAnyH_take (i := 25) (oi := ⟨some 76, .fieldAddr 150 (.tmp 75) 5, _, _, _, _⟩) (v := (.pointer (some ⟨g, 6, none⟩))) rfl (by kernel_rfl) (by kernel_rfl) (by kernel_rfl) (fun _ _ _ h => h) (Or.inl ⟨by rfl, fun W hW => by go_simp⟩) (by assumption) ?_
                        simp only [Act.put, List.setIfInBounds_toArray, List.set_cons_zero, List.set_cons_succ]
                        refine wpAnyH_ready (rs := [26]) (by kernel_rfl) (by simp) ?_
                        refine (AllReadyH.cons (o := ⟨none, .store 148 (.tmp 76) (.tmp 74), _, _, _, _⟩) rfl (fun K hK => ?_) AllReadyH.nil)
                        ·
                          have k6 := R9.out.cell 6 rfl
                          have f6 := R9.out.free 6
                          have c4d := (R9.out.set 6 (.slice a9 (j + 2) c9)).cell 4 rfl
                          clear c6 c4
                          go_simp
                          refine hK.out _ _ c4d (fun hHeld => ?_)
                          clear hK K
                          refine wpAnyH_done (by kernel_rfl) ?_ _
                          go_wp2_with fail
                          have LF := LEAF.out _ _ _ _ _ _ A8.out L8.out N8.out C8.out Q8.out _ _ _ HO9.out HG9.out
                          go_roundg (e + 1 - (j + 2))
                          case measure => have := HGH.out; have := HLN.out; have := HC.out; have := HDd.out; omega
                          case rel => obtain ⟨ga5, gc5, AL5, A5, R5, C5, Q5⟩ := LF; exact ⟨ga5, j + 2, gc5, e3, c3, AL5, Lib.hid (by rw [A5.out.own.len]), A5, R5, C5, Q5⟩
        · have hcb : decide (gn3 ≤ d) = false := by simpa using hc
          have hdn : d < gn3 := by omega
          have hdnI : (d : Int) < (gn3 : Int) := by omega
          have hdI0 : ¬ (gn3 : Int) ≤ (d : Int) := by omega
          obtain ⟨b3, o3, rfl⟩ := A3.out.own.atG.some_ (by omega)
          have hx := A3.out.own.atG.at_ d hdn
          have HX := Lib.hid (A3.out.each d (by rw [HLN.out]; exact hdn))
          obtain ⟨x, hxg⟩ : ∃ x, gd AL3 d = x := ⟨_, rfl⟩
          rw [hxg] at hx HX
          have x0 : wr.cell? ⟨b3, o3 + d * 2, none⟩ = some (.int .i64 x.low) := hx 0 (.int .i64 x.low) rfl
          have x1 : wr.cell? ⟨b3, o3 + d * 2 + 1, none⟩ = some (.slice x.a x.n x.c) := hx 1 (.slice x.a x.n x.c) rfl
          clear hx hxg hc hdn
          go_wp2_with (refine store_row rfl 132 _ _ rfl w.heap.size _ (lstC 0 none 0 0) (lstC x.low x.a x.n x.c) rfl rfl Q3.out rfl infoL (lstC_one _ _ _ _) ?_; intro w9 hr9 hg9 hs9)
          have hne3 : AL3 ≠ [] := R3.out.2.2.2.2.2.2
          have A9 := A3.out.box hne3 Q3.out hg9 HWB.out
          refine bodyPost_ret (results_row rfl _ _ w.heap.size _ _ _ rfl hr9 Tryd.underlying132 rfl infoL) rfl ⟨x, _, _, _, F, e3, c3, AL3, rfl, A9, R3.out, HFF.out.symm, HX.out.1.rows Q3.out (noR_lst _ _ _ _) (by decide) hg9, ?_, ⟨c3 - 64 + d, c3 + 64 - d, ?_, ?_, ?_⟩, C3.out.trans ?_⟩
          · have := HX.out.2.1
            rwa [show F + d = e by have := HDd.out; have := HEF.out; omega] at this
          · have := HX.out.2.2
            rwa [show F + d = e by have := HDd.out; have := HEF.out; omega] at this
          · have h1 := R3.out; obtain ⟨r1, r2, r3, r4, r5, r6, r7⟩ := h1; have := HDd.out; have := HEF.out; omega
          · have h1 := R3.out; obtain ⟨r1, r2, r3, r4, r5, r6, r7⟩ := h1; have := HDd.out; have := HEF.out; omega
          · refine ⟨hg9.size, fun b hb hne ht => hg9.block b hb (fun e => ?_)⟩
            have e2 := Option.some.inj e
            subst e2
            exact ht _ _ Q3.out
#print axioms list_any
end Go.Proofs.YtfoalaoanpbmeaaDoor
