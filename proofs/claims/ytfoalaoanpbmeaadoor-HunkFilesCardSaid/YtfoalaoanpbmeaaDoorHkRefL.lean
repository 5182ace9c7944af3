/-
  The document's Lines, walked.
-/
import Derived.Test.YtfoalaoanpbmeaaDoorHkFilesP
import Derived.Test.YtfoalaoanpbmeaaDoorGrp21
import Derived.Deep.RegionHeld3
import Derived.WalkMore
namespace Go.Proofs.YtfoalaoanpbmeaaDoor
open Go.RowKit Go.Lib

def flK : Kind FileL := ⟨fun f => [.string (strB f.1), .string (strB f.2)], 2, fun _ => True, by decide, fun _ _ => rfl, fun f _ v hv => by
  simp only [List.mem_cons, List.not_mem_nil, or_false] at hv
  rcases hv with rfl | rfl <;> rfl⟩
theorem infoFl : (Tryd.prog.info? FileT).map (fun i => (i.zero, i.size, i.bytes)) = some (some (.agg #[.string ByteArray.empty, .string ByteArray.empty]), 2, 32) := by kernel_rfl
theorem atg_fl {w : World} {a : Option Addr} {n c : Nat} {L : List FileL} (h : FilesAt w a n c L) : AtG flK w a n c L := by
  obtain ⟨h1, h2, h3, h4⟩ := h
  refine ⟨h1, h2, h3, fun _ _ => trivial, ?_⟩
  rcases h4 with h4 | ⟨b, off, ha, hc⟩
  · exact .inl h4
  · refine .inr ⟨b, off, ha, fun j hj i v hv => ?_⟩
    obtain ⟨c0, c1⟩ := hc j hj
    match i, hv with
    | 0, hv => cases hv; exact c0
    | 1, hv => cases hv; exact c1
theorem fl_cell {w : World} {b off n c : Nat} {L : List FileL} (h : AtG flK w (some ⟨b, off, none⟩) n c L) {j : Nat} (hj : j < n) : w.cell? ⟨b, off + j * 2, none⟩ = some (.string (strB (gd L j).1)) ∧ w.cell? ⟨b, off + j * 2 + 1, none⟩ = some (.string (strB (gd L j).2)) := by
  have c0 := h.cell j hj 0 _ rfl
  have c1 := h.cell j hj 1 _ rfl
  exact ⟨c0, c1⟩
theorem gtr_run (x y : Ln) (q : Bool) (h : decide (y < x) = q) (W : World) : (Op.stringOp .gtr (strB x) (strB y)).run Tryd.prog W = .ok (.bool q) W := by
  have e : (!(Op.bytesLess (strB x).toList (strB y).toList || ((strB x).toList == (strB y).toList))) = q := by
    rw [← h, ent_eqH, Lib.toList_data, Lib.toList_data, strB_list, strB_list, bytesLess_eq]
    by_cases h1 : y < x
    · rw [decide_eq_true h1, decide_eq_false (fun h2 => List.lt_irrefl _ (List.lt_trans h1 h2)), decide_eq_false (fun e => by rw [e] at h1; exact List.lt_irrefl _ h1)]; rfl
    · rw [decide_eq_false h1]
      by_cases h2 : x = y
      · rw [decide_eq_true h2]; simp
      · rw [decide_eq_true (lt_of_ne (by simpa using h1) h2)]; rfl
  unfold Op.stringOp
  rw [← e]; rfl
theorem exec_gtr {w : World} {o : Oper} {a : Act} (x y : Ln) (q : Bool) (s1 s2 : Operand) (t r : TypeId) (h : decide (y < x) = q) (ho : o.op = .binOp .gtr t s1 s2 r) (h1 : a.eval s1 = .string (strB x)) (h2 : a.eval s2 = .string (strB y)) : (execOp a.eval o).run Tryd.prog w = .ok (.value (.bool q)) w := by
  have hg := gtr_run x y q h w
  have e : (execOp a.eval o).run Tryd.prog w = (do let v ← Op.stringOp .gtr (strB x) (strB y); pure (Next.value v) : Sem Next).run Tryd.prog w := by
    unfold execOp
    simp only [ho, h1, h2]
    rfl
  rw [e, Sem.run_bind, hg]; rfl
theorem less_yes {x y : Ln} (h : x < y) : Op.bytesLess (strB x).toList (strB y).toList = true := by rw [Lib.toList_data, Lib.toList_data, strB_list, strB_list, bytesLess_eq]; exact decide_eq_true h
theorem less_no {x y : Ln} (h : ¬ x < y) : Op.bytesLess (strB x).toList (strB y).toList = false := by rw [Lib.toList_data, Lib.toList_data, strB_list, strB_list, bytesLess_eq]; exact decide_eq_false h
set_option maxRecDepth 100000 in
set_option maxHeartbeats 8000000 in
theorem refLines_any (a a' : Option Addr) (n c n' c' : Nat) (L L' : List FileL) (w : World) (hL : FilesAt w a n c L) (hL' : FilesAt w a' n' c' L') (hl : ∀ f ∈ L, f.1.length ≤ 1000 ∧ f.2.length ≤ 1000) (hl' : ∀ f ∈ L', f.1.length ≤ 1000 ∧ f.2.length ≤ 1000) (hn : n ≤ 1000) (hn' : n' ≤ 1000) :
    Calls Tryd.prog 17 #[.slice a n c, .slice a' n' c'] w (LinesIs (linesT L L') w) := by
  have HF1 := Lib.hid hL
  have HF2 := Lib.hid hL'
  have HS1 := Lib.hid hl
  have HS2 := Lib.hid hl'
  have HN : Hid (n ≤ 1000 ∧ n' ≤ 1000 ∧ L.length = n ∧ L'.length = n') := Lib.hid ⟨hn, hn', hL.1, hL'.1⟩
  obtain ⟨P, hP⟩ : ∃ P, pathsF L L' = P := ⟨_, rfl⟩
  obtain ⟨R, hR⟩ : ∃ R, linesT L L' = R := ⟨_, rfl⟩
  obtain ⟨X, hX⟩ : ∃ X, byF L = X := ⟨_, rfl⟩
  obtain ⟨Y, hY⟩ : ∃ Y, byF L' = Y := ⟨_, rfl⟩
  obtain ⟨F, hF⟩ : ∃ F, L ++ L' = F := ⟨_, rfl⟩
  have HPU : Hid (P.Pairwise (fun a b => a < b)) := Lib.hid (hP ▸ paths_up L L')
  have HPM : Hid (∀ p, p ∈ P ↔ p ∈ F.map (·.1)) := Lib.hid (fun p => by rw [← hP, ← hF, List.map_append, List.mem_append, paths_mem, byF_keys, byF_keys])
  have HGO : Hid (goL X Y [] (P.drop 0) = R) := Lib.hid (by rw [List.drop_zero, ← hX, ← hY, ← hP]; exact hR)
  have HRE := Lib.hid hR
  have HXY := Lib.hid (⟨hX, hY⟩ : byF L = X ∧ byF L' = Y)
  have HFE := Lib.hid hF
  have HFN : Hid (F.length = n + n') := Lib.hid (by rw [← hF, List.length_append, hL.1, hL'.1])
  have HFS : Hid (∀ f ∈ F, f.1.length ≤ 1000 ∧ f.2.length ≤ 1000) := Lib.hid (fun f hf => by rw [← hF] at hf; rcases List.mem_append.1 hf with h | h; exact hl f h; exact hl' f h)
  have HD0 : Hid (OwnG flK FileT (w.alloc (.cells #[] FileT)) w.heap.size (.slice (some ⟨w.heap.size, 0, none⟩) 0 0) ([] : List FileL)) := Lib.hid (OwnG.lit rfl #[] rfl)
  have hb0 : Below w.heap.size w (w.alloc (.cells #[] FileT)) := (Below.refl _ _).alloc (Nat.le_refl _) _
  have HB0 := Lib.hid hb0
  have HA0 := Lib.hid (atg_fl (hL.below hb0))
  rw [hR]
  clear hL hL' hl hl' hn hn' hP hR hX hY hF hb0
  go_enter Tryd.func17, Tryd.ntmps17
  go_wp2_with (first
    | (at_builtin; (with_reducible show wpList _ _ _ (⟨some 24, _, _, _, _, _⟩ :: _) _ _); go_must (refine appG flK Tryd.underlying36 infoFl rfl rfl _ _ rfl w.heap.size _ ([] : List FileL) rfl HD0.out a n c L rfl HA0.out (by have := HN.out; simp only [List.length_nil]; omega) (by simp) n (by simp) ?_); intro a8 c8 w1 ho hg; have HO1 := Lib.hid ho; have HB1 := Lib.hid (HB0.out.grown hg (by simp) (fun k h => (HD0.out.lt k h).1)); clear ho hg)
    | (at_builtin; go_must (refine appG flK Tryd.underlying36 infoFl rfl rfl _ _ rfl w.heap.size _ L rfl HO1.out a' n' c' L' rfl (atg_fl (HF2.out.below HB1.out)) (by have := HN.out; omega) HB1.out.size (n + n') (by rw [HN.out.2.2.1]) ?_); intro a6 c6 w2 ho hg; have HO2 := Lib.hid ho; have HB2 := Lib.hid (HB1.out.grown hg HB1.out.size (fun k h => (HO1.out.lt k h).1)); clear ho hg))
  obtain ⟨N, hNN⟩ : ∃ N, n + n' = N := ⟨_, rfl⟩
  have HNN : Hid (F.length = N ∧ N ≤ 2000) := Lib.hid ⟨HFN.out.trans hNN, by have := HN.out; omega⟩
  have HFA : Hid (AtG flK w2 a6 N c6 F) := Lib.hid (by have h1 := HO2.out.atG; rw [HFE.out, hNN] at h1; exact h1)
  rw [hNN]
  clear hNN HO1 HO2 HB1 HB0 HD0 HA0
  go_wp2
  go_loopg [7, 8] (P.length + 1) (fun gk v7 v8 W => ∃ (k : Nat) (A : List Ln) (a7 : Option Addr) (n7 c7 : Nat) (a8 : Option Addr) (n8 c8 : Nat), v7 = .slice a7 n7 c7 ∧ v8 = .slice a8 n8 c8 ∧ Hid (gk + k = P.length + 1) ∧ Hid (k ≤ P.length) ∧ Hid (goL X Y A (P.drop k) = R) ∧ Hid (Holds W w2.heap.size [hG lnK 9 (.slice a7 n7 c7) A, hG lnK 9 (.slice a8 n8 c8) (P.take k)]) ∧ Hid (n8 = k) ∧ Hid (A.length ≤ k * 67117057) ∧ Hid (Below w2.heap.size w2 W))
  case atStart => exact ⟨0, [], none, 0, 0, none, 0, 0, rfl, rfl, Lib.hid rfl, Lib.hid (Nat.zero_le _), HGO, Lib.hid ⟨fun h hm => by (rcases List.mem_cons.1 hm with rfl | hm; exact World.ownsRow_nil _ _ _ _; rw [List.mem_singleton.1 hm]; exact World.ownsRow_nil _ _ _ _), List.pairwise_cons.2 ⟨(fun x hx k hk => by cases hk), List.pairwise_singleton _ _⟩⟩, Lib.hid rfl, Lib.hid (Nat.zero_le _), Lib.hid (Below.refl _ _)⟩
  case round =>
    clear HGO
    obtain ⟨k, A, a7, n7, c7, a8, n8, c8, rfl, rfl, HI, HKP, HGO, HHD, HNK, HAL, HBW⟩ := hrel
    go_wp2
    obtain ⟨wo, hwo⟩ : ∃ W, W = wr := ⟨_, rfl⟩
    have HHo := Lib.hid (show Holds wo w2.heap.size [hG lnK 9 (.slice a7 n7 c7) A, hG lnK 9 (.slice a8 n8 c8) (P.take k)] by rw [hwo]; exact HHD.out)
    have HBo := Lib.hid (show Below w2.heap.size w2 wo by rw [hwo]; exact HBW.out)
    have HTO : Hid (AtG lnK wo a8 n8 c8 (P.take k)) := Lib.hid (OwnG.atG (E := 9) (base := w2.heap.size) ⟨HHo.out.own (hG lnK 9 (.slice a8 n8 c8) (P.take k)) (List.mem_cons_of_mem _ (List.mem_cons_self ..)), fun _ _ => trivial⟩)
    have HBWo : Hid (Below wo.heap.size wo wr) := Lib.hid (by rw [hwo]; exact Below.refl _ _)
    clear hwo
    go_loopg [9, 10] N (fun gq v9 v10 W => ∃ (i : Nat) (z : Int), v10 = .int .i64 (i : Nat) ∧ v9 = .int .i64 z ∧ Hid (gq + i = N) ∧ Hid ((z = -1 ∧ bestP (lastP P k) ((F.map (·.1)).take i) = none) ∨ ∃ q : Nat, z = (q : Int) ∧ q < i ∧ bestP (lastP P k) ((F.map (·.1)).take i) = some (gd F q).1) ∧ Hid (Below wo.heap.size wo W))
    case atStart => exact ⟨0, -1, rfl, rfl, Lib.hid rfl, Lib.hid (.inl ⟨rfl, rfl⟩), HBWo⟩
    case round =>
      obtain ⟨i, z, rfl, rfl, HI2, HZ, HBI⟩ := hrel
      by_cases hi : (i : Int) < (N : Int)
      · have HFW := Lib.hid (HFA.out.below (HBo.out.trans (HBI.out.mono HBo.out.size)))
        have HTW := Lib.hid (HTO.out.below HBI.out)
        obtain ⟨b6, o6, rfl⟩ := HFA.out.some_ (by omega)
        obtain ⟨x0, x1⟩ := fl_cell HFW.out (j := i) (by omega)
        have hi0 : (0 : Int) ≤ (i : Int) := by omega
        have W1 : IntKind.i64.wrap ((i : Int) + 1) = (i : Int) + 1 := IntWalk.i64_in _ (by have := HNN.out; omega)
        obtain ⟨⟨p, r⟩, hf⟩ : ∃ f, gd F i = f := ⟨_, rfl⟩
        rw [hf] at x0 x1
        have HIN : Hid (i < N) := Lib.hid (by omega)
        have HFI : Hid (gd F i = (p, r)) := Lib.hid hf
        have HST : Hid (bestP (lastP P k) ((F.map (·.1)).take (i + 1)) = bestS (lastP P k) (bestP (lastP P k) ((F.map (·.1)).take i)) p) := Lib.hid (by
          have hil : i < F.length := by have := HNN.out; omega
          rw [take_snoc (F.map (·.1)) i [] (by rw [List.length_map]; exact hil), best_snoc]
          congr 1
          rw [List.getD_eq_getElem?_getD, List.getElem?_map, List.getElem?_eq_getElem hil]
          have h1 : gd F i = F[i] := by unfold gd; rw [List.getD_eq_getElem?_getD, List.getElem?_eq_getElem hil]; rfl
          rw [hf] at h1
          rw [← h1]; rfl)
        clear hf
        rcases Nat.eq_zero_or_pos k with hk0 | hk0
        · have hn8 : n8 = 0 := by have := HNK.out; omega
          subst hn8
          have HNW : Hid (newP (lastP P k) p = true) := Lib.hid (by rw [hk0]; rfl)
          clear hk0
          rcases HZ.out with ⟨rfl, hb⟩ | ⟨q, rfl, hq, hb⟩
          · have HLP : Hid (lessP (bestP (lastP P k) ((F.map (·.1)).take i)) p = true) := Lib.hid (by rw [hb]; rfl)
            go_wp2
            go_quiet (fail)
            have HBq := Lib.hid (below_drewH HBI.out nq)
            generalize wr.drewN nq = wq at HBq ⊢
            clear x0 x1
            go_wp2
            go_roundg (gk - 1)
            case measure => have h1 := HI2.out; have h2 := HIN.out; omega
            case rel => exact ⟨i + 1, (i : Int), by go_num, rfl, Lib.hid (by have h1 := HI2.out; have h2 := HIN.out; omega), Lib.hid (by rw [HST.out]; unfold bestS; rw [HNW.out, Bool.true_and, HLP.out, if_pos rfl]; exact .inr ⟨i, rfl, by omega, by rw [HFI.out]⟩), HBq⟩
          · obtain ⟨y0, y1⟩ := fl_cell HFW.out (j := q) (by omega)
            obtain ⟨⟨x, rx⟩, hx⟩ : ∃ f, gd F q = f := ⟨_, rfl⟩
            rw [hx] at y0 y1 hb
            have q0 : (0 : Int) ≤ (q : Int) := by omega
            have q1 : (q : Int) < (N : Int) := by omega
            have q2 : decide ((q : Int) < 0) = false := decide_eq_false (by omega)
            by_cases hpx : p < x
            · have HLP : Hid (lessP (bestP (lastP P k) ((F.map (·.1)).take i)) p = true) := Lib.hid (by rw [hb]; exact decide_eq_true hpx)
              have f1 := less_yes hpx
              clear hx hq hb hpx
              go_wp2
              go_quiet (fail)
              have HBq := Lib.hid (below_drewH HBI.out nq)
              generalize wr.drewN nq = wq at HBq ⊢
              clear x0 x1
              go_wp2
              go_roundg (gk - 1)
              case measure => have h1 := HI2.out; have h2 := HIN.out; omega
              case rel => exact ⟨i + 1, (i : Int), by go_num, rfl, Lib.hid (by have h1 := HI2.out; have h2 := HIN.out; omega), Lib.hid (by rw [HST.out]; unfold bestS; rw [HNW.out, Bool.true_and, HLP.out, if_pos rfl]; exact .inr ⟨i, rfl, by omega, by rw [HFI.out]⟩), HBq⟩
            · have HLP : Hid (lessP (bestP (lastP P k) ((F.map (·.1)).take i)) p = false) := Lib.hid (by rw [hb]; exact decide_eq_false hpx)
              have f1 := less_no hpx
              clear hx hq hb hpx
              go_wp2
              go_quiet (fail)
              have HBq := Lib.hid (below_drewH HBI.out nq)
              generalize wr.drewN nq = wq at HBq ⊢
              clear x0 x1
              go_wp2
              go_roundg (gk - 1)
              case measure => have h1 := HI2.out; have h2 := HIN.out; omega
              case rel => exact ⟨i + 1, (q : Int), by go_num, rfl, Lib.hid (by have h1 := HI2.out; have h2 := HIN.out; omega), Lib.hid (by rw [HST.out]; unfold bestS; rw [HNW.out, Bool.true_and, HLP.out, if_neg (by decide)]; rcases HZ.out with ⟨h1, h2⟩ | ⟨q, h1, h2, h3⟩; exact .inl ⟨h1, h2⟩; exact .inr ⟨q, h1, by omega, h3⟩), HBq⟩
        · obtain ⟨m, hm⟩ : ∃ m, m + 1 = n8 := ⟨n8 - 1, by have := HNK.out; omega⟩
          obtain ⟨b8, o8, rfl⟩ := HTO.out.some_ (by omega)
          have x8 := ln_cell HTW.out m (by omega)
          obtain ⟨l, hl⟩ : ∃ l, (P.take k).getD m [] = l := ⟨_, rfl⟩
          rw [hl] at x8
          have W2 : IntKind.i64.wrap ((n8 : Int) - 1) = (m : Int) := by rw [IntWalk.i64_in _ (by have h1 := HTO.out.2.1; have h2 := HTO.out.2.2.1; omega)]; omega
          have m0 : (0 : Int) ≤ (m : Int) := by omega
          have m1 : (m : Int) < (n8 : Int) := by omega
          have e8 : ((n8 : Int) == 0) = false := by rw [beq_eq_false_iff_ne]; omega
          have e8n : ¬ n8 = 0 := by omega
          have hla : lastP P k = some l := by
            have hkm : k = m + 1 := by have := HNK.out; omega
            unfold lastP
            rw [if_neg (by omega), ← hl, hkm, Nat.add_sub_cancel, List.getD_eq_getElem?_getD, List.getD_eq_getElem?_getD, List.getElem?_take_of_lt (by omega)]
          clear hm hl
          by_cases hlp : l < p
          · have HNW : Hid (newP (lastP P k) p = true) := Lib.hid (by rw [hla]; exact decide_eq_true hlp)
            have HGT : Hid (decide (l < p) = true) := Lib.hid (decide_eq_true hlp)
            clear hla hlp
            rcases HZ.out with ⟨rfl, hb⟩ | ⟨q, rfl, hq, hb⟩
            · have HLP : Hid (lessP (bestP (lastP P k) ((F.map (·.1)).take i)) p = true) := Lib.hid (by rw [hb]; rfl)
              go_wp2
              have HBq := Lib.hid HBI.out.drew
              refine wp_region_held_drew (S := fun W => W.cell? ⟨b6, o6 + i * 2, none⟩ = some (.string (strB p)) ∧ W.cell? ⟨b8, o8 + m, none⟩ = some (.string (strB l))) (by kernel_rfl) ⟨x0, x8⟩ (fun hHeld => ?_)
              refine wpAnyH_take (i := 0) (oi := ⟨some 33, .move (.tmp 8), _, _, _, _⟩) (v := (.slice (some ⟨b8, o8, none⟩) n8 c8)) rfl (by kernel_rfl) (by kernel_rfl) (by kernel_rfl) (fun _ _ _ h => h) (Or.inl ⟨by rfl, fun W hW => by go_simp⟩) (by assumption) ?_
              simp only [Act.put, List.setIfInBounds_toArray, List.set_cons_zero, List.set_cons_succ]
              refine wpAnyH_take (i := 1) (oi := ⟨some 34, .call { callee := .builtin .len, args := #[(.tmp 33)], argTypes := #[32] }, _, _, _, _⟩) (v := (.int .i64 (n8 : Nat))) rfl (by kernel_rfl) (by kernel_rfl) (by kernel_rfl) (fun _ _ _ h => h) (Or.inl ⟨by rfl, fun W hW => by go_simp⟩) (by assumption) ?_
              simp only [Act.put, List.setIfInBounds_toArray, List.set_cons_zero, List.set_cons_succ]
              refine wpAnyH_take (i := 2) (oi := ⟨some 35, .binOp .eql 3 (.tmp 34) (.const (.int .i64 0)) 3, _, _, _, _⟩) (v := (.bool false)) rfl (by kernel_rfl) (by kernel_rfl) (by kernel_rfl) (fun _ _ _ h => h) (Or.inl ⟨by rfl, fun W hW => by have hq := e8; go_simp⟩) (by assumption) ?_
              simp only [Act.put, List.setIfInBounds_toArray, List.set_cons_zero, List.set_cons_succ]
              refine wpAnyH_take (i := 3) (oi := ⟨some 36, .move (.tmp 35), _, _, _, _⟩) (v := (.bool false)) rfl (by kernel_rfl) (by kernel_rfl) (by kernel_rfl) (fun _ _ _ h => h) (Or.inl ⟨by rfl, fun W hW => by go_simp⟩) (by assumption) ?_
              simp only [Act.put, List.setIfInBounds_toArray, List.set_cons_zero, List.set_cons_succ]
              refine wpAnyH_take (i := 4) (oi := ⟨some 37, .move (.tmp 6), _, _, _, _⟩) (v := (.slice (some ⟨b6, o6, none⟩) N c6)) rfl (by kernel_rfl) (by kernel_rfl) (by kernel_rfl) (fun _ _ _ h => h) (Or.inl ⟨by rfl, fun W hW => by go_simp⟩) (by assumption) ?_
              simp only [Act.put, List.setIfInBounds_toArray, List.set_cons_zero, List.set_cons_succ]
              refine wpAnyH_take (i := 5) (oi := ⟨some 38, .move (.tmp 10), _, _, _, _⟩) (v := (.int .i64 (i : Nat))) rfl (by kernel_rfl) (by kernel_rfl) (by kernel_rfl) (fun _ _ _ h => h) (Or.inl ⟨by rfl, fun W hW => by go_simp⟩) (by assumption) ?_
              simp only [Act.put, List.setIfInBounds_toArray, List.set_cons_zero, List.set_cons_succ]
              refine wpAnyH_take (i := 6) (oi := ⟨some 39, .indexAddr 36 (.tmp 37) (.tmp 38), _, _, _, _⟩) (v := (.pointer (some ⟨b6, o6 + i * 2, none⟩))) rfl (by kernel_rfl) (by kernel_rfl) (by kernel_rfl) (fun _ _ _ h => h) (Or.inl ⟨by rfl, fun W hW => by go_simp⟩) (by assumption) ?_
              simp only [Act.put, List.setIfInBounds_toArray, List.set_cons_zero, List.set_cons_succ]
              refine wpAnyH_take (i := 7) (oi := ⟨some 40, .fieldAddr 38 (.tmp 39) 0, _, _, _, _⟩) (v := (.pointer (some ⟨b6, o6 + i * 2, none⟩))) rfl (by kernel_rfl) (by kernel_rfl) (by kernel_rfl) (fun _ _ _ h => h) (Or.inl ⟨by rfl, fun W hW => by go_simp⟩) (by assumption) ?_
              simp only [Act.put, List.setIfInBounds_toArray, List.set_cons_zero, List.set_cons_succ]
              refine wpAnyH_take (i := 8) (oi := ⟨some 41, .load 9 (.tmp 40), _, _, _, _⟩) (v := (.string (strB p))) rfl (by kernel_rfl) (by kernel_rfl) (by kernel_rfl) (fun _ _ _ h => h) (Or.inl ⟨by rfl, fun W hW => by have hcell := hW.1; go_simp⟩) (by assumption) ?_
              simp only [Act.put, List.setIfInBounds_toArray, List.set_cons_zero, List.set_cons_succ]
              refine wpAnyH_take (i := 9) (oi := ⟨some 42, .move (.tmp 8), _, _, _, _⟩) (v := (.slice (some ⟨b8, o8, none⟩) n8 c8)) rfl (by kernel_rfl) (by kernel_rfl) (by kernel_rfl) (fun _ _ _ h => h) (Or.inl ⟨by rfl, fun W hW => by go_simp⟩) (by assumption) ?_
              simp only [Act.put, List.setIfInBounds_toArray, List.set_cons_zero, List.set_cons_succ]
              refine wpAnyH_take (i := 10) (oi := ⟨some 43, .move (.tmp 8), _, _, _, _⟩) (v := (.slice (some ⟨b8, o8, none⟩) n8 c8)) rfl (by kernel_rfl) (by kernel_rfl) (by kernel_rfl) (fun _ _ _ h => h) (Or.inl ⟨by rfl, fun W hW => by go_simp⟩) (by assumption) ?_
              simp only [Act.put, List.setIfInBounds_toArray, List.set_cons_zero, List.set_cons_succ]
              refine wpAnyH_take (i := 11) (oi := ⟨some 44, .call { callee := .builtin .len, args := #[(.tmp 43)], argTypes := #[32] }, _, _, _, _⟩) (v := (.int .i64 (n8 : Nat))) rfl (by kernel_rfl) (by kernel_rfl) (by kernel_rfl) (fun _ _ _ h => h) (Or.inl ⟨by rfl, fun W hW => by go_simp⟩) (by assumption) ?_
              simp only [Act.put, List.setIfInBounds_toArray, List.set_cons_zero, List.set_cons_succ]
              refine wpAnyH_take (i := 12) (oi := ⟨some 45, .binOp .sub 3 (.tmp 44) (.const (.int .i64 1)) 3, _, _, _, _⟩) (v := (.int .i64 (m : Nat))) rfl (by kernel_rfl) (by kernel_rfl) (by kernel_rfl) (fun _ _ _ h => h) (Or.inl ⟨by rfl, fun W hW => by have hq := W2; go_simp⟩) (by assumption) ?_
              simp only [Act.put, List.setIfInBounds_toArray, List.set_cons_zero, List.set_cons_succ]
              refine wpAnyH_take (i := 13) (oi := ⟨some 46, .indexAddr 32 (.tmp 42) (.tmp 45), _, _, _, _⟩) (v := (.pointer (some ⟨b8, o8 + m, none⟩))) rfl (by kernel_rfl) (by kernel_rfl) (by kernel_rfl) (fun _ _ _ h => h) (Or.inl ⟨by rfl, fun W hW => by go_simp⟩) (by assumption) ?_
              simp only [Act.put, List.setIfInBounds_toArray, List.set_cons_zero, List.set_cons_succ]
              refine wpAnyH_take (i := 14) (oi := ⟨some 47, .load 9 (.tmp 46), _, _, _, _⟩) (v := (.string (strB l))) rfl (by kernel_rfl) (by kernel_rfl) (by kernel_rfl) (fun _ _ _ h => h) (Or.inl ⟨by rfl, fun W hW => by have hcell := hW.2; go_simp⟩) (by assumption) ?_
              simp only [Act.put, List.setIfInBounds_toArray, List.set_cons_zero, List.set_cons_succ]
              refine wpAnyH_take (i := 15) (oi := ⟨some 48, .binOp .gtr 9 (.tmp 41) (.tmp 47) 9, _, _, _, _⟩) (v := (.bool true)) rfl (by kernel_rfl) (by kernel_rfl) (by kernel_rfl) (fun _ _ _ h => h) (Or.inl ⟨by rfl, fun W hW => exec_gtr p l true _ _ _ _ HGT.out rfl rfl rfl⟩) (by assumption) ?_
              simp only [Act.put, List.setIfInBounds_toArray, List.set_cons_zero, List.set_cons_succ]
              refine wpAnyH_take (i := 16) (oi := ⟨some 49, .pick (.tmp 36) (.const (.bool true)) (.tmp 48), _, _, _, _⟩) (v := (.bool true)) rfl (by kernel_rfl) (by kernel_rfl) (by kernel_rfl) (fun _ _ _ h => h) (Or.inl ⟨by rfl, fun W hW => by go_simp⟩) (by assumption) ?_
              simp only [Act.put, List.setIfInBounds_toArray, List.set_cons_zero, List.set_cons_succ]
              refine wpAnyH_take (i := 17) (oi := ⟨some 50, .move (.tmp 49), _, _, _, _⟩) (v := (.bool true)) rfl (by kernel_rfl) (by kernel_rfl) (by kernel_rfl) (fun _ _ _ h => h) (Or.inl ⟨by rfl, fun W hW => by go_simp⟩) (by assumption) ?_
              simp only [Act.put, List.setIfInBounds_toArray, List.set_cons_zero, List.set_cons_succ]
              refine wpAnyH_take (i := 18) (oi := ⟨some 51, .move (.tmp 9), _, _, _, _⟩) (v := (.int .i64 (-1))) rfl (by kernel_rfl) (by kernel_rfl) (by kernel_rfl) (fun _ _ _ h => h) (Or.inl ⟨by rfl, fun W hW => by go_simp⟩) (by assumption) ?_
              simp only [Act.put, List.setIfInBounds_toArray, List.set_cons_zero, List.set_cons_succ]
              refine wpAnyH_take (i := 19) (oi := ⟨some 52, .binOp .lss 3 (.tmp 51) (.const (.int .i64 0)) 3, _, _, _, _⟩) (v := (.bool true)) rfl (by kernel_rfl) (by kernel_rfl) (by kernel_rfl) (fun _ _ _ h => h) (Or.inl ⟨by rfl, fun W hW => by go_simp⟩) (by assumption) ?_
              simp only [Act.put, List.setIfInBounds_toArray, List.set_cons_zero, List.set_cons_succ]
              refine wpAnyH_take (i := 20) (oi := ⟨some 53, .move (.tmp 52), _, _, _, _⟩) (v := (.bool true)) rfl (by kernel_rfl) (by kernel_rfl) (by kernel_rfl) (fun _ _ _ h => h) (Or.inl ⟨by rfl, fun W hW => by go_simp⟩) (by assumption) ?_
              simp only [Act.put, List.setIfInBounds_toArray, List.set_cons_zero, List.set_cons_succ]
              refine wpAnyH_take (i := 21) (oi := ⟨some 54, .move (.tmp 6), _, _, _, _⟩) (v := undef) rfl (by kernel_rfl) (by kernel_rfl) (by kernel_rfl) (fun _ _ _ h => h) (Or.inr ⟨by rfl, rfl⟩) (by assumption) ?_
              simp only [Act.put, List.setIfInBounds_toArray, List.set_cons_zero, List.set_cons_succ]
              refine wpAnyH_take (i := 22) (oi := ⟨some 55, .move (.tmp 10), _, _, _, _⟩) (v := undef) rfl (by kernel_rfl) (by kernel_rfl) (by kernel_rfl) (fun _ _ _ h => h) (Or.inr ⟨by rfl, rfl⟩) (by assumption) ?_
              simp only [Act.put, List.setIfInBounds_toArray, List.set_cons_zero, List.set_cons_succ]
              refine wpAnyH_take (i := 23) (oi := ⟨some 56, .indexAddr 36 (.tmp 54) (.tmp 55), _, _, _, _⟩) (v := undef) rfl (by kernel_rfl) (by kernel_rfl) (by kernel_rfl) (fun _ _ _ h => h) (Or.inr ⟨by rfl, rfl⟩) (by assumption) ?_
              simp only [Act.put, List.setIfInBounds_toArray, List.set_cons_zero, List.set_cons_succ]
              refine wpAnyH_take (i := 24) (oi := ⟨some 57, .fieldAddr 38 (.tmp 56) 0, _, _, _, _⟩) (v := undef) rfl (by kernel_rfl) (by kernel_rfl) (by kernel_rfl) (fun _ _ _ h => h) (Or.inr ⟨by rfl, rfl⟩) (by assumption) ?_
              simp only [Act.put, List.setIfInBounds_toArray, List.set_cons_zero, List.set_cons_succ]
              refine wpAnyH_take (i := 25) (oi := ⟨some 58, .load 9 (.tmp 57), _, _, _, _⟩) (v := undef) rfl (by kernel_rfl) (by kernel_rfl) (by kernel_rfl) (fun _ _ _ h => h) (Or.inr ⟨by rfl, rfl⟩) (by assumption) ?_
              simp only [Act.put, List.setIfInBounds_toArray, List.set_cons_zero, List.set_cons_succ]
              refine wpAnyH_take (i := 26) (oi := ⟨some 59, .move (.tmp 6), _, _, _, _⟩) (v := undef) rfl (by kernel_rfl) (by kernel_rfl) (by kernel_rfl) (fun _ _ _ h => h) (Or.inr ⟨by rfl, rfl⟩) (by assumption) ?_
              simp only [Act.put, List.setIfInBounds_toArray, List.set_cons_zero, List.set_cons_succ]
              refine wpAnyH_take (i := 27) (oi := ⟨some 60, .move (.tmp 9), _, _, _, _⟩) (v := undef) rfl (by kernel_rfl) (by kernel_rfl) (by kernel_rfl) (fun _ _ _ h => h) (Or.inr ⟨by rfl, rfl⟩) (by assumption) ?_
              simp only [Act.put, List.setIfInBounds_toArray, List.set_cons_zero, List.set_cons_succ]
              refine wpAnyH_take (i := 28) (oi := ⟨some 61, .indexAddr 36 (.tmp 59) (.tmp 60), _, _, _, _⟩) (v := undef) rfl (by kernel_rfl) (by kernel_rfl) (by kernel_rfl) (fun _ _ _ h => h) (Or.inr ⟨by rfl, rfl⟩) (by assumption) ?_
              simp only [Act.put, List.setIfInBounds_toArray, List.set_cons_zero, List.set_cons_succ]
              refine wpAnyH_take (i := 29) (oi := ⟨some 62, .fieldAddr 38 (.tmp 61) 0, _, _, _, _⟩) (v := undef) rfl (by kernel_rfl) (by kernel_rfl) (by kernel_rfl) (fun _ _ _ h => h) (Or.inr ⟨by rfl, rfl⟩) (by assumption) ?_
              simp only [Act.put, List.setIfInBounds_toArray, List.set_cons_zero, List.set_cons_succ]
              refine wpAnyH_take (i := 30) (oi := ⟨some 63, .load 9 (.tmp 62), _, _, _, _⟩) (v := undef) rfl (by kernel_rfl) (by kernel_rfl) (by kernel_rfl) (fun _ _ _ h => h) (Or.inr ⟨by rfl, rfl⟩) (by assumption) ?_
              simp only [Act.put, List.setIfInBounds_toArray, List.set_cons_zero, List.set_cons_succ]
              refine wpAnyH_take (i := 31) (oi := ⟨some 64, .binOp .lss 9 (.tmp 58) (.tmp 63) 9, _, _, _, _⟩) (v := undef) rfl (by kernel_rfl) (by kernel_rfl) (by kernel_rfl) (fun _ _ _ h => h) (Or.inr ⟨by rfl, rfl⟩) (by assumption) ?_
              simp only [Act.put, List.setIfInBounds_toArray, List.set_cons_zero, List.set_cons_succ]
              refine wpAnyH_take (i := 32) (oi := ⟨some 65, .pick (.tmp 53) (.const (.bool true)) (.tmp 64), _, _, _, _⟩) (v := (.bool true)) rfl (by kernel_rfl) (by kernel_rfl) (by kernel_rfl) (fun _ _ _ h => h) (Or.inl ⟨by rfl, fun W hW => by go_simp⟩) (by assumption) ?_
              simp only [Act.put, List.setIfInBounds_toArray, List.set_cons_zero, List.set_cons_succ]
              refine wpAnyH_take (i := 33) (oi := ⟨some 66, .pick (.tmp 50) (.tmp 65) (.const (.bool false)), _, _, _, _⟩) (v := (.bool true)) rfl (by kernel_rfl) (by kernel_rfl) (by kernel_rfl) (fun _ _ _ h => h) (Or.inl ⟨by rfl, fun W hW => by go_simp⟩) (by assumption) ?_
              simp only [Act.put, List.setIfInBounds_toArray, List.set_cons_zero, List.set_cons_succ]
              refine wpAnyH_done (by kernel_rfl) ?_ _
              clear hHeld
              generalize wr.drew = wq at HBq ⊢
              clear x0 x1
              go_wp2
              go_roundg (gk - 1)
              case measure => have h1 := HI2.out; have h2 := HIN.out; omega
              case rel => exact ⟨i + 1, (i : Int), by go_num, rfl, Lib.hid (by have h1 := HI2.out; have h2 := HIN.out; omega), Lib.hid (by rw [HST.out]; unfold bestS; rw [HNW.out, Bool.true_and, HLP.out, if_pos rfl]; exact .inr ⟨i, rfl, by omega, by rw [HFI.out]⟩), HBq⟩
            · obtain ⟨y0, y1⟩ := fl_cell HFW.out (j := q) (by omega)
              obtain ⟨⟨x, rx⟩, hx⟩ : ∃ f, gd F q = f := ⟨_, rfl⟩
              rw [hx] at y0 y1 hb
              have q0 : (0 : Int) ≤ (q : Int) := by omega
              have q1 : (q : Int) < (N : Int) := by omega
              have q2 : decide ((q : Int) < 0) = false := decide_eq_false (by omega)
              by_cases hpx : p < x
              · have HLP : Hid (lessP (bestP (lastP P k) ((F.map (·.1)).take i)) p = true) := Lib.hid (by rw [hb]; exact decide_eq_true hpx)
                have f1 := less_yes hpx
                clear hx hq hb hpx
                go_wp2
                have HBq := Lib.hid HBI.out.drew
                refine wp_region_held_drew (S := fun W => W.cell? ⟨b6, o6 + i * 2, none⟩ = some (.string (strB p)) ∧ W.cell? ⟨b8, o8 + m, none⟩ = some (.string (strB l)) ∧ W.cell? ⟨b6, o6 + q * 2, none⟩ = some (.string (strB x))) (by kernel_rfl) ⟨x0, x8, y0⟩ (fun hHeld => ?_)
                refine wpAnyH_take (i := 0) (oi := ⟨some 33, .move (.tmp 8), _, _, _, _⟩) (v := (.slice (some ⟨b8, o8, none⟩) n8 c8)) rfl (by kernel_rfl) (by kernel_rfl) (by kernel_rfl) (fun _ _ _ h => h) (Or.inl ⟨by rfl, fun W hW => by go_simp⟩) (by assumption) ?_
                simp only [Act.put, List.setIfInBounds_toArray, List.set_cons_zero, List.set_cons_succ]
                refine wpAnyH_take (i := 1) (oi := ⟨some 34, .call { callee := .builtin .len, args := #[(.tmp 33)], argTypes := #[32] }, _, _, _, _⟩) (v := (.int .i64 (n8 : Nat))) rfl (by kernel_rfl) (by kernel_rfl) (by kernel_rfl) (fun _ _ _ h => h) (Or.inl ⟨by rfl, fun W hW => by go_simp⟩) (by assumption) ?_
                simp only [Act.put, List.setIfInBounds_toArray, List.set_cons_zero, List.set_cons_succ]
                refine wpAnyH_take (i := 2) (oi := ⟨some 35, .binOp .eql 3 (.tmp 34) (.const (.int .i64 0)) 3, _, _, _, _⟩) (v := (.bool false)) rfl (by kernel_rfl) (by kernel_rfl) (by kernel_rfl) (fun _ _ _ h => h) (Or.inl ⟨by rfl, fun W hW => by have hq := e8; go_simp⟩) (by assumption) ?_
                simp only [Act.put, List.setIfInBounds_toArray, List.set_cons_zero, List.set_cons_succ]
                refine wpAnyH_take (i := 3) (oi := ⟨some 36, .move (.tmp 35), _, _, _, _⟩) (v := (.bool false)) rfl (by kernel_rfl) (by kernel_rfl) (by kernel_rfl) (fun _ _ _ h => h) (Or.inl ⟨by rfl, fun W hW => by go_simp⟩) (by assumption) ?_
                simp only [Act.put, List.setIfInBounds_toArray, List.set_cons_zero, List.set_cons_succ]
                refine wpAnyH_take (i := 4) (oi := ⟨some 37, .move (.tmp 6), _, _, _, _⟩) (v := (.slice (some ⟨b6, o6, none⟩) N c6)) rfl (by kernel_rfl) (by kernel_rfl) (by kernel_rfl) (fun _ _ _ h => h) (Or.inl ⟨by rfl, fun W hW => by go_simp⟩) (by assumption) ?_
                simp only [Act.put, List.setIfInBounds_toArray, List.set_cons_zero, List.set_cons_succ]
                refine wpAnyH_take (i := 5) (oi := ⟨some 38, .move (.tmp 10), _, _, _, _⟩) (v := (.int .i64 (i : Nat))) rfl (by kernel_rfl) (by kernel_rfl) (by kernel_rfl) (fun _ _ _ h => h) (Or.inl ⟨by rfl, fun W hW => by go_simp⟩) (by assumption) ?_
                simp only [Act.put, List.setIfInBounds_toArray, List.set_cons_zero, List.set_cons_succ]
                refine wpAnyH_take (i := 6) (oi := ⟨some 39, .indexAddr 36 (.tmp 37) (.tmp 38), _, _, _, _⟩) (v := (.pointer (some ⟨b6, o6 + i * 2, none⟩))) rfl (by kernel_rfl) (by kernel_rfl) (by kernel_rfl) (fun _ _ _ h => h) (Or.inl ⟨by rfl, fun W hW => by go_simp⟩) (by assumption) ?_
                simp only [Act.put, List.setIfInBounds_toArray, List.set_cons_zero, List.set_cons_succ]
                refine wpAnyH_take (i := 7) (oi := ⟨some 40, .fieldAddr 38 (.tmp 39) 0, _, _, _, _⟩) (v := (.pointer (some ⟨b6, o6 + i * 2, none⟩))) rfl (by kernel_rfl) (by kernel_rfl) (by kernel_rfl) (fun _ _ _ h => h) (Or.inl ⟨by rfl, fun W hW => by go_simp⟩) (by assumption) ?_
                simp only [Act.put, List.setIfInBounds_toArray, List.set_cons_zero, List.set_cons_succ]
                refine wpAnyH_take (i := 8) (oi := ⟨some 41, .load 9 (.tmp 40), _, _, _, _⟩) (v := (.string (strB p))) rfl (by kernel_rfl) (by kernel_rfl) (by kernel_rfl) (fun _ _ _ h => h) (Or.inl ⟨by rfl, fun W hW => by have hcell := hW.1; go_simp⟩) (by assumption) ?_
                simp only [Act.put, List.setIfInBounds_toArray, List.set_cons_zero, List.set_cons_succ]
                refine wpAnyH_take (i := 9) (oi := ⟨some 42, .move (.tmp 8), _, _, _, _⟩) (v := (.slice (some ⟨b8, o8, none⟩) n8 c8)) rfl (by kernel_rfl) (by kernel_rfl) (by kernel_rfl) (fun _ _ _ h => h) (Or.inl ⟨by rfl, fun W hW => by go_simp⟩) (by assumption) ?_
                simp only [Act.put, List.setIfInBounds_toArray, List.set_cons_zero, List.set_cons_succ]
                refine wpAnyH_take (i := 10) (oi := ⟨some 43, .move (.tmp 8), _, _, _, _⟩) (v := (.slice (some ⟨b8, o8, none⟩) n8 c8)) rfl (by kernel_rfl) (by kernel_rfl) (by kernel_rfl) (fun _ _ _ h => h) (Or.inl ⟨by rfl, fun W hW => by go_simp⟩) (by assumption) ?_
                simp only [Act.put, List.setIfInBounds_toArray, List.set_cons_zero, List.set_cons_succ]
                refine wpAnyH_take (i := 11) (oi := ⟨some 44, .call { callee := .builtin .len, args := #[(.tmp 43)], argTypes := #[32] }, _, _, _, _⟩) (v := (.int .i64 (n8 : Nat))) rfl (by kernel_rfl) (by kernel_rfl) (by kernel_rfl) (fun _ _ _ h => h) (Or.inl ⟨by rfl, fun W hW => by go_simp⟩) (by assumption) ?_
                simp only [Act.put, List.setIfInBounds_toArray, List.set_cons_zero, List.set_cons_succ]
                refine wpAnyH_take (i := 12) (oi := ⟨some 45, .binOp .sub 3 (.tmp 44) (.const (.int .i64 1)) 3, _, _, _, _⟩) (v := (.int .i64 (m : Nat))) rfl (by kernel_rfl) (by kernel_rfl) (by kernel_rfl) (fun _ _ _ h => h) (Or.inl ⟨by rfl, fun W hW => by have hq := W2; go_simp⟩) (by assumption) ?_
                simp only [Act.put, List.setIfInBounds_toArray, List.set_cons_zero, List.set_cons_succ]
                refine wpAnyH_take (i := 13) (oi := ⟨some 46, .indexAddr 32 (.tmp 42) (.tmp 45), _, _, _, _⟩) (v := (.pointer (some ⟨b8, o8 + m, none⟩))) rfl (by kernel_rfl) (by kernel_rfl) (by kernel_rfl) (fun _ _ _ h => h) (Or.inl ⟨by rfl, fun W hW => by go_simp⟩) (by assumption) ?_
                simp only [Act.put, List.setIfInBounds_toArray, List.set_cons_zero, List.set_cons_succ]
                refine wpAnyH_take (i := 14) (oi := ⟨some 47, .load 9 (.tmp 46), _, _, _, _⟩) (v := (.string (strB l))) rfl (by kernel_rfl) (by kernel_rfl) (by kernel_rfl) (fun _ _ _ h => h) (Or.inl ⟨by rfl, fun W hW => by have hcell := hW.2.1; go_simp⟩) (by assumption) ?_
                simp only [Act.put, List.setIfInBounds_toArray, List.set_cons_zero, List.set_cons_succ]
                refine wpAnyH_take (i := 15) (oi := ⟨some 48, .binOp .gtr 9 (.tmp 41) (.tmp 47) 9, _, _, _, _⟩) (v := (.bool true)) rfl (by kernel_rfl) (by kernel_rfl) (by kernel_rfl) (fun _ _ _ h => h) (Or.inl ⟨by rfl, fun W hW => exec_gtr p l true _ _ _ _ HGT.out rfl rfl rfl⟩) (by assumption) ?_
                simp only [Act.put, List.setIfInBounds_toArray, List.set_cons_zero, List.set_cons_succ]
                refine wpAnyH_take (i := 16) (oi := ⟨some 49, .pick (.tmp 36) (.const (.bool true)) (.tmp 48), _, _, _, _⟩) (v := (.bool true)) rfl (by kernel_rfl) (by kernel_rfl) (by kernel_rfl) (fun _ _ _ h => h) (Or.inl ⟨by rfl, fun W hW => by go_simp⟩) (by assumption) ?_
                simp only [Act.put, List.setIfInBounds_toArray, List.set_cons_zero, List.set_cons_succ]
                refine wpAnyH_take (i := 17) (oi := ⟨some 50, .move (.tmp 49), _, _, _, _⟩) (v := (.bool true)) rfl (by kernel_rfl) (by kernel_rfl) (by kernel_rfl) (fun _ _ _ h => h) (Or.inl ⟨by rfl, fun W hW => by go_simp⟩) (by assumption) ?_
                simp only [Act.put, List.setIfInBounds_toArray, List.set_cons_zero, List.set_cons_succ]
                refine wpAnyH_take (i := 18) (oi := ⟨some 51, .move (.tmp 9), _, _, _, _⟩) (v := (.int .i64 (q : Nat))) rfl (by kernel_rfl) (by kernel_rfl) (by kernel_rfl) (fun _ _ _ h => h) (Or.inl ⟨by rfl, fun W hW => by go_simp⟩) (by assumption) ?_
                simp only [Act.put, List.setIfInBounds_toArray, List.set_cons_zero, List.set_cons_succ]
                refine wpAnyH_take (i := 19) (oi := ⟨some 52, .binOp .lss 3 (.tmp 51) (.const (.int .i64 0)) 3, _, _, _, _⟩) (v := (.bool false)) rfl (by kernel_rfl) (by kernel_rfl) (by kernel_rfl) (fun _ _ _ h => h) (Or.inl ⟨by rfl, fun W hW => by have hq := q2; go_simp⟩) (by assumption) ?_
                simp only [Act.put, List.setIfInBounds_toArray, List.set_cons_zero, List.set_cons_succ]
                refine wpAnyH_take (i := 20) (oi := ⟨some 53, .move (.tmp 52), _, _, _, _⟩) (v := (.bool false)) rfl (by kernel_rfl) (by kernel_rfl) (by kernel_rfl) (fun _ _ _ h => h) (Or.inl ⟨by rfl, fun W hW => by go_simp⟩) (by assumption) ?_
                simp only [Act.put, List.setIfInBounds_toArray, List.set_cons_zero, List.set_cons_succ]
                refine wpAnyH_take (i := 21) (oi := ⟨some 54, .move (.tmp 6), _, _, _, _⟩) (v := (.slice (some ⟨b6, o6, none⟩) N c6)) rfl (by kernel_rfl) (by kernel_rfl) (by kernel_rfl) (fun _ _ _ h => h) (Or.inl ⟨by rfl, fun W hW => by go_simp⟩) (by assumption) ?_
                simp only [Act.put, List.setIfInBounds_toArray, List.set_cons_zero, List.set_cons_succ]
                refine wpAnyH_take (i := 22) (oi := ⟨some 55, .move (.tmp 10), _, _, _, _⟩) (v := (.int .i64 (i : Nat))) rfl (by kernel_rfl) (by kernel_rfl) (by kernel_rfl) (fun _ _ _ h => h) (Or.inl ⟨by rfl, fun W hW => by go_simp⟩) (by assumption) ?_
                simp only [Act.put, List.setIfInBounds_toArray, List.set_cons_zero, List.set_cons_succ]
                refine wpAnyH_take (i := 23) (oi := ⟨some 56, .indexAddr 36 (.tmp 54) (.tmp 55), _, _, _, _⟩) (v := (.pointer (some ⟨b6, o6 + i * 2, none⟩))) rfl (by kernel_rfl) (by kernel_rfl) (by kernel_rfl) (fun _ _ _ h => h) (Or.inl ⟨by rfl, fun W hW => by go_simp⟩) (by assumption) ?_
                simp only [Act.put, List.setIfInBounds_toArray, List.set_cons_zero, List.set_cons_succ]
                refine wpAnyH_take (i := 24) (oi := ⟨some 57, .fieldAddr 38 (.tmp 56) 0, _, _, _, _⟩) (v := (.pointer (some ⟨b6, o6 + i * 2, none⟩))) rfl (by kernel_rfl) (by kernel_rfl) (by kernel_rfl) (fun _ _ _ h => h) (Or.inl ⟨by rfl, fun W hW => by go_simp⟩) (by assumption) ?_
                simp only [Act.put, List.setIfInBounds_toArray, List.set_cons_zero, List.set_cons_succ]
                refine wpAnyH_take (i := 25) (oi := ⟨some 58, .load 9 (.tmp 57), _, _, _, _⟩) (v := (.string (strB p))) rfl (by kernel_rfl) (by kernel_rfl) (by kernel_rfl) (fun _ _ _ h => h) (Or.inl ⟨by rfl, fun W hW => by have hcell := hW.1; go_simp⟩) (by assumption) ?_
                simp only [Act.put, List.setIfInBounds_toArray, List.set_cons_zero, List.set_cons_succ]
                refine wpAnyH_take (i := 26) (oi := ⟨some 59, .move (.tmp 6), _, _, _, _⟩) (v := (.slice (some ⟨b6, o6, none⟩) N c6)) rfl (by kernel_rfl) (by kernel_rfl) (by kernel_rfl) (fun _ _ _ h => h) (Or.inl ⟨by rfl, fun W hW => by go_simp⟩) (by assumption) ?_
                simp only [Act.put, List.setIfInBounds_toArray, List.set_cons_zero, List.set_cons_succ]
                refine wpAnyH_take (i := 27) (oi := ⟨some 60, .move (.tmp 9), _, _, _, _⟩) (v := (.int .i64 (q : Nat))) rfl (by kernel_rfl) (by kernel_rfl) (by kernel_rfl) (fun _ _ _ h => h) (Or.inl ⟨by rfl, fun W hW => by go_simp⟩) (by assumption) ?_
                simp only [Act.put, List.setIfInBounds_toArray, List.set_cons_zero, List.set_cons_succ]
                refine wpAnyH_take (i := 28) (oi := ⟨some 61, .indexAddr 36 (.tmp 59) (.tmp 60), _, _, _, _⟩) (v := (.pointer (some ⟨b6, o6 + q * 2, none⟩))) rfl (by kernel_rfl) (by kernel_rfl) (by kernel_rfl) (fun _ _ _ h => h) (Or.inl ⟨by rfl, fun W hW => by go_simp⟩) (by assumption) ?_
                simp only [Act.put, List.setIfInBounds_toArray, List.set_cons_zero, List.set_cons_succ]
                refine wpAnyH_take (i := 29) (oi := ⟨some 62, .fieldAddr 38 (.tmp 61) 0, _, _, _, _⟩) (v := (.pointer (some ⟨b6, o6 + q * 2, none⟩))) rfl (by kernel_rfl) (by kernel_rfl) (by kernel_rfl) (fun _ _ _ h => h) (Or.inl ⟨by rfl, fun W hW => by go_simp⟩) (by assumption) ?_
                simp only [Act.put, List.setIfInBounds_toArray, List.set_cons_zero, List.set_cons_succ]
                refine wpAnyH_take (i := 30) (oi := ⟨some 63, .load 9 (.tmp 62), _, _, _, _⟩) (v := (.string (strB x))) rfl (by kernel_rfl) (by kernel_rfl) (by kernel_rfl) (fun _ _ _ h => h) (Or.inl ⟨by rfl, fun W hW => by have hcell := hW.2.2; go_simp⟩) (by assumption) ?_
                simp only [Act.put, List.setIfInBounds_toArray, List.set_cons_zero, List.set_cons_succ]
                refine wpAnyH_take (i := 31) (oi := ⟨some 64, .binOp .lss 9 (.tmp 58) (.tmp 63) 9, _, _, _, _⟩) (v := (.bool true)) rfl (by kernel_rfl) (by kernel_rfl) (by kernel_rfl) (fun _ _ _ h => h) (Or.inl ⟨by rfl, fun W hW => by have hq := f1; go_simp⟩) (by assumption) ?_
                simp only [Act.put, List.setIfInBounds_toArray, List.set_cons_zero, List.set_cons_succ]
                refine wpAnyH_take (i := 32) (oi := ⟨some 65, .pick (.tmp 53) (.const (.bool true)) (.tmp 64), _, _, _, _⟩) (v := (.bool true)) rfl (by kernel_rfl) (by kernel_rfl) (by kernel_rfl) (fun _ _ _ h => h) (Or.inl ⟨by rfl, fun W hW => by go_simp⟩) (by assumption) ?_
                simp only [Act.put, List.setIfInBounds_toArray, List.set_cons_zero, List.set_cons_succ]
                refine wpAnyH_take (i := 33) (oi := ⟨some 66, .pick (.tmp 50) (.tmp 65) (.const (.bool false)), _, _, _, _⟩) (v := (.bool true)) rfl (by kernel_rfl) (by kernel_rfl) (by kernel_rfl) (fun _ _ _ h => h) (Or.inl ⟨by rfl, fun W hW => by go_simp⟩) (by assumption) ?_
                simp only [Act.put, List.setIfInBounds_toArray, List.set_cons_zero, List.set_cons_succ]
                refine wpAnyH_done (by kernel_rfl) ?_ _
                clear hHeld
                generalize wr.drew = wq at HBq ⊢
                clear x0 x1
                go_wp2
                go_roundg (gk - 1)
                case measure => have h1 := HI2.out; have h2 := HIN.out; omega
                case rel => exact ⟨i + 1, (i : Int), by go_num, rfl, Lib.hid (by have h1 := HI2.out; have h2 := HIN.out; omega), Lib.hid (by rw [HST.out]; unfold bestS; rw [HNW.out, Bool.true_and, HLP.out, if_pos rfl]; exact .inr ⟨i, rfl, by omega, by rw [HFI.out]⟩), HBq⟩
              · have HLP : Hid (lessP (bestP (lastP P k) ((F.map (·.1)).take i)) p = false) := Lib.hid (by rw [hb]; exact decide_eq_false hpx)
                have f1 := less_no hpx
                clear hx hq hb hpx
                go_wp2
                have HBq := Lib.hid HBI.out.drew
                refine wp_region_held_drew (S := fun W => W.cell? ⟨b6, o6 + i * 2, none⟩ = some (.string (strB p)) ∧ W.cell? ⟨b8, o8 + m, none⟩ = some (.string (strB l)) ∧ W.cell? ⟨b6, o6 + q * 2, none⟩ = some (.string (strB x))) (by kernel_rfl) ⟨x0, x8, y0⟩ (fun hHeld => ?_)
                refine wpAnyH_take (i := 0) (oi := ⟨some 33, .move (.tmp 8), _, _, _, _⟩) (v := (.slice (some ⟨b8, o8, none⟩) n8 c8)) rfl (by kernel_rfl) (by kernel_rfl) (by kernel_rfl) (fun _ _ _ h => h) (Or.inl ⟨by rfl, fun W hW => by go_simp⟩) (by assumption) ?_
                simp only [Act.put, List.setIfInBounds_toArray, List.set_cons_zero, List.set_cons_succ]
                refine wpAnyH_take (i := 1) (oi := ⟨some 34, .call { callee := .builtin .len, args := #[(.tmp 33)], argTypes := #[32] }, _, _, _, _⟩) (v := (.int .i64 (n8 : Nat))) rfl (by kernel_rfl) (by kernel_rfl) (by kernel_rfl) (fun _ _ _ h => h) (Or.inl ⟨by rfl, fun W hW => by go_simp⟩) (by assumption) ?_
                simp only [Act.put, List.setIfInBounds_toArray, List.set_cons_zero, List.set_cons_succ]
                refine wpAnyH_take (i := 2) (oi := ⟨some 35, .binOp .eql 3 (.tmp 34) (.const (.int .i64 0)) 3, _, _, _, _⟩) (v := (.bool false)) rfl (by kernel_rfl) (by kernel_rfl) (by kernel_rfl) (fun _ _ _ h => h) (Or.inl ⟨by rfl, fun W hW => by have hq := e8; go_simp⟩) (by assumption) ?_
                simp only [Act.put, List.setIfInBounds_toArray, List.set_cons_zero, List.set_cons_succ]
                refine wpAnyH_take (i := 3) (oi := ⟨some 36, .move (.tmp 35), _, _, _, _⟩) (v := (.bool false)) rfl (by kernel_rfl) (by kernel_rfl) (by kernel_rfl) (fun _ _ _ h => h) (Or.inl ⟨by rfl, fun W hW => by go_simp⟩) (by assumption) ?_
                simp only [Act.put, List.setIfInBounds_toArray, List.set_cons_zero, List.set_cons_succ]
                refine wpAnyH_take (i := 4) (oi := ⟨some 37, .move (.tmp 6), _, _, _, _⟩) (v := (.slice (some ⟨b6, o6, none⟩) N c6)) rfl (by kernel_rfl) (by kernel_rfl) (by kernel_rfl) (fun _ _ _ h => h) (Or.inl ⟨by rfl, fun W hW => by go_simp⟩) (by assumption) ?_
                simp only [Act.put, List.setIfInBounds_toArray, List.set_cons_zero, List.set_cons_succ]
                refine wpAnyH_take (i := 5) (oi := ⟨some 38, .move (.tmp 10), _, _, _, _⟩) (v := (.int .i64 (i : Nat))) rfl (by kernel_rfl) (by kernel_rfl) (by kernel_rfl) (fun _ _ _ h => h) (Or.inl ⟨by rfl, fun W hW => by go_simp⟩) (by assumption) ?_
                simp only [Act.put, List.setIfInBounds_toArray, List.set_cons_zero, List.set_cons_succ]
                refine wpAnyH_take (i := 6) (oi := ⟨some 39, .indexAddr 36 (.tmp 37) (.tmp 38), _, _, _, _⟩) (v := (.pointer (some ⟨b6, o6 + i * 2, none⟩))) rfl (by kernel_rfl) (by kernel_rfl) (by kernel_rfl) (fun _ _ _ h => h) (Or.inl ⟨by rfl, fun W hW => by go_simp⟩) (by assumption) ?_
                simp only [Act.put, List.setIfInBounds_toArray, List.set_cons_zero, List.set_cons_succ]
                refine wpAnyH_take (i := 7) (oi := ⟨some 40, .fieldAddr 38 (.tmp 39) 0, _, _, _, _⟩) (v := (.pointer (some ⟨b6, o6 + i * 2, none⟩))) rfl (by kernel_rfl) (by kernel_rfl) (by kernel_rfl) (fun _ _ _ h => h) (Or.inl ⟨by rfl, fun W hW => by go_simp⟩) (by assumption) ?_
                simp only [Act.put, List.setIfInBounds_toArray, List.set_cons_zero, List.set_cons_succ]
                refine wpAnyH_take (i := 8) (oi := ⟨some 41, .load 9 (.tmp 40), _, _, _, _⟩) (v := (.string (strB p))) rfl (by kernel_rfl) (by kernel_rfl) (by kernel_rfl) (fun _ _ _ h => h) (Or.inl ⟨by rfl, fun W hW => by have hcell := hW.1; go_simp⟩) (by assumption) ?_
                simp only [Act.put, List.setIfInBounds_toArray, List.set_cons_zero, List.set_cons_succ]
                refine wpAnyH_take (i := 9) (oi := ⟨some 42, .move (.tmp 8), _, _, _, _⟩) (v := (.slice (some ⟨b8, o8, none⟩) n8 c8)) rfl (by kernel_rfl) (by kernel_rfl) (by kernel_rfl) (fun _ _ _ h => h) (Or.inl ⟨by rfl, fun W hW => by go_simp⟩) (by assumption) ?_
                simp only [Act.put, List.setIfInBounds_toArray, List.set_cons_zero, List.set_cons_succ]
                refine wpAnyH_take (i := 10) (oi := ⟨some 43, .move (.tmp 8), _, _, _, _⟩) (v := (.slice (some ⟨b8, o8, none⟩) n8 c8)) rfl (by kernel_rfl) (by kernel_rfl) (by kernel_rfl) (fun _ _ _ h => h) (Or.inl ⟨by rfl, fun W hW => by go_simp⟩) (by assumption) ?_
                simp only [Act.put, List.setIfInBounds_toArray, List.set_cons_zero, List.set_cons_succ]
                refine wpAnyH_take (i := 11) (oi := ⟨some 44, .call { callee := .builtin .len, args := #[(.tmp 43)], argTypes := #[32] }, _, _, _, _⟩) (v := (.int .i64 (n8 : Nat))) rfl (by kernel_rfl) (by kernel_rfl) (by kernel_rfl) (fun _ _ _ h => h) (Or.inl ⟨by rfl, fun W hW => by go_simp⟩) (by assumption) ?_
                simp only [Act.put, List.setIfInBounds_toArray, List.set_cons_zero, List.set_cons_succ]
                refine wpAnyH_take (i := 12) (oi := ⟨some 45, .binOp .sub 3 (.tmp 44) (.const (.int .i64 1)) 3, _, _, _, _⟩) (v := (.int .i64 (m : Nat))) rfl (by kernel_rfl) (by kernel_rfl) (by kernel_rfl) (fun _ _ _ h => h) (Or.inl ⟨by rfl, fun W hW => by have hq := W2; go_simp⟩) (by assumption) ?_
                simp only [Act.put, List.setIfInBounds_toArray, List.set_cons_zero, List.set_cons_succ]
                refine wpAnyH_take (i := 13) (oi := ⟨some 46, .indexAddr 32 (.tmp 42) (.tmp 45), _, _, _, _⟩) (v := (.pointer (some ⟨b8, o8 + m, none⟩))) rfl (by kernel_rfl) (by kernel_rfl) (by kernel_rfl) (fun _ _ _ h => h) (Or.inl ⟨by rfl, fun W hW => by go_simp⟩) (by assumption) ?_
                simp only [Act.put, List.setIfInBounds_toArray, List.set_cons_zero, List.set_cons_succ]
                refine wpAnyH_take (i := 14) (oi := ⟨some 47, .load 9 (.tmp 46), _, _, _, _⟩) (v := (.string (strB l))) rfl (by kernel_rfl) (by kernel_rfl) (by kernel_rfl) (fun _ _ _ h => h) (Or.inl ⟨by rfl, fun W hW => by have hcell := hW.2.1; go_simp⟩) (by assumption) ?_
                simp only [Act.put, List.setIfInBounds_toArray, List.set_cons_zero, List.set_cons_succ]
                refine wpAnyH_take (i := 15) (oi := ⟨some 48, .binOp .gtr 9 (.tmp 41) (.tmp 47) 9, _, _, _, _⟩) (v := (.bool true)) rfl (by kernel_rfl) (by kernel_rfl) (by kernel_rfl) (fun _ _ _ h => h) (Or.inl ⟨by rfl, fun W hW => exec_gtr p l true _ _ _ _ HGT.out rfl rfl rfl⟩) (by assumption) ?_
                simp only [Act.put, List.setIfInBounds_toArray, List.set_cons_zero, List.set_cons_succ]
                refine wpAnyH_take (i := 16) (oi := ⟨some 49, .pick (.tmp 36) (.const (.bool true)) (.tmp 48), _, _, _, _⟩) (v := (.bool true)) rfl (by kernel_rfl) (by kernel_rfl) (by kernel_rfl) (fun _ _ _ h => h) (Or.inl ⟨by rfl, fun W hW => by go_simp⟩) (by assumption) ?_
                simp only [Act.put, List.setIfInBounds_toArray, List.set_cons_zero, List.set_cons_succ]
                refine wpAnyH_take (i := 17) (oi := ⟨some 50, .move (.tmp 49), _, _, _, _⟩) (v := (.bool true)) rfl (by kernel_rfl) (by kernel_rfl) (by kernel_rfl) (fun _ _ _ h => h) (Or.inl ⟨by rfl, fun W hW => by go_simp⟩) (by assumption) ?_
                simp only [Act.put, List.setIfInBounds_toArray, List.set_cons_zero, List.set_cons_succ]
                refine wpAnyH_take (i := 18) (oi := ⟨some 51, .move (.tmp 9), _, _, _, _⟩) (v := (.int .i64 (q : Nat))) rfl (by kernel_rfl) (by kernel_rfl) (by kernel_rfl) (fun _ _ _ h => h) (Or.inl ⟨by rfl, fun W hW => by go_simp⟩) (by assumption) ?_
                simp only [Act.put, List.setIfInBounds_toArray, List.set_cons_zero, List.set_cons_succ]
                refine wpAnyH_take (i := 19) (oi := ⟨some 52, .binOp .lss 3 (.tmp 51) (.const (.int .i64 0)) 3, _, _, _, _⟩) (v := (.bool false)) rfl (by kernel_rfl) (by kernel_rfl) (by kernel_rfl) (fun _ _ _ h => h) (Or.inl ⟨by rfl, fun W hW => by have hq := q2; go_simp⟩) (by assumption) ?_
                simp only [Act.put, List.setIfInBounds_toArray, List.set_cons_zero, List.set_cons_succ]
                refine wpAnyH_take (i := 20) (oi := ⟨some 53, .move (.tmp 52), _, _, _, _⟩) (v := (.bool false)) rfl (by kernel_rfl) (by kernel_rfl) (by kernel_rfl) (fun _ _ _ h => h) (Or.inl ⟨by rfl, fun W hW => by go_simp⟩) (by assumption) ?_
                simp only [Act.put, List.setIfInBounds_toArray, List.set_cons_zero, List.set_cons_succ]
                refine wpAnyH_take (i := 21) (oi := ⟨some 54, .move (.tmp 6), _, _, _, _⟩) (v := (.slice (some ⟨b6, o6, none⟩) N c6)) rfl (by kernel_rfl) (by kernel_rfl) (by kernel_rfl) (fun _ _ _ h => h) (Or.inl ⟨by rfl, fun W hW => by go_simp⟩) (by assumption) ?_
                simp only [Act.put, List.setIfInBounds_toArray, List.set_cons_zero, List.set_cons_succ]
                refine wpAnyH_take (i := 22) (oi := ⟨some 55, .move (.tmp 10), _, _, _, _⟩) (v := (.int .i64 (i : Nat))) rfl (by kernel_rfl) (by kernel_rfl) (by kernel_rfl) (fun _ _ _ h => h) (Or.inl ⟨by rfl, fun W hW => by go_simp⟩) (by assumption) ?_
                simp only [Act.put, List.setIfInBounds_toArray, List.set_cons_zero, List.set_cons_succ]
                refine wpAnyH_take (i := 23) (oi := ⟨some 56, .indexAddr 36 (.tmp 54) (.tmp 55), _, _, _, _⟩) (v := (.pointer (some ⟨b6, o6 + i * 2, none⟩))) rfl (by kernel_rfl) (by kernel_rfl) (by kernel_rfl) (fun _ _ _ h => h) (Or.inl ⟨by rfl, fun W hW => by go_simp⟩) (by assumption) ?_
                simp only [Act.put, List.setIfInBounds_toArray, List.set_cons_zero, List.set_cons_succ]
                refine wpAnyH_take (i := 24) (oi := ⟨some 57, .fieldAddr 38 (.tmp 56) 0, _, _, _, _⟩) (v := (.pointer (some ⟨b6, o6 + i * 2, none⟩))) rfl (by kernel_rfl) (by kernel_rfl) (by kernel_rfl) (fun _ _ _ h => h) (Or.inl ⟨by rfl, fun W hW => by go_simp⟩) (by assumption) ?_
                simp only [Act.put, List.setIfInBounds_toArray, List.set_cons_zero, List.set_cons_succ]
                refine wpAnyH_take (i := 25) (oi := ⟨some 58, .load 9 (.tmp 57), _, _, _, _⟩) (v := (.string (strB p))) rfl (by kernel_rfl) (by kernel_rfl) (by kernel_rfl) (fun _ _ _ h => h) (Or.inl ⟨by rfl, fun W hW => by have hcell := hW.1; go_simp⟩) (by assumption) ?_
                simp only [Act.put, List.setIfInBounds_toArray, List.set_cons_zero, List.set_cons_succ]
                refine wpAnyH_take (i := 26) (oi := ⟨some 59, .move (.tmp 6), _, _, _, _⟩) (v := (.slice (some ⟨b6, o6, none⟩) N c6)) rfl (by kernel_rfl) (by kernel_rfl) (by kernel_rfl) (fun _ _ _ h => h) (Or.inl ⟨by rfl, fun W hW => by go_simp⟩) (by assumption) ?_
                simp only [Act.put, List.setIfInBounds_toArray, List.set_cons_zero, List.set_cons_succ]
                refine wpAnyH_take (i := 27) (oi := ⟨some 60, .move (.tmp 9), _, _, _, _⟩) (v := (.int .i64 (q : Nat))) rfl (by kernel_rfl) (by kernel_rfl) (by kernel_rfl) (fun _ _ _ h => h) (Or.inl ⟨by rfl, fun W hW => by go_simp⟩) (by assumption) ?_
                simp only [Act.put, List.setIfInBounds_toArray, List.set_cons_zero, List.set_cons_succ]
                refine wpAnyH_take (i := 28) (oi := ⟨some 61, .indexAddr 36 (.tmp 59) (.tmp 60), _, _, _, _⟩) (v := (.pointer (some ⟨b6, o6 + q * 2, none⟩))) rfl (by kernel_rfl) (by kernel_rfl) (by kernel_rfl) (fun _ _ _ h => h) (Or.inl ⟨by rfl, fun W hW => by go_simp⟩) (by assumption) ?_
                simp only [Act.put, List.setIfInBounds_toArray, List.set_cons_zero, List.set_cons_succ]
                refine wpAnyH_take (i := 29) (oi := ⟨some 62, .fieldAddr 38 (.tmp 61) 0, _, _, _, _⟩) (v := (.pointer (some ⟨b6, o6 + q * 2, none⟩))) rfl (by kernel_rfl) (by kernel_rfl) (by kernel_rfl) (fun _ _ _ h => h) (Or.inl ⟨by rfl, fun W hW => by go_simp⟩) (by assumption) ?_
                simp only [Act.put, List.setIfInBounds_toArray, List.set_cons_zero, List.set_cons_succ]
                refine wpAnyH_take (i := 30) (oi := ⟨some 63, .load 9 (.tmp 62), _, _, _, _⟩) (v := (.string (strB x))) rfl (by kernel_rfl) (by kernel_rfl) (by kernel_rfl) (fun _ _ _ h => h) (Or.inl ⟨by rfl, fun W hW => by have hcell := hW.2.2; go_simp⟩) (by assumption) ?_
                simp only [Act.put, List.setIfInBounds_toArray, List.set_cons_zero, List.set_cons_succ]
                refine wpAnyH_take (i := 31) (oi := ⟨some 64, .binOp .lss 9 (.tmp 58) (.tmp 63) 9, _, _, _, _⟩) (v := (.bool false)) rfl (by kernel_rfl) (by kernel_rfl) (by kernel_rfl) (fun _ _ _ h => h) (Or.inl ⟨by rfl, fun W hW => by have hq := f1; go_simp⟩) (by assumption) ?_
                simp only [Act.put, List.setIfInBounds_toArray, List.set_cons_zero, List.set_cons_succ]
                refine wpAnyH_take (i := 32) (oi := ⟨some 65, .pick (.tmp 53) (.const (.bool true)) (.tmp 64), _, _, _, _⟩) (v := (.bool false)) rfl (by kernel_rfl) (by kernel_rfl) (by kernel_rfl) (fun _ _ _ h => h) (Or.inl ⟨by rfl, fun W hW => by go_simp⟩) (by assumption) ?_
                simp only [Act.put, List.setIfInBounds_toArray, List.set_cons_zero, List.set_cons_succ]
                refine wpAnyH_take (i := 33) (oi := ⟨some 66, .pick (.tmp 50) (.tmp 65) (.const (.bool false)), _, _, _, _⟩) (v := (.bool false)) rfl (by kernel_rfl) (by kernel_rfl) (by kernel_rfl) (fun _ _ _ h => h) (Or.inl ⟨by rfl, fun W hW => by go_simp⟩) (by assumption) ?_
                simp only [Act.put, List.setIfInBounds_toArray, List.set_cons_zero, List.set_cons_succ]
                refine wpAnyH_done (by kernel_rfl) ?_ _
                clear hHeld
                generalize wr.drew = wq at HBq ⊢
                clear x0 x1
                go_wp2
                go_roundg (gk - 1)
                case measure => have h1 := HI2.out; have h2 := HIN.out; omega
                case rel => exact ⟨i + 1, (q : Int), by go_num, rfl, Lib.hid (by have h1 := HI2.out; have h2 := HIN.out; omega), Lib.hid (by rw [HST.out]; unfold bestS; rw [HNW.out, Bool.true_and, HLP.out, if_neg (by decide)]; rcases HZ.out with ⟨h1, h2⟩ | ⟨q, h1, h2, h3⟩; exact .inl ⟨h1, h2⟩; exact .inr ⟨q, h1, by omega, h3⟩), HBq⟩
          · have HNW : Hid (newP (lastP P k) p = false) := Lib.hid (by rw [hla]; exact decide_eq_false hlp)
            have HGT : Hid (decide (l < p) = false) := Lib.hid (decide_eq_false hlp)
            clear hla hlp
            go_wp2
            have HBq := Lib.hid HBI.out.drew
            refine wp_region_held_drew (S := fun W => W.cell? ⟨b6, o6 + i * 2, none⟩ = some (.string (strB p)) ∧ W.cell? ⟨b8, o8 + m, none⟩ = some (.string (strB l))) (by kernel_rfl) ⟨x0, x8⟩ (fun hHeld => ?_)
            refine wpAnyH_take (i := 0) (oi := ⟨some 33, .move (.tmp 8), _, _, _, _⟩) (v := (.slice (some ⟨b8, o8, none⟩) n8 c8)) rfl (by kernel_rfl) (by kernel_rfl) (by kernel_rfl) (fun _ _ _ h => h) (Or.inl ⟨by rfl, fun W hW => by go_simp⟩) (by assumption) ?_
            simp only [Act.put, List.setIfInBounds_toArray, List.set_cons_zero, List.set_cons_succ]
            refine wpAnyH_take (i := 1) (oi := ⟨some 34, .call { callee := .builtin .len, args := #[(.tmp 33)], argTypes := #[32] }, _, _, _, _⟩) (v := (.int .i64 (n8 : Nat))) rfl (by kernel_rfl) (by kernel_rfl) (by kernel_rfl) (fun _ _ _ h => h) (Or.inl ⟨by rfl, fun W hW => by go_simp⟩) (by assumption) ?_
            simp only [Act.put, List.setIfInBounds_toArray, List.set_cons_zero, List.set_cons_succ]
            refine wpAnyH_take (i := 2) (oi := ⟨some 35, .binOp .eql 3 (.tmp 34) (.const (.int .i64 0)) 3, _, _, _, _⟩) (v := (.bool false)) rfl (by kernel_rfl) (by kernel_rfl) (by kernel_rfl) (fun _ _ _ h => h) (Or.inl ⟨by rfl, fun W hW => by have hq := e8; go_simp⟩) (by assumption) ?_
            simp only [Act.put, List.setIfInBounds_toArray, List.set_cons_zero, List.set_cons_succ]
            refine wpAnyH_take (i := 3) (oi := ⟨some 36, .move (.tmp 35), _, _, _, _⟩) (v := (.bool false)) rfl (by kernel_rfl) (by kernel_rfl) (by kernel_rfl) (fun _ _ _ h => h) (Or.inl ⟨by rfl, fun W hW => by go_simp⟩) (by assumption) ?_
            simp only [Act.put, List.setIfInBounds_toArray, List.set_cons_zero, List.set_cons_succ]
            refine wpAnyH_take (i := 4) (oi := ⟨some 37, .move (.tmp 6), _, _, _, _⟩) (v := (.slice (some ⟨b6, o6, none⟩) N c6)) rfl (by kernel_rfl) (by kernel_rfl) (by kernel_rfl) (fun _ _ _ h => h) (Or.inl ⟨by rfl, fun W hW => by go_simp⟩) (by assumption) ?_
            simp only [Act.put, List.setIfInBounds_toArray, List.set_cons_zero, List.set_cons_succ]
            refine wpAnyH_take (i := 5) (oi := ⟨some 38, .move (.tmp 10), _, _, _, _⟩) (v := (.int .i64 (i : Nat))) rfl (by kernel_rfl) (by kernel_rfl) (by kernel_rfl) (fun _ _ _ h => h) (Or.inl ⟨by rfl, fun W hW => by go_simp⟩) (by assumption) ?_
            simp only [Act.put, List.setIfInBounds_toArray, List.set_cons_zero, List.set_cons_succ]
            refine wpAnyH_take (i := 6) (oi := ⟨some 39, .indexAddr 36 (.tmp 37) (.tmp 38), _, _, _, _⟩) (v := (.pointer (some ⟨b6, o6 + i * 2, none⟩))) rfl (by kernel_rfl) (by kernel_rfl) (by kernel_rfl) (fun _ _ _ h => h) (Or.inl ⟨by rfl, fun W hW => by go_simp⟩) (by assumption) ?_
            simp only [Act.put, List.setIfInBounds_toArray, List.set_cons_zero, List.set_cons_succ]
            refine wpAnyH_take (i := 7) (oi := ⟨some 40, .fieldAddr 38 (.tmp 39) 0, _, _, _, _⟩) (v := (.pointer (some ⟨b6, o6 + i * 2, none⟩))) rfl (by kernel_rfl) (by kernel_rfl) (by kernel_rfl) (fun _ _ _ h => h) (Or.inl ⟨by rfl, fun W hW => by go_simp⟩) (by assumption) ?_
            simp only [Act.put, List.setIfInBounds_toArray, List.set_cons_zero, List.set_cons_succ]
            refine wpAnyH_take (i := 8) (oi := ⟨some 41, .load 9 (.tmp 40), _, _, _, _⟩) (v := (.string (strB p))) rfl (by kernel_rfl) (by kernel_rfl) (by kernel_rfl) (fun _ _ _ h => h) (Or.inl ⟨by rfl, fun W hW => by have hcell := hW.1; go_simp⟩) (by assumption) ?_
            simp only [Act.put, List.setIfInBounds_toArray, List.set_cons_zero, List.set_cons_succ]
            refine wpAnyH_take (i := 9) (oi := ⟨some 42, .move (.tmp 8), _, _, _, _⟩) (v := (.slice (some ⟨b8, o8, none⟩) n8 c8)) rfl (by kernel_rfl) (by kernel_rfl) (by kernel_rfl) (fun _ _ _ h => h) (Or.inl ⟨by rfl, fun W hW => by go_simp⟩) (by assumption) ?_
            simp only [Act.put, List.setIfInBounds_toArray, List.set_cons_zero, List.set_cons_succ]
            refine wpAnyH_take (i := 10) (oi := ⟨some 43, .move (.tmp 8), _, _, _, _⟩) (v := (.slice (some ⟨b8, o8, none⟩) n8 c8)) rfl (by kernel_rfl) (by kernel_rfl) (by kernel_rfl) (fun _ _ _ h => h) (Or.inl ⟨by rfl, fun W hW => by go_simp⟩) (by assumption) ?_
            simp only [Act.put, List.setIfInBounds_toArray, List.set_cons_zero, List.set_cons_succ]
            refine wpAnyH_take (i := 11) (oi := ⟨some 44, .call { callee := .builtin .len, args := #[(.tmp 43)], argTypes := #[32] }, _, _, _, _⟩) (v := (.int .i64 (n8 : Nat))) rfl (by kernel_rfl) (by kernel_rfl) (by kernel_rfl) (fun _ _ _ h => h) (Or.inl ⟨by rfl, fun W hW => by go_simp⟩) (by assumption) ?_
            simp only [Act.put, List.setIfInBounds_toArray, List.set_cons_zero, List.set_cons_succ]
            refine wpAnyH_take (i := 12) (oi := ⟨some 45, .binOp .sub 3 (.tmp 44) (.const (.int .i64 1)) 3, _, _, _, _⟩) (v := (.int .i64 (m : Nat))) rfl (by kernel_rfl) (by kernel_rfl) (by kernel_rfl) (fun _ _ _ h => h) (Or.inl ⟨by rfl, fun W hW => by have hq := W2; go_simp⟩) (by assumption) ?_
            simp only [Act.put, List.setIfInBounds_toArray, List.set_cons_zero, List.set_cons_succ]
            refine wpAnyH_take (i := 13) (oi := ⟨some 46, .indexAddr 32 (.tmp 42) (.tmp 45), _, _, _, _⟩) (v := (.pointer (some ⟨b8, o8 + m, none⟩))) rfl (by kernel_rfl) (by kernel_rfl) (by kernel_rfl) (fun _ _ _ h => h) (Or.inl ⟨by rfl, fun W hW => by go_simp⟩) (by assumption) ?_
            simp only [Act.put, List.setIfInBounds_toArray, List.set_cons_zero, List.set_cons_succ]
            refine wpAnyH_take (i := 14) (oi := ⟨some 47, .load 9 (.tmp 46), _, _, _, _⟩) (v := (.string (strB l))) rfl (by kernel_rfl) (by kernel_rfl) (by kernel_rfl) (fun _ _ _ h => h) (Or.inl ⟨by rfl, fun W hW => by have hcell := hW.2; go_simp⟩) (by assumption) ?_
            simp only [Act.put, List.setIfInBounds_toArray, List.set_cons_zero, List.set_cons_succ]
            refine wpAnyH_take (i := 15) (oi := ⟨some 48, .binOp .gtr 9 (.tmp 41) (.tmp 47) 9, _, _, _, _⟩) (v := (.bool false)) rfl (by kernel_rfl) (by kernel_rfl) (by kernel_rfl) (fun _ _ _ h => h) (Or.inl ⟨by rfl, fun W hW => exec_gtr p l false _ _ _ _ HGT.out rfl rfl rfl⟩) (by assumption) ?_
            simp only [Act.put, List.setIfInBounds_toArray, List.set_cons_zero, List.set_cons_succ]
            refine wpAnyH_take (i := 16) (oi := ⟨some 49, .pick (.tmp 36) (.const (.bool true)) (.tmp 48), _, _, _, _⟩) (v := (.bool false)) rfl (by kernel_rfl) (by kernel_rfl) (by kernel_rfl) (fun _ _ _ h => h) (Or.inl ⟨by rfl, fun W hW => by go_simp⟩) (by assumption) ?_
            simp only [Act.put, List.setIfInBounds_toArray, List.set_cons_zero, List.set_cons_succ]
            refine wpAnyH_take (i := 17) (oi := ⟨some 50, .move (.tmp 49), _, _, _, _⟩) (v := (.bool false)) rfl (by kernel_rfl) (by kernel_rfl) (by kernel_rfl) (fun _ _ _ h => h) (Or.inl ⟨by rfl, fun W hW => by go_simp⟩) (by assumption) ?_
            simp only [Act.put, List.setIfInBounds_toArray, List.set_cons_zero, List.set_cons_succ]
            refine wpAnyH_take (i := 18) (oi := ⟨some 51, .move (.tmp 9), _, _, _, _⟩) (v := undef) rfl (by kernel_rfl) (by kernel_rfl) (by kernel_rfl) (fun _ _ _ h => h) (Or.inr ⟨by rfl, rfl⟩) (by assumption) ?_
            simp only [Act.put, List.setIfInBounds_toArray, List.set_cons_zero, List.set_cons_succ]
            refine wpAnyH_take (i := 19) (oi := ⟨some 52, .binOp .lss 3 (.tmp 51) (.const (.int .i64 0)) 3, _, _, _, _⟩) (v := undef) rfl (by kernel_rfl) (by kernel_rfl) (by kernel_rfl) (fun _ _ _ h => h) (Or.inr ⟨by rfl, rfl⟩) (by assumption) ?_
            simp only [Act.put, List.setIfInBounds_toArray, List.set_cons_zero, List.set_cons_succ]
            refine wpAnyH_take (i := 20) (oi := ⟨some 53, .move (.tmp 52), _, _, _, _⟩) (v := undef) rfl (by kernel_rfl) (by kernel_rfl) (by kernel_rfl) (fun _ _ _ h => h) (Or.inr ⟨by rfl, rfl⟩) (by assumption) ?_
            simp only [Act.put, List.setIfInBounds_toArray, List.set_cons_zero, List.set_cons_succ]
            refine wpAnyH_take (i := 21) (oi := ⟨some 54, .move (.tmp 6), _, _, _, _⟩) (v := undef) rfl (by kernel_rfl) (by kernel_rfl) (by kernel_rfl) (fun _ _ _ h => h) (Or.inr ⟨by rfl, rfl⟩) (by assumption) ?_
            simp only [Act.put, List.setIfInBounds_toArray, List.set_cons_zero, List.set_cons_succ]
            refine wpAnyH_take (i := 22) (oi := ⟨some 55, .move (.tmp 10), _, _, _, _⟩) (v := undef) rfl (by kernel_rfl) (by kernel_rfl) (by kernel_rfl) (fun _ _ _ h => h) (Or.inr ⟨by rfl, rfl⟩) (by assumption) ?_
            simp only [Act.put, List.setIfInBounds_toArray, List.set_cons_zero, List.set_cons_succ]
            refine wpAnyH_take (i := 23) (oi := ⟨some 56, .indexAddr 36 (.tmp 54) (.tmp 55), _, _, _, _⟩) (v := undef) rfl (by kernel_rfl) (by kernel_rfl) (by kernel_rfl) (fun _ _ _ h => h) (Or.inr ⟨by rfl, rfl⟩) (by assumption) ?_
            simp only [Act.put, List.setIfInBounds_toArray, List.set_cons_zero, List.set_cons_succ]
            refine wpAnyH_take (i := 24) (oi := ⟨some 57, .fieldAddr 38 (.tmp 56) 0, _, _, _, _⟩) (v := undef) rfl (by kernel_rfl) (by kernel_rfl) (by kernel_rfl) (fun _ _ _ h => h) (Or.inr ⟨by rfl, rfl⟩) (by assumption) ?_
            simp only [Act.put, List.setIfInBounds_toArray, List.set_cons_zero, List.set_cons_succ]
            refine wpAnyH_take (i := 25) (oi := ⟨some 58, .load 9 (.tmp 57), _, _, _, _⟩) (v := undef) rfl (by kernel_rfl) (by kernel_rfl) (by kernel_rfl) (fun _ _ _ h => h) (Or.inr ⟨by rfl, rfl⟩) (by assumption) ?_
            simp only [Act.put, List.setIfInBounds_toArray, List.set_cons_zero, List.set_cons_succ]
            refine wpAnyH_take (i := 26) (oi := ⟨some 59, .move (.tmp 6), _, _, _, _⟩) (v := undef) rfl (by kernel_rfl) (by kernel_rfl) (by kernel_rfl) (fun _ _ _ h => h) (Or.inr ⟨by rfl, rfl⟩) (by assumption) ?_
            simp only [Act.put, List.setIfInBounds_toArray, List.set_cons_zero, List.set_cons_succ]
            refine wpAnyH_take (i := 27) (oi := ⟨some 60, .move (.tmp 9), _, _, _, _⟩) (v := undef) rfl (by kernel_rfl) (by kernel_rfl) (by kernel_rfl) (fun _ _ _ h => h) (Or.inr ⟨by rfl, rfl⟩) (by assumption) ?_
            simp only [Act.put, List.setIfInBounds_toArray, List.set_cons_zero, List.set_cons_succ]
            refine wpAnyH_take (i := 28) (oi := ⟨some 61, .indexAddr 36 (.tmp 59) (.tmp 60), _, _, _, _⟩) (v := undef) rfl (by kernel_rfl) (by kernel_rfl) (by kernel_rfl) (fun _ _ _ h => h) (Or.inr ⟨by rfl, rfl⟩) (by assumption) ?_
            simp only [Act.put, List.setIfInBounds_toArray, List.set_cons_zero, List.set_cons_succ]
            refine wpAnyH_take (i := 29) (oi := ⟨some 62, .fieldAddr 38 (.tmp 61) 0, _, _, _, _⟩) (v := undef) rfl (by kernel_rfl) (by kernel_rfl) (by kernel_rfl) (fun _ _ _ h => h) (Or.inr ⟨by rfl, rfl⟩) (by assumption) ?_
            simp only [Act.put, List.setIfInBounds_toArray, List.set_cons_zero, List.set_cons_succ]
            refine wpAnyH_take (i := 30) (oi := ⟨some 63, .load 9 (.tmp 62), _, _, _, _⟩) (v := undef) rfl (by kernel_rfl) (by kernel_rfl) (by kernel_rfl) (fun _ _ _ h => h) (Or.inr ⟨by rfl, rfl⟩) (by assumption) ?_
            simp only [Act.put, List.setIfInBounds_toArray, List.set_cons_zero, List.set_cons_succ]
            refine wpAnyH_take (i := 31) (oi := ⟨some 64, .binOp .lss 9 (.tmp 58) (.tmp 63) 9, _, _, _, _⟩) (v := undef) rfl (by kernel_rfl) (by kernel_rfl) (by kernel_rfl) (fun _ _ _ h => h) (Or.inr ⟨by rfl, rfl⟩) (by assumption) ?_
            simp only [Act.put, List.setIfInBounds_toArray, List.set_cons_zero, List.set_cons_succ]
            refine wpAnyH_take (i := 32) (oi := ⟨some 65, .pick (.tmp 53) (.const (.bool true)) (.tmp 64), _, _, _, _⟩) (v := undef) rfl (by kernel_rfl) (by kernel_rfl) (by kernel_rfl) (fun _ _ _ h => h) (Or.inr ⟨by rfl, rfl⟩) (by assumption) ?_
            simp only [Act.put, List.setIfInBounds_toArray, List.set_cons_zero, List.set_cons_succ]
            refine wpAnyH_take (i := 33) (oi := ⟨some 66, .pick (.tmp 50) (.tmp 65) (.const (.bool false)), _, _, _, _⟩) (v := (.bool false)) rfl (by kernel_rfl) (by kernel_rfl) (by kernel_rfl) (fun _ _ _ h => h) (Or.inl ⟨by rfl, fun W hW => by go_simp⟩) (by assumption) ?_
            simp only [Act.put, List.setIfInBounds_toArray, List.set_cons_zero, List.set_cons_succ]
            refine wpAnyH_done (by kernel_rfl) ?_ _
            clear hHeld
            generalize wr.drew = wq at HBq ⊢
            clear x0 x1
            go_wp2
            go_roundg (gk - 1)
            case measure => have h1 := HI2.out; have h2 := HIN.out; omega
            case rel => exact ⟨i + 1, z, by go_num, rfl, Lib.hid (by have h1 := HI2.out; have h2 := HIN.out; omega), Lib.hid (by rw [HST.out]; unfold bestS; rw [HNW.out, Bool.false_and, if_neg (by decide)]; rcases HZ.out with ⟨h1, h2⟩ | ⟨q, h1, h2, h3⟩; exact .inl ⟨h1, h2⟩; exact .inr ⟨q, h1, by omega, h3⟩), HBq⟩
      · have hiN : i = N := by have := HI2.out; omega
        have HBN : Hid (bestP (lastP P k) (F.map (·.1)) = P[k]?) := Lib.hid (best_next HPU.out HPM.out k HKP.out)
        have hz := HZ.out
        rw [hiN, List.take_of_length_le (by rw [List.length_map, HNN.out.1]; exact Nat.le_refl _), HBN.out] at hz
        have HHW : Hid (Holds wr w2.heap.size [hG lnK 9 (.slice a7 n7 c7) A, hG lnK 9 (.slice a8 n8 c8) (P.take k)]) := Lib.hid (HHo.out.below HBI.out)
        have HBW2 : Hid (Below w2.heap.size w2 wr) := Lib.hid (HBo.out.trans (HBI.out.mono HBo.out.size))
        have HTW : Hid (OwnG lnK 9 wr w2.heap.size (.slice a8 n8 c8) (P.take k)) := Lib.hid ⟨HHW.out.own (hG lnK 9 (.slice a8 n8 c8) (P.take k)) (List.mem_cons_of_mem _ (List.mem_cons_self ..)), fun _ _ => trivial⟩
        rcases hz with ⟨rfl, hb⟩ | ⟨q, rfl, hq, hb⟩
        · have HE : Hid ((A, 0) = R) := Lib.hid (by
            have h1 : P.length ≤ k := by
              rcases Nat.lt_or_ge k P.length with h2 | h2
              · rw [List.getElem?_eq_getElem h2] at hb; cases hb
              · exact h2
            have h2 := HGO.out
            rw [List.drop_eq_nil_of_le h1] at h2; exact h2)
          clear hiN hb
          go_wp2
          go_ret2
          exact ⟨a7, n7, c7, by rw [← HE.out]; rfl, by rw [← HE.out]; exact OwnG.atG (E := 9) (base := w2.heap.size) ⟨HHW.out.own (hG lnK 9 (.slice a7 n7 c7) A) (List.mem_cons_self ..), fun _ _ => trivial⟩, HB2.out.trans (HBW2.out.mono HB2.out.size)⟩
        · obtain ⟨⟨p, rr⟩, hf⟩ : ∃ f, gd F q = f := ⟨_, rfl⟩
          rw [hf] at hb
          obtain ⟨ht1, ht2, ht3⟩ := take_next (p := p) hb
          obtain ⟨b6, o6, rfl⟩ := HFA.out.some_ (by omega)
          obtain ⟨x0, _⟩ := fl_cell (HFA.out.below HBW2.out) (j := q) (by omega)
          rw [hf] at x0
          have q0 : (0 : Int) ≤ (q : Int) := by omega
          have q1 : (q : Int) < (N : Int) := by omega
          have q2 : decide ((q : Int) < 0) = false := decide_eq_false (by omega)
          have HPP : Hid (p.length ≤ 1000) := Lib.hid (by have h1 := HFS.out (gd F q) (gd_mem (by have := HNN.out; omega)); rw [hf] at h1; exact h1.1)
          have HDR := Lib.hid ht2
          have HTK := Lib.hid ht1
          have HKL := Lib.hid ht3
          obtain ⟨⟨p1, b1⟩, hf1⟩ := look_two (l := X) (p := p) (x := ([], []))
          obtain ⟨⟨p2, b2⟩, hf2⟩ := look_two (l := Y) (p := p) (x := ([], []))
          obtain ⟨qa, hqa⟩ : ∃ q, (lookP X p).isSome = q := ⟨_, rfl⟩
          obtain ⟨qb, hqb⟩ : ∃ q, (lookP Y p).isSome = q := ⟨_, rfl⟩
          have HBB : Hid (b1.length ≤ 1000 ∧ b2.length ≤ 1000) := Lib.hid ⟨by have h1 := look_small (fun f hf => (HS1.out f hf).2) p; rw [HXY.out.1, hf1] at h1; exact h1, by have h1 := look_small (fun f hf => (HS2.out f hf).2) p; rw [HXY.out.2, hf2] at h1; exact h1⟩
          obtain ⟨⟨Z, r⟩, hz⟩ : ∃ z, topF b1 b2 = z := ⟨_, rfl⟩
          have HSM : Hid (Gd 8192 1000 Z) := Lib.hid (by have h1 := top_small b1 b2 1000 HBB.out.1 HBB.out.2; rw [hz] at h1; exact h1)
          have HNE : Hid (NE Z) := Lib.hid (by have h1 := top_ne b1 b2; rw [hz] at h1; exact h1)
          have HHK : Hid (∀ W, Calls Tryd.prog 9 #[.string (strB b1), .string (strB b2)] W (RTopIs (Z, r) W)) := Lib.hid (fun W => by have h1 := refHunks_any b1 b2 W HBB.out.1 HBB.out.2; rw [hz] at h1; exact h1)
          have HFN : Hid ((qa && qb && (b1 == b2)) = false → fileT (lookP X p) (lookP Y p) p = if r = 0 then (headL p qa qb :: toldF Z, 0) else ([], r)) := Lib.hid (fun h => file_ne hqa hqb hf1 hf2 h hz)
          have HST := HGO.out
          rw [HDR.out, goL_cons] at HST
          have HGS := Lib.hid HST
          have HFI1 : Hid (∀ W, Below w2.heap.size w2 W → Calls Tryd.prog 32 #[.slice a n c, .string (strB p)] W fun e w' => e = .returned (.tuple #[.agg #[.string (strB p1), .string (strB b1)], .bool qa]) ∧ Below W.heap.size W w') := Lib.hid (fun W hW => by
            have h1 := refFind_any a n c L p W (HF1.out.below (HB2.out.trans (hW.mono HB2.out.size))) (by have := HN.out; omega)
            rw [HXY.out.1, hf1, hqa] at h1; exact h1)
          have HFI2 : Hid (∀ W, Below w2.heap.size w2 W → Calls Tryd.prog 32 #[.slice a' n' c', .string (strB p)] W fun e w' => e = .returned (.tuple #[.agg #[.string (strB p2), .string (strB b2)], .bool qb]) ∧ Below W.heap.size W w') := Lib.hid (fun W hW => by
            have h1 := refFind_any a' n' c' L' p W (HF2.out.below (HB2.out.trans (hW.mono HB2.out.size))) (by have := HN.out; omega)
            rw [HXY.out.2, hf2, hqb] at h1; exact h1)
          have HQF : Hid ((lookP X p).getD ([], []) = (p1, b1) ∧ (lookP Y p).getD ([], []) = (p2, b2) ∧ (lookP X p).isSome = qa ∧ (lookP Y p).isSome = qb) := Lib.hid ⟨hf1, hf2, hqa, hqb⟩
          obtain ⟨T1, hT1⟩ : ∃ T, strB ([102, 105, 108, 101, 32] ++ p) = T := ⟨_, rfl⟩
          have hc1 : ∀ W, (Op.stringOp .add ⟨#[102, 105, 108, 101, 32]⟩ (strB p)).run Tryd.prog W = .ok (.string T1) W := fun W => by rw [← hT1]; exact run_catL [102, 105, 108, 101, 32] p (by have := HPP.out; simp only [List.length_cons, List.length_nil]; omega) W
          have HT1 := Lib.hid hT1
          have HKG : Hid (k + 1 = (P.take k).length + 1) := Lib.hid (by rw [List.length_take]; have := HKL.out; omega)
          have HK2 : Hid (k ≤ 2000) := Lib.hid (by have h1 := HKP.out; have h2 := paths_few HPU.out (fun p hp => (HPM.out p).1 hp); rw [List.length_map, HNN.out.1] at h2; have := HNN.out; omega)
          clear hiN hb hf ht1 ht2 ht3 hf1 hf2 hqa hqb hz HST hT1 hq HZ HI2 HTO HHD HHo HBo HBI HBWo HBW HBN
          cases qa with
          | false =>
            obtain ⟨T2, hT2⟩ : ∃ T, strB (headL p false qb) = T := ⟨_, rfl⟩
            have hc2 : ∀ W, (Op.stringOp .add T1 ⟨#[32, 97, 100, 100, 101, 100]⟩).run Tryd.prog W = .ok (.string T2) W := fun W => by rw [← HT1.out, ← hT2]; exact run_catL _ [32, 97, 100, 100, 101, 100] (by have := HPP.out; simp only [List.length_append, List.length_cons, List.length_nil]; omega) W
            have HT2 := Lib.hid hT2
            have HFE := Lib.hid (HFN.out rfl)
            clear hT2 HFN
            by_cases hr : r = 0
            · subst hr
              have HRR : Hid (goL X Y (A ++ (headL p false qb :: toldF Z)) (P.drop (k + 1)) = R) := Lib.hid (by have h1 := HGS.out; rw [HFE.out, if_pos rfl] at h1; simpa using h1)
              have HCS : Hid (#[Value.string T2] = (lnK.cells (headL p false qb)).toArray) := Lib.hid (by rw [← HT2.out]; rfl)
              clear HGS HFE
              as_aux_lemma =>
                go_wp2_with (first
                  | ((with_reducible show wpList _ _ _ (⟨some 79, _, _, _, _, _⟩ :: _) _ _); go_must (refine appG_told lnK Tryd.underlying32 infoStH rfl rfl _ _ rfl w2.heap.size _ (P.take k) rfl (HTW.out.alloc _) (some ⟨wr.heap.size, 0, none⟩) 1 1 [p] rfl (oneG wr p trivial 9 _ rfl) (by have h1 := HK2.out; have h2 := HKG.out; omega) (by have := HBW2.out.size; simp; omega) (k + 1) HKG.out ?_); intro a9 c9 w6 ho hg ht; have HH6 : Hid (Holds w6 w2.heap.size [hG lnK 9 (.slice a7 n7 c7) A, hG lnK 9 (.slice a9 (k + 1) c9) (P.take (k + 1))]) := Lib.hid (by have h1 := ((HHW.out.below ((Below.refl _ _).alloc (Nat.le_refl _) _)).perm (List.Perm.swap _ _ _)).put (h' := hG lnK 9 (.slice a9 (k + 1) c9) (P.take k ++ [p])) hg ho.1 ht; rw [← HTK.out] at h1; exact h1.perm (List.Perm.swap _ _ _)); have HB6 := Lib.hid ((HBW2.out.alloc HBW2.out.size _).grown hg (by have := HBW2.out.size; simp; omega) (fun k h => (HTW.out.lt k h).1)); clear ho hg ht x0)
                  | (go_at_call 32; (with_reducible refine (HFI1.out w6 HB6.out).mono ?_); rintro e w7 ⟨rfl, hb⟩; obtain ⟨wA, hwA⟩ : ∃ W, w7.alloc (.cells #[.string (strB p1), .string (strB b1)] FileT) = W := ⟨_, rfl⟩; have eA : wA.heap[w7.heap.size]? = some (.cells #[.string (strB p1), .string (strB b1)] FileT (0, 0)) := hwA ▸ heap_alloc_new w7 _; have HEA := Lib.hid eA; have HSA : Hid (w7.heap.size < wA.heap.size) := Lib.hid (by rw [← hwA]; simp); have hb7 : Below w6.heap.size w6 wA := hwA ▸ hb.alloc hb.size _; have HHA := Lib.hid (HH6.out.below hb7); have HBA := Lib.hid (HB6.out.trans (hb7.mono HB6.out.size)); clear hb hb7 eA)
                  | (go_at_call 32; (with_reducible refine (HFI2.out wA HBA.out).mono ?_); rintro e w8 ⟨rfl, hb⟩; obtain ⟨wB, hwB⟩ : ∃ W, w8.alloc (.cells #[.string (strB p2), .string (strB b2)] FileT) = W := ⟨_, rfl⟩; have eB : wB.heap[w8.heap.size]? = some (.cells #[.string (strB p2), .string (strB b2)] FileT (0, 0)) := hwB ▸ heap_alloc_new w8 _; have hb8 : Below wA.heap.size wA wB := hwB ▸ hb.alloc hb.size _; have eA2 : wB.heap[w7.heap.size]? = some (.cells #[.string (strB p1), .string (strB b1)] FileT (0, 0)) := (hb8.block _ HSA.out).trans HEA.out; have m1 : wB.cell? ⟨w7.heap.size, 1, none⟩ = some (.string (strB b1)) := (cell_of_row _ _ _ _ _ _ eA2).trans rfl; have m2 : wB.cell? ⟨w8.heap.size, 1, none⟩ = some (.string (strB b2)) := (cell_of_row _ _ _ _ _ _ eB).trans rfl; have HHB := Lib.hid (HHA.out.below hb8); have HBB2 := Lib.hid (HBA.out.trans (hb8.mono HBA.out.size)); clear hb hb8 eA2 eB)
                  | (go_at_call 9; (with_reducible refine (HHK.out wB).mono ?_); rintro e w9 ⟨a5, c5, base, V, rfl, hv, hh, hbs, hb⟩; have HK9 := Lib.hid (RkB.of hh (HHB.out.below hb) (Nat.le_trans HBB2.out.size hbs) (fun j hj => by rcases hj with hj | hj; exact Nat.lt_of_lt_of_le (HHB.out.lt (h := hG lnK 9 (.slice a7 n7 c7) A) (List.mem_cons_self ..) j hj).2 hbs; exact Nat.lt_of_lt_of_le (HHB.out.lt (h := hG lnK 9 (.slice a9 (k + 1) c9) (P.take (k + 1))) (List.mem_cons_of_mem _ (List.mem_cons_self ..)) j hj).2 hbs)); have HB9 := Lib.hid (HBB2.out.trans (hb.mono HBB2.out.size)); have HV := Lib.hid (show V.map (·.1) = Z from hv); obtain ⟨M, hM⟩ : ∃ M, V.length = M := ⟨_, rfl⟩; rw [hM]; have HM := Lib.hid hM; clear hv hh hbs hb hM m1 m2)
                  | ((with_reducible show wpList _ _ _ (⟨some 127, _, _, _, _, _⟩ :: _) _ _); go_must (refine appG_told lnK Tryd.underlying32 infoStH rfl rfl _ _ rfl w2.heap.size _ A rfl (HK9.out.own_.alloc _) (some ⟨w9.heap.size, 0, none⟩) 1 1 [headL p false qb] rfl (oneG w9 (headL p false qb) trivial 9 _ HCS.out) (by have h1 := HAL.out; have h2 := HK2.out; omega) (by have := HB9.out.size; simp; omega) (A.length + 1) rfl ?_); intro a10 c10 w10 ho hg ht; have HK10 := Lib.hid ((HK9.out.below ((Below.refl _ _).alloc (Nat.le_refl _) _)).grow ho hg ht); have HB10 := Lib.hid ((HB9.out.alloc HB9.out.size _).grown hg (by have := HB9.out.size; simp; omega) (fun k h => (HK9.out.own_.lt k h).1)); clear ho hg ht))
                clear HK9 HB9
                go_loopg [7, 19] M (fun gq v7 v19 W => ∃ (j : Nat) (aj : Option Addr) (nj cj : Nat), v19 = .int .i64 (j : Nat) ∧ v7 = .slice aj nj cj ∧ Hid (gq + j = M) ∧ Hid (RkB W w2.heap.size a5 c5 V (.slice aj nj cj) (A ++ (headL p false qb :: toldF (Z.take j))) (.slice a9 (k + 1) c9) (P.take (k + 1))) ∧ Hid (Below w2.heap.size w2 W))
                case atStart => exact ⟨0, a10, _, c10, rfl, rfl, Lib.hid rfl, HK10, HB10⟩
                case round =>
                  clear HK10 HB10
                  obtain ⟨j, aj, nj, cj, rfl, rfl, HJ, HKB, HBK⟩ := hrel
                  by_cases hj : (j : Int) < (M : Int)
                  · have hjV : j < V.length := by have := HM.out; omega
                    obtain ⟨g, a11, c11, rfl, e2, g0, g1, g2, hA11⟩ := HKB.out.at_ hjV
                    have hjZ : j < Z.length := by rw [← HV.out, List.length_map]; exact hjV
                    have hz1 : (gd V j).1 = Z.getD j default := by
                      rw [← HV.out]; unfold gd; simp [List.getD_eq_getElem?_getD, hjV]
                    obtain ⟨⟨f, t, ls⟩, hy⟩ : ∃ y, Z.getD j default = y := ⟨_, rfl⟩
                    have hsm := HSM.out.2 _ (getD_mem (d := default) hjZ)
                    have hne := HNE.out _ (getD_mem (d := default) hjZ)
                    have HTS : Hid (toldF (Z.take (j + 1)) = toldF (Z.take j) ++ tellF f t ls) := Lib.hid (by rw [told_snoc Z j hjZ, hy])
                    have HGY : Hid ((gd V j).1 = ⟨f, t, ls⟩) := Lib.hid (hz1.trans hy)
                    rw [hz1, hy] at g0 g1 g2 hA11 e2
                    rw [hy] at hsm hne
                    obtain ⟨m, hm⟩ : ∃ m, ls.length = m := ⟨_, rfl⟩
                    simp only [hm] at e2 g2 hA11
                    have HE2 := Lib.hid e2
                    have HLM := Lib.hid hm
                    have HSY : Hid (f ≤ 8192 ∧ t ≤ 8192 ∧ m ≤ 8192 ∧ (∀ s ∈ ls, s.length ≤ 1001) ∧ (∀ s ∈ ls, s ≠ [])) := Lib.hid ⟨hsm.1, hsm.2.1, by have := hsm.2.2.1; simp only at this; omega, hsm.2.2.2, hne⟩
                    have HTL : Hid ((A ++ (headL p false qb :: toldF (Z.take j))).length ≤ k * 67117057 + 67117057) := Lib.hid (by
                      have h1 := HAL.out
                      have h2 := gd_told (B := 1000) (V := Z.take j) ⟨by rw [List.length_take]; have := HSM.out.1; omega, fun x hx => HSM.out.2 x (List.mem_of_mem_take hx)⟩
                      rw [List.length_append, List.length_cons]; omega)
                    obtain ⟨ACC, hACC⟩ : ∃ ACC, A ++ (headL p false qb :: toldF (Z.take j)) = ACC := ⟨_, rfl⟩
                    rw [hACC] at HKB HTL
                    have HAC := Lib.hid hACC
                    have HJM : Hid (j < M) := Lib.hid (by omega)
                    have hj0 : (0 : Int) ≤ (j : Int) := by omega
                    have W2 : IntKind.i64.wrap ((j : Int) + 1) = (j : Int) + 1 := IntWalk.i64_in _ (by have h1 := HSM.out.1; have h2 : Z.length ≤ 8192 := h1; omega)
                    obtain ⟨D1, hD1⟩ : ∃ D, strB (decDigits f) = D := ⟨_, rfl⟩
                    obtain ⟨D2, hD2⟩ : ∃ D, strB (decDigits t) = D := ⟨_, rfl⟩
                    obtain ⟨S1, hS1⟩ : ∃ S, strB ([64, 32] ++ decDigits f) = S := ⟨_, rfl⟩
                    obtain ⟨S2, hS2⟩ : ∃ S, strB (([64, 32] ++ decDigits f) ++ [32]) = S := ⟨_, rfl⟩
                    obtain ⟨S3, hS3⟩ : ∃ S, strB (headF f t) = S := ⟨_, rfl⟩
                    have hl1 := dec_len f (by have := HSY.out.1; omega)
                    have hl2 := dec_len t (by have := HSY.out.2.1; omega)
                    have DC1 : Hid (∀ W, (Op.stringOp .add ⟨#[64, 32]⟩ D1).run Tryd.prog W = .ok (.string S1) W) := Lib.hid (fun W => by rw [← hD1, ← hS1]; exact run_catL [64, 32] (decDigits f) (by simp only [List.length_cons, List.length_nil]; omega) W)
                    have DC2 : Hid (∀ W, (Op.stringOp .add S1 ⟨#[32]⟩).run Tryd.prog W = .ok (.string S2) W) := Lib.hid (fun W => by rw [← hS1, ← hS2]; exact run_catL ([64, 32] ++ decDigits f) [32] (by simp only [List.length_append, List.length_cons, List.length_nil]; omega) W)
                    have DC3 : Hid (∀ W, (Op.stringOp .add S2 D2).run Tryd.prog W = .ok (.string S3) W) := Lib.hid (fun W => by rw [← hS2, ← hD2, ← hS3, headF_eq]; exact run_catL (([64, 32] ++ decDigits f) ++ [32]) (decDigits t) (by simp only [List.length_append, List.length_cons, List.length_nil]; omega) W)
                    have HDF : Hid (∀ W, Calls Tryd.prog 33 #[.int .i64 (f : Nat)] W fun e w' => e = .returned (.string D1) ∧ W = w') := Lib.hid (fun W => by rw [← hD1]; exact digits_any f W (by have := HSY.out.1; omega))
                    have HDT : Hid (∀ W, Calls Tryd.prog 33 #[.int .i64 (t : Nat)] W fun e w' => e = .returned (.string D2) ∧ W = w') := Lib.hid (fun W => by rw [← hD2]; exact digits_any t W (by have := HSY.out.2.1; omega))
                    have HC3 : Hid (#[Value.string S3] = (lnK.cells (headF f t)).toArray) := Lib.hid (by rw [← hS3]; rfl)
                    have HKd := Lib.hid (HKB.out.below (Below.refl _ _).drew)
                    have HBd := Lib.hid HBK.out.drew
                    have HRow : Hid (∀ W v' acc', RkB W w2.heap.size (some ⟨g, 0, none⟩) c5 V v' acc' (.slice a9 (k + 1) c9) (P.take (k + 1)) → W.cell? ⟨g, j * 3, none⟩ = some (.int .i64 (f : Nat)) ∧ W.cell? ⟨g, j * 3 + 1, none⟩ = some (.int .i64 (t : Nat)) ∧ W.cell? ⟨g, j * 3 + 2, none⟩ = some (.slice a11 m c11) ∧ AtG lnK W a11 m c11 ls) := Lib.hid (fun W v' acc' hW => hW.line_at hjV HGY.out e2)
                    clear g0 g1 g2 hA11 e2 hjV hjZ hz1 hsm hne hy hm hACC hD1 hD2 hS1 hS2 hS3 hl1 hl2
                    go_wp2
                    refine wp_region_held_drew (S := fun W => W.cell? ⟨g, j * 3, none⟩ = some (.int .i64 (f : Nat)) ∧ W.cell? ⟨g, j * 3 + 1, none⟩ = some (.int .i64 (t : Nat))) (by kernel_rfl) (by have h1 := HRow.out _ _ _ HKd.out; exact ⟨h1.1, h1.2.1⟩) (fun hHeld => ?_)
                    generalize wr.drew = wd at HKd HBd hHeld ⊢
                    refine wpAnyH_take (i := 0) (oi := ⟨some 134, .move (.tmp 7), _, _, _, _⟩) (v := (.slice aj nj cj)) rfl (by kernel_rfl) (by kernel_rfl) (by kernel_rfl) (fun _ _ _ h => h) (Or.inl ⟨by rfl, fun W hW => by go_simp⟩) (by assumption) ?_
                    simp only [Act.put, List.setIfInBounds_toArray, List.set_cons_zero, List.set_cons_succ]
                    refine wpAnyH_take (i := 1) (oi := ⟨some 135, .move (.tmp 16), _, _, _, _⟩) (v := (.slice (some ⟨g, 0, none⟩) M c5)) rfl (by kernel_rfl) (by kernel_rfl) (by kernel_rfl) (fun _ _ _ h => h) (Or.inl ⟨by rfl, fun W hW => by go_simp⟩) (by assumption) ?_
                    simp only [Act.put, List.setIfInBounds_toArray, List.set_cons_zero, List.set_cons_succ]
                    refine wpAnyH_take (i := 2) (oi := ⟨some 136, .move (.tmp 19), _, _, _, _⟩) (v := (.int .i64 (j : Nat))) rfl (by kernel_rfl) (by kernel_rfl) (by kernel_rfl) (fun _ _ _ h => h) (Or.inl ⟨by rfl, fun W hW => by go_simp⟩) (by assumption) ?_
                    simp only [Act.put, List.setIfInBounds_toArray, List.set_cons_zero, List.set_cons_succ]
                    refine wpAnyH_take (i := 3) (oi := ⟨some 137, .indexAddr 26 (.tmp 135) (.tmp 136), _, _, _, _⟩) (v := (.pointer (some ⟨g, 0 + j * 3, none⟩))) rfl (by kernel_rfl) (by kernel_rfl) (by kernel_rfl) (fun _ _ _ h => h) (Or.inl ⟨by rfl, fun W hW => by go_simp⟩) (by assumption) ?_
                    simp only [Act.put, List.setIfInBounds_toArray, List.set_cons_zero, List.set_cons_succ]
                    refine wpAnyH_take (i := 4) (oi := ⟨some 138, .fieldAddr 55 (.tmp 137) 0, _, _, _, _⟩) (v := (.pointer (some ⟨g, 0 + j * 3, none⟩))) rfl (by kernel_rfl) (by kernel_rfl) (by kernel_rfl) (fun _ _ _ h => h) (Or.inl ⟨by rfl, fun W hW => by go_simp⟩) (by assumption) ?_
                    simp only [Act.put, List.setIfInBounds_toArray, List.set_cons_zero, List.set_cons_succ]
                    refine wpAnyH_take (i := 5) (oi := ⟨some 139, .load 3 (.tmp 138), _, _, _, _⟩) (v := (.int .i64 (f : Nat))) rfl (by kernel_rfl) (by kernel_rfl) (by kernel_rfl) (fun _ _ _ h => h) (Or.inl ⟨by rfl, fun W hW => by have hcell := hW.1; go_simp⟩) (by assumption) ?_
                    simp only [Act.put, List.setIfInBounds_toArray, List.set_cons_zero, List.set_cons_succ]
                    refine wpAnyH_take (i := 9) (oi := ⟨some 143, .move (.tmp 16), _, _, _, _⟩) (v := (.slice (some ⟨g, 0, none⟩) M c5)) rfl (by kernel_rfl) (by kernel_rfl) (by kernel_rfl) (fun _ _ _ h => h) (Or.inl ⟨by rfl, fun W hW => by go_simp⟩) (by assumption) ?_
                    simp only [Act.put, List.setIfInBounds_toArray, List.set_cons_zero, List.set_cons_succ]
                    refine wpAnyH_take (i := 10) (oi := ⟨some 144, .move (.tmp 19), _, _, _, _⟩) (v := (.int .i64 (j : Nat))) rfl (by kernel_rfl) (by kernel_rfl) (by kernel_rfl) (fun _ _ _ h => h) (Or.inl ⟨by rfl, fun W hW => by go_simp⟩) (by assumption) ?_
                    simp only [Act.put, List.setIfInBounds_toArray, List.set_cons_zero, List.set_cons_succ]
                    refine wpAnyH_take (i := 11) (oi := ⟨some 145, .indexAddr 26 (.tmp 143) (.tmp 144), _, _, _, _⟩) (v := (.pointer (some ⟨g, 0 + j * 3, none⟩))) rfl (by kernel_rfl) (by kernel_rfl) (by kernel_rfl) (fun _ _ _ h => h) (Or.inl ⟨by rfl, fun W hW => by go_simp⟩) (by assumption) ?_
                    simp only [Act.put, List.setIfInBounds_toArray, List.set_cons_zero, List.set_cons_succ]
                    refine wpAnyH_take (i := 12) (oi := ⟨some 146, .fieldAddr 55 (.tmp 145) 1, _, _, _, _⟩) (v := (.pointer (some ⟨g, 0 + j * 3 + 1, none⟩))) rfl (by kernel_rfl) (by kernel_rfl) (by kernel_rfl) (fun _ _ _ h => h) (Or.inl ⟨by rfl, fun W hW => by go_simp⟩) (by assumption) ?_
                    simp only [Act.put, List.setIfInBounds_toArray, List.set_cons_zero, List.set_cons_succ]
                    refine wpAnyH_take (i := 13) (oi := ⟨some 147, .load 3 (.tmp 146), _, _, _, _⟩) (v := (.int .i64 (t : Nat))) rfl (by kernel_rfl) (by kernel_rfl) (by kernel_rfl) (fun _ _ _ h => h) (Or.inl ⟨by rfl, fun W hW => by have hcell := hW.2; go_simp⟩) (by assumption) ?_
                    simp only [Act.put, List.setIfInBounds_toArray, List.set_cons_zero, List.set_cons_succ]
                    refine wpAnyH_ready (rs := [6]) (by kernel_rfl) (by simp) ?_
                    refine AllReadyH.cons (o := ⟨some 140, .call { callee := .value (.func 33), args := #[(.tmp 139)], argTypes := #[3] }, _, _, _, _⟩) rfl (fun K hK => ?_) AllReadyH.nil
                    go_simp
                    refine (HDF.out _).mono ?_
                    rintro e wt ⟨rfl, rfl⟩
                    refine hK.out _ _ hHeld (fun hHeld => ?_)
                    clear hK K
                    refine wpAnyH_take (i := 7) (oi := ⟨some 141, .binOp .add 9 (.const (.string ⟨#[64, 32]⟩)) (.tmp 140) 9, _, _, _, _⟩) (v := (.string S1)) rfl (by kernel_rfl) (by kernel_rfl) (by kernel_rfl) (fun _ _ _ h => h) (Or.inl ⟨by rfl, fun W hW => by have hq := DC1.out W; go_simp⟩) (by assumption) ?_
                    simp only [Act.put, List.setIfInBounds_toArray, List.set_cons_zero, List.set_cons_succ]
                    refine wpAnyH_take (i := 8) (oi := ⟨some 142, .binOp .add 9 (.tmp 141) (.const (.string ⟨#[32]⟩)) 9, _, _, _, _⟩) (v := (.string S2)) rfl (by kernel_rfl) (by kernel_rfl) (by kernel_rfl) (fun _ _ _ h => h) (Or.inl ⟨by rfl, fun W hW => by have hq := DC2.out W; go_simp⟩) (by assumption) ?_
                    simp only [Act.put, List.setIfInBounds_toArray, List.set_cons_zero, List.set_cons_succ]
                    refine wpAnyH_ready (rs := [14]) (by kernel_rfl) (by simp) ?_
                    refine AllReadyH.cons (o := ⟨some 148, .call { callee := .value (.func 33), args := #[(.tmp 147)], argTypes := #[3] }, _, _, _, _⟩) rfl (fun K hK => ?_) AllReadyH.nil
                    go_simp
                    refine (HDT.out _).mono ?_
                    rintro e wt ⟨rfl, rfl⟩
                    refine hK.out _ _ hHeld (fun hHeld => ?_)
                    clear hK K
                    refine wpAnyH_take (i := 15) (oi := ⟨some 149, .binOp .add 9 (.tmp 142) (.tmp 148) 9, _, _, _, _⟩) (v := (.string S3)) rfl (by kernel_rfl) (by kernel_rfl) (by kernel_rfl) (fun _ _ _ h => h) (Or.inl ⟨by rfl, fun W hW => by have hq := DC3.out W; go_simp⟩) (by assumption) ?_
                    simp only [Act.put, List.setIfInBounds_toArray, List.set_cons_zero, List.set_cons_succ]
                    refine wpAnyH_ready (rs := [16]) (by kernel_rfl) (by simp) ?_
                    refine AllReadyH.cons (o := ⟨some 150, .buildSlice 32 1 #[(0, (.tmp 149))], _, _, _, _⟩) rfl (fun K hK => ?_) AllReadyH.nil
                    refine wreadyH ?_
                    go_simp
                    obtain ⟨we, hwe⟩ : ∃ W, wd.alloc (.cells #[.string S3] 9) = W := ⟨_, rfl⟩
                    have HSe : Hid (AtG lnK we (some ⟨wd.heap.size, 0, none⟩) 1 1 [headF f t]) := Lib.hid (hwe ▸ oneG wd (headF f t) trivial 9 _ HC3.out)
                    have hbe : Below wd.heap.size wd we := hwe ▸ (Below.refl _ _).alloc (Nat.le_refl _) _
                    have HKe := Lib.hid (HKd.out.below hbe)
                    have HBe := Lib.hid (HBd.out.trans (hbe.mono HBd.out.size))
                    clear hbe
                    rw [hwe]
                    clear hwe
                    refine hK.out _ _ (by have h1 := HRow.out _ _ _ HKe.out; exact ⟨h1.1, h1.2.1⟩) (fun hHeld => ?_)
                    clear hK K
                    refine wpAnyH_ready (rs := [17]) (by kernel_rfl) (by simp) ?_
                    refine AllReadyH.cons (o := ⟨some 151, .call { callee := .builtin .append, args := #[(.tmp 134), (.tmp 150)], argTypes := #[32, 32] }, _, _, _, _⟩) rfl (fun K hK => ?_) AllReadyH.nil
                    refine wreadyH (wp_appG_told lnK Tryd.underlying32 infoStH rfl (.tmp 134) (.tmp 150) rfl w2.heap.size (.slice aj nj cj) ACC rfl HKe.out.own_ _ 1 1 [headF f t] rfl HSe.out (by have h1 := HTL.out; have h2 := HK2.out; omega) HBe.out.size (ACC.length + 1) rfl ?_)
                    intro a12 c12 w12 ho hg ht
                    have HK12 := Lib.hid (HKe.out.grow ho hg ht)
                    have HB12 := Lib.hid (HBe.out.grown hg HBe.out.size (fun k h => (HKe.out.own_.lt k h).1))
                    clear ho hg ht
                    refine hK.out _ _ (by have h1 := HRow.out _ _ _ HK12.out; exact ⟨h1.1, h1.2.1⟩) (fun hHeld => ?_)
                    clear hK K
                    refine wpAnyH_take (i := 18) (oi := ⟨some 7, .assign (.tmp 151), _, _, _, _⟩) (v := (.slice a12 (ACC.length + 1) c12)) rfl (by kernel_rfl) (by kernel_rfl) (by kernel_rfl) (fun _ _ _ h => h) (Or.inl ⟨by rfl, fun W hW => by go_simp⟩) (by assumption) ?_
                    simp only [Act.put, List.setIfInBounds_toArray, List.set_cons_zero, List.set_cons_succ]
                    refine wpAnyH_done (by kernel_rfl) ?_ _
                    clear hHeld
                    clear HKd HBd
                    go_wp2
                    go_loopg [7, 20] m (fun gr v7 v20 W => ∃ (i2 : Nat) (ai : Option Addr) (ni ci : Nat), v20 = .int .i64 (i2 : Nat) ∧ v7 = .slice ai ni ci ∧ Hid (gr + i2 = m) ∧ Hid (RkB W w2.heap.size (some ⟨g, 0, none⟩) c5 V (.slice ai ni ci) ((ACC ++ [headF f t]) ++ (ls.take i2).map endF) (.slice a9 (k + 1) c9) (P.take (k + 1))) ∧ Hid (Below w2.heap.size w2 W))
                    case atStart => exact ⟨0, a12, _, c12, rfl, rfl, Lib.hid rfl, Lib.hid (by rw [List.take_zero, List.map_nil, List.append_nil]; exact HK12.out), HB12⟩
                    case round =>
                      clear HK12 HB12
                      obtain ⟨i2, ai, ni, ci, rfl, rfl, HI2, HKB2, HBK2⟩ := hrel
                      obtain ⟨g0, g1, g2, hA11⟩ := HRow.out wr _ _ HKB2.out
                      by_cases hi2 : (i2 : Int) < (m : Int)
                      · have hi2l : i2 < ls.length := by have := HLM.out; omega
                        obtain ⟨b11, o11, rfl⟩ := hA11.some_ (by omega)
                        obtain ⟨x, hx⟩ : ∃ x, ls.getD i2 [] = x := ⟨_, rfl⟩
                        have y0 := ln_cell hA11 i2 (by omega)
                        rw [hx] at y0
                        have hxm : x ∈ ls := by rw [← hx]; exact getD_mem hi2l
                        have hxl := HSY.out.2.2.2.1 x hxm
                        have hxn := HSY.out.2.2.2.2 x hxm
                        have hpos : 0 < x.length := List.length_pos_iff.2 hxn
                        obtain ⟨e, he⟩ : ∃ e, e + 1 = x.length := ⟨x.length - 1, by omega⟩
                        obtain ⟨N1, hN1⟩ : ∃ N1, (strB x).size = N1 := ⟨_, rfl⟩
                        have hsz : x.length = N1 := by rw [← hN1, strB_size]
                        have hks : e < (strB x).size := by rw [hN1]; omega
                        have hby := byte_at hks
                        have W3 : IntKind.i64.wrap ((N1 : Int) - 1) = (e : Int) := by rw [IntWalk.i64_in _ (by omega)]; omega
                        have W4 : IntKind.i64.wrap ((i2 : Int) + 1) = (i2 : Int) + 1 := IntWalk.i64_in _ (by have := HSY.out; omega)
                        have e0 : (0 : Int) ≤ (e : Int) := by omega
                        have e1 : (e : Int) < (N1 : Int) := by omega
                        have e1n : e < N1 := by omega
                        have e2 : (e : Int) ≤ (N1 : Int) := by omega
                        have e2n : e ≤ N1 := by omega
                        have hi20 : (0 : Int) ≤ (i2 : Int) := by omega
                        have HTM : Hid (∀ y, endF x = y → (ls.take (i2 + 1)).map endF = (ls.take i2).map endF ++ [y]) := Lib.hid (fun y hy => by rw [take_snoc ls i2 [] hi2l, hx, List.map_append]; exact congrArg _ (congrArg (fun z => [z]) hy))
                        have HLL : Hid (((ACC ++ [headF f t]) ++ (ls.take i2).map endF).length ≤ 200000000000) := Lib.hid (by
                          have h1 := HTL.out; have h2 := HK2.out; have h3 := HSY.out.2.2.1; have h4 := HLM.out
                          rw [List.length_append, List.length_append, List.length_map, List.length_take, List.length_singleton]; omega)
                        have HXL : Hid (x.length ≤ 1001) := Lib.hid hxl
                        obtain ⟨M9, hM9⟩ : ∃ M, ((ACC ++ [headF f t]) ++ (ls.take i2).map endF).length + 1 = M := ⟨_, rfl⟩
                        have HM9 := Lib.hid hM9
                        clear hM9
                        have HIM : Hid (i2 < m) := Lib.hid (by omega)
                        by_cases h10 : x.getD e 0 = 10
                        · have hq : ((((strB x)[e]'hks).toNat : Int) == 10) = true := by rw [hby, h10]; rfl
                          have HEY := Lib.hid (HTM.out (x.take e) (by rw [end_yes hxn (by rw [show x.length - 1 = e from by omega]; exact h10), show x.length - 1 = e from by omega]))
                          have hex : (strB x).extract 0 e = strB (x.take e) := by rw [ext_strB, List.drop_zero]
                          clear hby h10 hx hxm hxl hxn hpos he hi2l hA11
                          go_wp2_with (at_builtin; go_must (refine appG_told lnK Tryd.underlying32 infoStH rfl rfl _ _ rfl w2.heap.size _ _ rfl (HKB2.out.own_.alloc _) (some ⟨wr.heap.size, 0, none⟩) 1 1 [x.take e] rfl (oneG wr (x.take e) trivial 9 _ rfl) (by have h1 := HLL.out; omega) (by have := HBK2.out.size; simp; omega) M9 HM9.out.symm ?_); intro a14 c14 w14 ho hg ht; have HK14 := Lib.hid ((HKB2.out.below ((Below.refl _ _).alloc (Nat.le_refl _) _)).grow ho hg ht); have HB14 := Lib.hid ((HBK2.out.alloc HBK2.out.size _).grown hg (by have := HBK2.out.size; simp; omega) (fun k h => (HKB2.out.own_.lt k h).1)); clear ho hg ht)
                          go_roundg (gk - 1)
                          case measure => have h1 := HI2.out; have h2 := HIM.out; omega
                          case rel => exact ⟨i2 + 1, a14, M9, c14, by go_num, rfl, Lib.hid (by have h1 := HI2.out; have h2 := HIM.out; omega), Lib.hid (by rw [HEY.out, ← List.append_assoc]; exact HK14.out), HB14⟩
                        · have hq : ((((strB x)[e]'hks).toNat : Int) == 10) = false := by rw [hby]; exact ne_ten h10
                          have HEY := Lib.hid (HTM.out (x ++ [92]) (end_no hxn (by rw [show x.length - 1 = e from by omega]; exact h10)))
                          obtain ⟨X9, hX9⟩ : ∃ X, strB (x ++ [92]) = X := ⟨_, rfl⟩
                          have hc9 : ∀ W, (Op.stringOp .add (strB x) ⟨#[92]⟩).run Tryd.prog W = .ok (.string X9) W := fun W => by rw [← hX9]; exact run_catL x [92] (by simp only [List.length_cons, List.length_nil]; omega) W
                          have HC9 : Hid (#[Value.string X9] = (lnK.cells (x ++ [92])).toArray) := Lib.hid (by rw [← hX9]; rfl)
                          clear hby h10 hx hxm hxl hxn hpos he hi2l hA11 hX9
                          go_wp2_with (at_builtin; go_must (refine appG_told lnK Tryd.underlying32 infoStH rfl rfl _ _ rfl w2.heap.size _ _ rfl (HKB2.out.own_.alloc _) (some ⟨wr.heap.size, 0, none⟩) 1 1 [x ++ [92]] rfl (oneG wr (x ++ [92]) trivial 9 _ HC9.out) (by have h1 := HLL.out; omega) (by have := HBK2.out.size; simp; omega) M9 HM9.out.symm ?_); intro a14 c14 w14 ho hg ht; have HK14 := Lib.hid ((HKB2.out.below ((Below.refl _ _).alloc (Nat.le_refl _) _)).grow ho hg ht); have HB14 := Lib.hid ((HBK2.out.alloc HBK2.out.size _).grown hg (by have := HBK2.out.size; simp; omega) (fun k h => (HKB2.out.own_.lt k h).1)); clear ho hg ht)
                          go_roundg (gk - 1)
                          case measure => have h1 := HI2.out; have h2 := HIM.out; omega
                          case rel => exact ⟨i2 + 1, a14, M9, c14, by go_num, rfl, Lib.hid (by have h1 := HI2.out; have h2 := HIM.out; omega), Lib.hid (by rw [HEY.out, ← List.append_assoc]; exact HK14.out), HB14⟩
                      · have him : i2 = m := by have := HI2.out; omega
                        have HKE := HKB2
                        rw [him, List.take_of_length_le (by rw [HLM.out]; exact Nat.le_refl _), ← HAC.out] at HKE
                        clear him hA11
                        go_wp2
                        go_roundg (M - (j + 1))
                        case measure => have h1 := HJ.out; have h2 := HJM.out; omega
                        case rel => exact ⟨j + 1, ai, ni, ci, by go_num, rfl, Lib.hid (by have h1 := HJ.out; have h2 := HJM.out; omega), Lib.hid (by rw [HTS.out]; have h1 := HKE.out; simp only [List.append_assoc, List.cons_append, List.nil_append] at h1 ⊢; exact h1), HBK2⟩
                  · have hjM : j = M := by have := HJ.out; omega
                    have hZk : Z.take j = Z := List.take_of_length_le (by rw [← HV.out, List.length_map, HM.out, hjM]; exact Nat.le_refl _)
                    have HE := Lib.hid HKB.out.two
                    rw [hZk] at HE
                    have HEL : Hid ((A ++ (headL p false qb :: toldF Z)).length ≤ (k + 1) * 67117057) := Lib.hid (by
                      have h1 := HAL.out
                      have h2 := gd_told HSM.out
                      rw [List.length_append, List.length_cons, Nat.succ_mul]; omega)
                    clear hjM hZk
                    go_wp2
                    go_roundg (P.length + 1 - (k + 1))
                    case measure => have h1 := HI.out; have h2 := HKL.out; omega
                    case rel => exact ⟨k + 1, _, aj, nj, cj, a9, k + 1, c9, rfl, rfl, Lib.hid (by have h1 := HI.out; have h2 := HKL.out; omega), Lib.hid HKL.out, HRR, HE, Lib.hid rfl, HEL, HBK⟩
            · have hr1 : ((r : Int) != 0) = true := by rw [bne_iff_ne]; omega
              have hr2 : ¬ ((r : Int) = 0) := by omega
              have HRR : Hid (([], r) = R) := Lib.hid (by have h1 := HGS.out; rw [HFE.out, if_neg hr] at h1; simpa [hr] using h1)
              clear HGS HFE
              as_aux_lemma =>
                go_wp2_with (first
                  | ((with_reducible show wpList _ _ _ (⟨some 79, _, _, _, _, _⟩ :: _) _ _); go_must (refine appG_told lnK Tryd.underlying32 infoStH rfl rfl _ _ rfl w2.heap.size _ (P.take k) rfl (HTW.out.alloc _) (some ⟨wr.heap.size, 0, none⟩) 1 1 [p] rfl (oneG wr p trivial 9 _ rfl) (by have h1 := HK2.out; have h2 := HKG.out; omega) (by have := HBW2.out.size; simp; omega) (k + 1) HKG.out ?_); intro a9 c9 w6 ho hg ht; have HH6 : Hid (Holds w6 w2.heap.size [hG lnK 9 (.slice a7 n7 c7) A, hG lnK 9 (.slice a9 (k + 1) c9) (P.take (k + 1))]) := Lib.hid (by have h1 := ((HHW.out.below ((Below.refl _ _).alloc (Nat.le_refl _) _)).perm (List.Perm.swap _ _ _)).put (h' := hG lnK 9 (.slice a9 (k + 1) c9) (P.take k ++ [p])) hg ho.1 ht; rw [← HTK.out] at h1; exact h1.perm (List.Perm.swap _ _ _)); have HB6 := Lib.hid ((HBW2.out.alloc HBW2.out.size _).grown hg (by have := HBW2.out.size; simp; omega) (fun k h => (HTW.out.lt k h).1)); clear ho hg ht x0)
                  | (go_at_call 32; (with_reducible refine (HFI1.out w6 HB6.out).mono ?_); rintro e w7 ⟨rfl, hb⟩; obtain ⟨wA, hwA⟩ : ∃ W, w7.alloc (.cells #[.string (strB p1), .string (strB b1)] FileT) = W := ⟨_, rfl⟩; have eA : wA.heap[w7.heap.size]? = some (.cells #[.string (strB p1), .string (strB b1)] FileT (0, 0)) := hwA ▸ heap_alloc_new w7 _; have HEA := Lib.hid eA; have HSA : Hid (w7.heap.size < wA.heap.size) := Lib.hid (by rw [← hwA]; simp); have hb7 : Below w6.heap.size w6 wA := hwA ▸ hb.alloc hb.size _; have HHA := Lib.hid (HH6.out.below hb7); have HBA := Lib.hid (HB6.out.trans (hb7.mono HB6.out.size)); clear hb hb7 eA)
                  | (go_at_call 32; (with_reducible refine (HFI2.out wA HBA.out).mono ?_); rintro e w8 ⟨rfl, hb⟩; obtain ⟨wB, hwB⟩ : ∃ W, w8.alloc (.cells #[.string (strB p2), .string (strB b2)] FileT) = W := ⟨_, rfl⟩; have eB : wB.heap[w8.heap.size]? = some (.cells #[.string (strB p2), .string (strB b2)] FileT (0, 0)) := hwB ▸ heap_alloc_new w8 _; have hb8 : Below wA.heap.size wA wB := hwB ▸ hb.alloc hb.size _; have eA2 : wB.heap[w7.heap.size]? = some (.cells #[.string (strB p1), .string (strB b1)] FileT (0, 0)) := (hb8.block _ HSA.out).trans HEA.out; have m1 : wB.cell? ⟨w7.heap.size, 1, none⟩ = some (.string (strB b1)) := (cell_of_row _ _ _ _ _ _ eA2).trans rfl; have m2 : wB.cell? ⟨w8.heap.size, 1, none⟩ = some (.string (strB b2)) := (cell_of_row _ _ _ _ _ _ eB).trans rfl; have HHB := Lib.hid (HHA.out.below hb8); have HBB2 := Lib.hid (HBA.out.trans (hb8.mono HBA.out.size)); clear hb hb8 eA2 eB)
                  | (go_at_call 9; (with_reducible refine (HHK.out wB).mono ?_); rintro e w9 ⟨a5, c5, base, V, rfl, hv, hh, hbs, hb⟩; have HB9 := Lib.hid (HBB2.out.trans (hb.mono HBB2.out.size)); clear hv hh hbs hb m1 m2))
                go_ret2
                exact ⟨none, 0, 0, by rw [← HRR.out]; rfl, by rw [← HRR.out]; exact AtG.nil, HB2.out.trans (HB9.out.mono HB2.out.size)⟩
          | true =>
            cases qb with
            | false =>
              obtain ⟨T2, hT2⟩ : ∃ T, strB (headL p true false) = T := ⟨_, rfl⟩
              have hc2 : ∀ W, (Op.stringOp .add T1 ⟨#[32, 103, 111, 110, 101]⟩).run Tryd.prog W = .ok (.string T2) W := fun W => by rw [← HT1.out, ← hT2]; exact run_catL _ [32, 103, 111, 110, 101] (by have := HPP.out; simp only [List.length_append, List.length_cons, List.length_nil]; omega) W
              have HT2 := Lib.hid hT2
              have HFE := Lib.hid (HFN.out rfl)
              clear hT2 HFN
              by_cases hr : r = 0
              · subst hr
                have HRR : Hid (goL X Y (A ++ (headL p true false :: toldF Z)) (P.drop (k + 1)) = R) := Lib.hid (by have h1 := HGS.out; rw [HFE.out, if_pos rfl] at h1; simpa using h1)
                have HCS : Hid (#[Value.string T2] = (lnK.cells (headL p true false)).toArray) := Lib.hid (by rw [← HT2.out]; rfl)
                clear HGS HFE
                as_aux_lemma =>
                  go_wp2_with (first
                    | ((with_reducible show wpList _ _ _ (⟨some 79, _, _, _, _, _⟩ :: _) _ _); go_must (refine appG_told lnK Tryd.underlying32 infoStH rfl rfl _ _ rfl w2.heap.size _ (P.take k) rfl (HTW.out.alloc _) (some ⟨wr.heap.size, 0, none⟩) 1 1 [p] rfl (oneG wr p trivial 9 _ rfl) (by have h1 := HK2.out; have h2 := HKG.out; omega) (by have := HBW2.out.size; simp; omega) (k + 1) HKG.out ?_); intro a9 c9 w6 ho hg ht; have HH6 : Hid (Holds w6 w2.heap.size [hG lnK 9 (.slice a7 n7 c7) A, hG lnK 9 (.slice a9 (k + 1) c9) (P.take (k + 1))]) := Lib.hid (by have h1 := ((HHW.out.below ((Below.refl _ _).alloc (Nat.le_refl _) _)).perm (List.Perm.swap _ _ _)).put (h' := hG lnK 9 (.slice a9 (k + 1) c9) (P.take k ++ [p])) hg ho.1 ht; rw [← HTK.out] at h1; exact h1.perm (List.Perm.swap _ _ _)); have HB6 := Lib.hid ((HBW2.out.alloc HBW2.out.size _).grown hg (by have := HBW2.out.size; simp; omega) (fun k h => (HTW.out.lt k h).1)); clear ho hg ht x0)
                    | (go_at_call 32; (with_reducible refine (HFI1.out w6 HB6.out).mono ?_); rintro e w7 ⟨rfl, hb⟩; obtain ⟨wA, hwA⟩ : ∃ W, w7.alloc (.cells #[.string (strB p1), .string (strB b1)] FileT) = W := ⟨_, rfl⟩; have eA : wA.heap[w7.heap.size]? = some (.cells #[.string (strB p1), .string (strB b1)] FileT (0, 0)) := hwA ▸ heap_alloc_new w7 _; have HEA := Lib.hid eA; have HSA : Hid (w7.heap.size < wA.heap.size) := Lib.hid (by rw [← hwA]; simp); have hb7 : Below w6.heap.size w6 wA := hwA ▸ hb.alloc hb.size _; have HHA := Lib.hid (HH6.out.below hb7); have HBA := Lib.hid (HB6.out.trans (hb7.mono HB6.out.size)); clear hb hb7 eA)
                    | (go_at_call 32; (with_reducible refine (HFI2.out wA HBA.out).mono ?_); rintro e w8 ⟨rfl, hb⟩; obtain ⟨wB, hwB⟩ : ∃ W, w8.alloc (.cells #[.string (strB p2), .string (strB b2)] FileT) = W := ⟨_, rfl⟩; have eB : wB.heap[w8.heap.size]? = some (.cells #[.string (strB p2), .string (strB b2)] FileT (0, 0)) := hwB ▸ heap_alloc_new w8 _; have hb8 : Below wA.heap.size wA wB := hwB ▸ hb.alloc hb.size _; have eA2 : wB.heap[w7.heap.size]? = some (.cells #[.string (strB p1), .string (strB b1)] FileT (0, 0)) := (hb8.block _ HSA.out).trans HEA.out; have m1 : wB.cell? ⟨w7.heap.size, 1, none⟩ = some (.string (strB b1)) := (cell_of_row _ _ _ _ _ _ eA2).trans rfl; have m2 : wB.cell? ⟨w8.heap.size, 1, none⟩ = some (.string (strB b2)) := (cell_of_row _ _ _ _ _ _ eB).trans rfl; have HHB := Lib.hid (HHA.out.below hb8); have HBB2 := Lib.hid (HBA.out.trans (hb8.mono HBA.out.size)); clear hb hb8 eA2 eB)
                    | (go_at_call 9; (with_reducible refine (HHK.out wB).mono ?_); rintro e w9 ⟨a5, c5, base, V, rfl, hv, hh, hbs, hb⟩; have HK9 := Lib.hid (RkB.of hh (HHB.out.below hb) (Nat.le_trans HBB2.out.size hbs) (fun j hj => by rcases hj with hj | hj; exact Nat.lt_of_lt_of_le (HHB.out.lt (h := hG lnK 9 (.slice a7 n7 c7) A) (List.mem_cons_self ..) j hj).2 hbs; exact Nat.lt_of_lt_of_le (HHB.out.lt (h := hG lnK 9 (.slice a9 (k + 1) c9) (P.take (k + 1))) (List.mem_cons_of_mem _ (List.mem_cons_self ..)) j hj).2 hbs)); have HB9 := Lib.hid (HBB2.out.trans (hb.mono HBB2.out.size)); have HV := Lib.hid (show V.map (·.1) = Z from hv); obtain ⟨M, hM⟩ : ∃ M, V.length = M := ⟨_, rfl⟩; rw [hM]; have HM := Lib.hid hM; clear hv hh hbs hb hM m1 m2)
                    | ((with_reducible show wpList _ _ _ (⟨some 127, _, _, _, _, _⟩ :: _) _ _); go_must (refine appG_told lnK Tryd.underlying32 infoStH rfl rfl _ _ rfl w2.heap.size _ A rfl (HK9.out.own_.alloc _) (some ⟨w9.heap.size, 0, none⟩) 1 1 [headL p true false] rfl (oneG w9 (headL p true false) trivial 9 _ HCS.out) (by have h1 := HAL.out; have h2 := HK2.out; omega) (by have := HB9.out.size; simp; omega) (A.length + 1) rfl ?_); intro a10 c10 w10 ho hg ht; have HK10 := Lib.hid ((HK9.out.below ((Below.refl _ _).alloc (Nat.le_refl _) _)).grow ho hg ht); have HB10 := Lib.hid ((HB9.out.alloc HB9.out.size _).grown hg (by have := HB9.out.size; simp; omega) (fun k h => (HK9.out.own_.lt k h).1)); clear ho hg ht))
                  clear HK9 HB9
                  go_loopg [7, 19] M (fun gq v7 v19 W => ∃ (j : Nat) (aj : Option Addr) (nj cj : Nat), v19 = .int .i64 (j : Nat) ∧ v7 = .slice aj nj cj ∧ Hid (gq + j = M) ∧ Hid (RkB W w2.heap.size a5 c5 V (.slice aj nj cj) (A ++ (headL p true false :: toldF (Z.take j))) (.slice a9 (k + 1) c9) (P.take (k + 1))) ∧ Hid (Below w2.heap.size w2 W))
                  case atStart => exact ⟨0, a10, _, c10, rfl, rfl, Lib.hid rfl, HK10, HB10⟩
                  case round =>
                    clear HK10 HB10
                    obtain ⟨j, aj, nj, cj, rfl, rfl, HJ, HKB, HBK⟩ := hrel
                    by_cases hj : (j : Int) < (M : Int)
                    · have hjV : j < V.length := by have := HM.out; omega
                      obtain ⟨g, a11, c11, rfl, e2, g0, g1, g2, hA11⟩ := HKB.out.at_ hjV
                      have hjZ : j < Z.length := by rw [← HV.out, List.length_map]; exact hjV
                      have hz1 : (gd V j).1 = Z.getD j default := by
                        rw [← HV.out]; unfold gd; simp [List.getD_eq_getElem?_getD, hjV]
                      obtain ⟨⟨f, t, ls⟩, hy⟩ : ∃ y, Z.getD j default = y := ⟨_, rfl⟩
                      have hsm := HSM.out.2 _ (getD_mem (d := default) hjZ)
                      have hne := HNE.out _ (getD_mem (d := default) hjZ)
                      have HTS : Hid (toldF (Z.take (j + 1)) = toldF (Z.take j) ++ tellF f t ls) := Lib.hid (by rw [told_snoc Z j hjZ, hy])
                      have HGY : Hid ((gd V j).1 = ⟨f, t, ls⟩) := Lib.hid (hz1.trans hy)
                      rw [hz1, hy] at g0 g1 g2 hA11 e2
                      rw [hy] at hsm hne
                      obtain ⟨m, hm⟩ : ∃ m, ls.length = m := ⟨_, rfl⟩
                      simp only [hm] at e2 g2 hA11
                      have HE2 := Lib.hid e2
                      have HLM := Lib.hid hm
                      have HSY : Hid (f ≤ 8192 ∧ t ≤ 8192 ∧ m ≤ 8192 ∧ (∀ s ∈ ls, s.length ≤ 1001) ∧ (∀ s ∈ ls, s ≠ [])) := Lib.hid ⟨hsm.1, hsm.2.1, by have := hsm.2.2.1; simp only at this; omega, hsm.2.2.2, hne⟩
                      have HTL : Hid ((A ++ (headL p true false :: toldF (Z.take j))).length ≤ k * 67117057 + 67117057) := Lib.hid (by
                        have h1 := HAL.out
                        have h2 := gd_told (B := 1000) (V := Z.take j) ⟨by rw [List.length_take]; have := HSM.out.1; omega, fun x hx => HSM.out.2 x (List.mem_of_mem_take hx)⟩
                        rw [List.length_append, List.length_cons]; omega)
                      obtain ⟨ACC, hACC⟩ : ∃ ACC, A ++ (headL p true false :: toldF (Z.take j)) = ACC := ⟨_, rfl⟩
                      rw [hACC] at HKB HTL
                      have HAC := Lib.hid hACC
                      have HJM : Hid (j < M) := Lib.hid (by omega)
                      have hj0 : (0 : Int) ≤ (j : Int) := by omega
                      have W2 : IntKind.i64.wrap ((j : Int) + 1) = (j : Int) + 1 := IntWalk.i64_in _ (by have h1 := HSM.out.1; have h2 : Z.length ≤ 8192 := h1; omega)
                      obtain ⟨D1, hD1⟩ : ∃ D, strB (decDigits f) = D := ⟨_, rfl⟩
                      obtain ⟨D2, hD2⟩ : ∃ D, strB (decDigits t) = D := ⟨_, rfl⟩
                      obtain ⟨S1, hS1⟩ : ∃ S, strB ([64, 32] ++ decDigits f) = S := ⟨_, rfl⟩
                      obtain ⟨S2, hS2⟩ : ∃ S, strB (([64, 32] ++ decDigits f) ++ [32]) = S := ⟨_, rfl⟩
                      obtain ⟨S3, hS3⟩ : ∃ S, strB (headF f t) = S := ⟨_, rfl⟩
                      have hl1 := dec_len f (by have := HSY.out.1; omega)
                      have hl2 := dec_len t (by have := HSY.out.2.1; omega)
                      have DC1 : Hid (∀ W, (Op.stringOp .add ⟨#[64, 32]⟩ D1).run Tryd.prog W = .ok (.string S1) W) := Lib.hid (fun W => by rw [← hD1, ← hS1]; exact run_catL [64, 32] (decDigits f) (by simp only [List.length_cons, List.length_nil]; omega) W)
                      have DC2 : Hid (∀ W, (Op.stringOp .add S1 ⟨#[32]⟩).run Tryd.prog W = .ok (.string S2) W) := Lib.hid (fun W => by rw [← hS1, ← hS2]; exact run_catL ([64, 32] ++ decDigits f) [32] (by simp only [List.length_append, List.length_cons, List.length_nil]; omega) W)
                      have DC3 : Hid (∀ W, (Op.stringOp .add S2 D2).run Tryd.prog W = .ok (.string S3) W) := Lib.hid (fun W => by rw [← hS2, ← hD2, ← hS3, headF_eq]; exact run_catL (([64, 32] ++ decDigits f) ++ [32]) (decDigits t) (by simp only [List.length_append, List.length_cons, List.length_nil]; omega) W)
                      have HDF : Hid (∀ W, Calls Tryd.prog 33 #[.int .i64 (f : Nat)] W fun e w' => e = .returned (.string D1) ∧ W = w') := Lib.hid (fun W => by rw [← hD1]; exact digits_any f W (by have := HSY.out.1; omega))
                      have HDT : Hid (∀ W, Calls Tryd.prog 33 #[.int .i64 (t : Nat)] W fun e w' => e = .returned (.string D2) ∧ W = w') := Lib.hid (fun W => by rw [← hD2]; exact digits_any t W (by have := HSY.out.2.1; omega))
                      have HC3 : Hid (#[Value.string S3] = (lnK.cells (headF f t)).toArray) := Lib.hid (by rw [← hS3]; rfl)
                      have HKd := Lib.hid (HKB.out.below (Below.refl _ _).drew)
                      have HBd := Lib.hid HBK.out.drew
                      have HRow : Hid (∀ W v' acc', RkB W w2.heap.size (some ⟨g, 0, none⟩) c5 V v' acc' (.slice a9 (k + 1) c9) (P.take (k + 1)) → W.cell? ⟨g, j * 3, none⟩ = some (.int .i64 (f : Nat)) ∧ W.cell? ⟨g, j * 3 + 1, none⟩ = some (.int .i64 (t : Nat)) ∧ W.cell? ⟨g, j * 3 + 2, none⟩ = some (.slice a11 m c11) ∧ AtG lnK W a11 m c11 ls) := Lib.hid (fun W v' acc' hW => hW.line_at hjV HGY.out e2)
                      clear g0 g1 g2 hA11 e2 hjV hjZ hz1 hsm hne hy hm hACC hD1 hD2 hS1 hS2 hS3 hl1 hl2
                      go_wp2
                      refine wp_region_held_drew (S := fun W => W.cell? ⟨g, j * 3, none⟩ = some (.int .i64 (f : Nat)) ∧ W.cell? ⟨g, j * 3 + 1, none⟩ = some (.int .i64 (t : Nat))) (by kernel_rfl) (by have h1 := HRow.out _ _ _ HKd.out; exact ⟨h1.1, h1.2.1⟩) (fun hHeld => ?_)
                      generalize wr.drew = wd at HKd HBd hHeld ⊢
                      refine wpAnyH_take (i := 0) (oi := ⟨some 134, .move (.tmp 7), _, _, _, _⟩) (v := (.slice aj nj cj)) rfl (by kernel_rfl) (by kernel_rfl) (by kernel_rfl) (fun _ _ _ h => h) (Or.inl ⟨by rfl, fun W hW => by go_simp⟩) (by assumption) ?_
                      simp only [Act.put, List.setIfInBounds_toArray, List.set_cons_zero, List.set_cons_succ]
                      refine wpAnyH_take (i := 1) (oi := ⟨some 135, .move (.tmp 16), _, _, _, _⟩) (v := (.slice (some ⟨g, 0, none⟩) M c5)) rfl (by kernel_rfl) (by kernel_rfl) (by kernel_rfl) (fun _ _ _ h => h) (Or.inl ⟨by rfl, fun W hW => by go_simp⟩) (by assumption) ?_
                      simp only [Act.put, List.setIfInBounds_toArray, List.set_cons_zero, List.set_cons_succ]
                      refine wpAnyH_take (i := 2) (oi := ⟨some 136, .move (.tmp 19), _, _, _, _⟩) (v := (.int .i64 (j : Nat))) rfl (by kernel_rfl) (by kernel_rfl) (by kernel_rfl) (fun _ _ _ h => h) (Or.inl ⟨by rfl, fun W hW => by go_simp⟩) (by assumption) ?_
                      simp only [Act.put, List.setIfInBounds_toArray, List.set_cons_zero, List.set_cons_succ]
                      refine wpAnyH_take (i := 3) (oi := ⟨some 137, .indexAddr 26 (.tmp 135) (.tmp 136), _, _, _, _⟩) (v := (.pointer (some ⟨g, 0 + j * 3, none⟩))) rfl (by kernel_rfl) (by kernel_rfl) (by kernel_rfl) (fun _ _ _ h => h) (Or.inl ⟨by rfl, fun W hW => by go_simp⟩) (by assumption) ?_
                      simp only [Act.put, List.setIfInBounds_toArray, List.set_cons_zero, List.set_cons_succ]
                      refine wpAnyH_take (i := 4) (oi := ⟨some 138, .fieldAddr 55 (.tmp 137) 0, _, _, _, _⟩) (v := (.pointer (some ⟨g, 0 + j * 3, none⟩))) rfl (by kernel_rfl) (by kernel_rfl) (by kernel_rfl) (fun _ _ _ h => h) (Or.inl ⟨by rfl, fun W hW => by go_simp⟩) (by assumption) ?_
                      simp only [Act.put, List.setIfInBounds_toArray, List.set_cons_zero, List.set_cons_succ]
                      refine wpAnyH_take (i := 5) (oi := ⟨some 139, .load 3 (.tmp 138), _, _, _, _⟩) (v := (.int .i64 (f : Nat))) rfl (by kernel_rfl) (by kernel_rfl) (by kernel_rfl) (fun _ _ _ h => h) (Or.inl ⟨by rfl, fun W hW => by have hcell := hW.1; go_simp⟩) (by assumption) ?_
                      simp only [Act.put, List.setIfInBounds_toArray, List.set_cons_zero, List.set_cons_succ]
                      refine wpAnyH_take (i := 9) (oi := ⟨some 143, .move (.tmp 16), _, _, _, _⟩) (v := (.slice (some ⟨g, 0, none⟩) M c5)) rfl (by kernel_rfl) (by kernel_rfl) (by kernel_rfl) (fun _ _ _ h => h) (Or.inl ⟨by rfl, fun W hW => by go_simp⟩) (by assumption) ?_
                      simp only [Act.put, List.setIfInBounds_toArray, List.set_cons_zero, List.set_cons_succ]
                      refine wpAnyH_take (i := 10) (oi := ⟨some 144, .move (.tmp 19), _, _, _, _⟩) (v := (.int .i64 (j : Nat))) rfl (by kernel_rfl) (by kernel_rfl) (by kernel_rfl) (fun _ _ _ h => h) (Or.inl ⟨by rfl, fun W hW => by go_simp⟩) (by assumption) ?_
                      simp only [Act.put, List.setIfInBounds_toArray, List.set_cons_zero, List.set_cons_succ]
                      refine wpAnyH_take (i := 11) (oi := ⟨some 145, .indexAddr 26 (.tmp 143) (.tmp 144), _, _, _, _⟩) (v := (.pointer (some ⟨g, 0 + j * 3, none⟩))) rfl (by kernel_rfl) (by kernel_rfl) (by kernel_rfl) (fun _ _ _ h => h) (Or.inl ⟨by rfl, fun W hW => by go_simp⟩) (by assumption) ?_
                      simp only [Act.put, List.setIfInBounds_toArray, List.set_cons_zero, List.set_cons_succ]
                      refine wpAnyH_take (i := 12) (oi := ⟨some 146, .fieldAddr 55 (.tmp 145) 1, _, _, _, _⟩) (v := (.pointer (some ⟨g, 0 + j * 3 + 1, none⟩))) rfl (by kernel_rfl) (by kernel_rfl) (by kernel_rfl) (fun _ _ _ h => h) (Or.inl ⟨by rfl, fun W hW => by go_simp⟩) (by assumption) ?_
                      simp only [Act.put, List.setIfInBounds_toArray, List.set_cons_zero, List.set_cons_succ]
                      refine wpAnyH_take (i := 13) (oi := ⟨some 147, .load 3 (.tmp 146), _, _, _, _⟩) (v := (.int .i64 (t : Nat))) rfl (by kernel_rfl) (by kernel_rfl) (by kernel_rfl) (fun _ _ _ h => h) (Or.inl ⟨by rfl, fun W hW => by have hcell := hW.2; go_simp⟩) (by assumption) ?_
                      simp only [Act.put, List.setIfInBounds_toArray, List.set_cons_zero, List.set_cons_succ]
                      refine wpAnyH_ready (rs := [6]) (by kernel_rfl) (by simp) ?_
                      refine AllReadyH.cons (o := ⟨some 140, .call { callee := .value (.func 33), args := #[(.tmp 139)], argTypes := #[3] }, _, _, _, _⟩) rfl (fun K hK => ?_) AllReadyH.nil
                      go_simp
                      refine (HDF.out _).mono ?_
                      rintro e wt ⟨rfl, rfl⟩
                      refine hK.out _ _ hHeld (fun hHeld => ?_)
                      clear hK K
                      refine wpAnyH_take (i := 7) (oi := ⟨some 141, .binOp .add 9 (.const (.string ⟨#[64, 32]⟩)) (.tmp 140) 9, _, _, _, _⟩) (v := (.string S1)) rfl (by kernel_rfl) (by kernel_rfl) (by kernel_rfl) (fun _ _ _ h => h) (Or.inl ⟨by rfl, fun W hW => by have hq := DC1.out W; go_simp⟩) (by assumption) ?_
                      simp only [Act.put, List.setIfInBounds_toArray, List.set_cons_zero, List.set_cons_succ]
                      refine wpAnyH_take (i := 8) (oi := ⟨some 142, .binOp .add 9 (.tmp 141) (.const (.string ⟨#[32]⟩)) 9, _, _, _, _⟩) (v := (.string S2)) rfl (by kernel_rfl) (by kernel_rfl) (by kernel_rfl) (fun _ _ _ h => h) (Or.inl ⟨by rfl, fun W hW => by have hq := DC2.out W; go_simp⟩) (by assumption) ?_
                      simp only [Act.put, List.setIfInBounds_toArray, List.set_cons_zero, List.set_cons_succ]
                      refine wpAnyH_ready (rs := [14]) (by kernel_rfl) (by simp) ?_
                      refine AllReadyH.cons (o := ⟨some 148, .call { callee := .value (.func 33), args := #[(.tmp 147)], argTypes := #[3] }, _, _, _, _⟩) rfl (fun K hK => ?_) AllReadyH.nil
                      go_simp
                      refine (HDT.out _).mono ?_
                      rintro e wt ⟨rfl, rfl⟩
                      refine hK.out _ _ hHeld (fun hHeld => ?_)
                      clear hK K
                      refine wpAnyH_take (i := 15) (oi := ⟨some 149, .binOp .add 9 (.tmp 142) (.tmp 148) 9, _, _, _, _⟩) (v := (.string S3)) rfl (by kernel_rfl) (by kernel_rfl) (by kernel_rfl) (fun _ _ _ h => h) (Or.inl ⟨by rfl, fun W hW => by have hq := DC3.out W; go_simp⟩) (by assumption) ?_
                      simp only [Act.put, List.setIfInBounds_toArray, List.set_cons_zero, List.set_cons_succ]
                      refine wpAnyH_ready (rs := [16]) (by kernel_rfl) (by simp) ?_
                      refine AllReadyH.cons (o := ⟨some 150, .buildSlice 32 1 #[(0, (.tmp 149))], _, _, _, _⟩) rfl (fun K hK => ?_) AllReadyH.nil
                      refine wreadyH ?_
                      go_simp
                      obtain ⟨we, hwe⟩ : ∃ W, wd.alloc (.cells #[.string S3] 9) = W := ⟨_, rfl⟩
                      have HSe : Hid (AtG lnK we (some ⟨wd.heap.size, 0, none⟩) 1 1 [headF f t]) := Lib.hid (hwe ▸ oneG wd (headF f t) trivial 9 _ HC3.out)
                      have hbe : Below wd.heap.size wd we := hwe ▸ (Below.refl _ _).alloc (Nat.le_refl _) _
                      have HKe := Lib.hid (HKd.out.below hbe)
                      have HBe := Lib.hid (HBd.out.trans (hbe.mono HBd.out.size))
                      clear hbe
                      rw [hwe]
                      clear hwe
                      refine hK.out _ _ (by have h1 := HRow.out _ _ _ HKe.out; exact ⟨h1.1, h1.2.1⟩) (fun hHeld => ?_)
                      clear hK K
                      refine wpAnyH_ready (rs := [17]) (by kernel_rfl) (by simp) ?_
                      refine AllReadyH.cons (o := ⟨some 151, .call { callee := .builtin .append, args := #[(.tmp 134), (.tmp 150)], argTypes := #[32, 32] }, _, _, _, _⟩) rfl (fun K hK => ?_) AllReadyH.nil
                      refine wreadyH (wp_appG_told lnK Tryd.underlying32 infoStH rfl (.tmp 134) (.tmp 150) rfl w2.heap.size (.slice aj nj cj) ACC rfl HKe.out.own_ _ 1 1 [headF f t] rfl HSe.out (by have h1 := HTL.out; have h2 := HK2.out; omega) HBe.out.size (ACC.length + 1) rfl ?_)
                      intro a12 c12 w12 ho hg ht
                      have HK12 := Lib.hid (HKe.out.grow ho hg ht)
                      have HB12 := Lib.hid (HBe.out.grown hg HBe.out.size (fun k h => (HKe.out.own_.lt k h).1))
                      clear ho hg ht
                      refine hK.out _ _ (by have h1 := HRow.out _ _ _ HK12.out; exact ⟨h1.1, h1.2.1⟩) (fun hHeld => ?_)
                      clear hK K
                      refine wpAnyH_take (i := 18) (oi := ⟨some 7, .assign (.tmp 151), _, _, _, _⟩) (v := (.slice a12 (ACC.length + 1) c12)) rfl (by kernel_rfl) (by kernel_rfl) (by kernel_rfl) (fun _ _ _ h => h) (Or.inl ⟨by rfl, fun W hW => by go_simp⟩) (by assumption) ?_
                      simp only [Act.put, List.setIfInBounds_toArray, List.set_cons_zero, List.set_cons_succ]
                      refine wpAnyH_done (by kernel_rfl) ?_ _
                      clear hHeld
                      clear HKd HBd
                      go_wp2
                      go_loopg [7, 20] m (fun gr v7 v20 W => ∃ (i2 : Nat) (ai : Option Addr) (ni ci : Nat), v20 = .int .i64 (i2 : Nat) ∧ v7 = .slice ai ni ci ∧ Hid (gr + i2 = m) ∧ Hid (RkB W w2.heap.size (some ⟨g, 0, none⟩) c5 V (.slice ai ni ci) ((ACC ++ [headF f t]) ++ (ls.take i2).map endF) (.slice a9 (k + 1) c9) (P.take (k + 1))) ∧ Hid (Below w2.heap.size w2 W))
                      case atStart => exact ⟨0, a12, _, c12, rfl, rfl, Lib.hid rfl, Lib.hid (by rw [List.take_zero, List.map_nil, List.append_nil]; exact HK12.out), HB12⟩
                      case round =>
                        clear HK12 HB12
                        obtain ⟨i2, ai, ni, ci, rfl, rfl, HI2, HKB2, HBK2⟩ := hrel
                        obtain ⟨g0, g1, g2, hA11⟩ := HRow.out wr _ _ HKB2.out
                        by_cases hi2 : (i2 : Int) < (m : Int)
                        · have hi2l : i2 < ls.length := by have := HLM.out; omega
                          obtain ⟨b11, o11, rfl⟩ := hA11.some_ (by omega)
                          obtain ⟨x, hx⟩ : ∃ x, ls.getD i2 [] = x := ⟨_, rfl⟩
                          have y0 := ln_cell hA11 i2 (by omega)
                          rw [hx] at y0
                          have hxm : x ∈ ls := by rw [← hx]; exact getD_mem hi2l
                          have hxl := HSY.out.2.2.2.1 x hxm
                          have hxn := HSY.out.2.2.2.2 x hxm
                          have hpos : 0 < x.length := List.length_pos_iff.2 hxn
                          obtain ⟨e, he⟩ : ∃ e, e + 1 = x.length := ⟨x.length - 1, by omega⟩
                          obtain ⟨N1, hN1⟩ : ∃ N1, (strB x).size = N1 := ⟨_, rfl⟩
                          have hsz : x.length = N1 := by rw [← hN1, strB_size]
                          have hks : e < (strB x).size := by rw [hN1]; omega
                          have hby := byte_at hks
                          have W3 : IntKind.i64.wrap ((N1 : Int) - 1) = (e : Int) := by rw [IntWalk.i64_in _ (by omega)]; omega
                          have W4 : IntKind.i64.wrap ((i2 : Int) + 1) = (i2 : Int) + 1 := IntWalk.i64_in _ (by have := HSY.out; omega)
                          have e0 : (0 : Int) ≤ (e : Int) := by omega
                          have e1 : (e : Int) < (N1 : Int) := by omega
                          have e1n : e < N1 := by omega
                          have e2 : (e : Int) ≤ (N1 : Int) := by omega
                          have e2n : e ≤ N1 := by omega
                          have hi20 : (0 : Int) ≤ (i2 : Int) := by omega
                          have HTM : Hid (∀ y, endF x = y → (ls.take (i2 + 1)).map endF = (ls.take i2).map endF ++ [y]) := Lib.hid (fun y hy => by rw [take_snoc ls i2 [] hi2l, hx, List.map_append]; exact congrArg _ (congrArg (fun z => [z]) hy))
                          have HLL : Hid (((ACC ++ [headF f t]) ++ (ls.take i2).map endF).length ≤ 200000000000) := Lib.hid (by
                            have h1 := HTL.out; have h2 := HK2.out; have h3 := HSY.out.2.2.1; have h4 := HLM.out
                            rw [List.length_append, List.length_append, List.length_map, List.length_take, List.length_singleton]; omega)
                          have HXL : Hid (x.length ≤ 1001) := Lib.hid hxl
                          obtain ⟨M9, hM9⟩ : ∃ M, ((ACC ++ [headF f t]) ++ (ls.take i2).map endF).length + 1 = M := ⟨_, rfl⟩
                          have HM9 := Lib.hid hM9
                          clear hM9
                          have HIM : Hid (i2 < m) := Lib.hid (by omega)
                          by_cases h10 : x.getD e 0 = 10
                          · have hq : ((((strB x)[e]'hks).toNat : Int) == 10) = true := by rw [hby, h10]; rfl
                            have HEY := Lib.hid (HTM.out (x.take e) (by rw [end_yes hxn (by rw [show x.length - 1 = e from by omega]; exact h10), show x.length - 1 = e from by omega]))
                            have hex : (strB x).extract 0 e = strB (x.take e) := by rw [ext_strB, List.drop_zero]
                            clear hby h10 hx hxm hxl hxn hpos he hi2l hA11
                            go_wp2_with (at_builtin; go_must (refine appG_told lnK Tryd.underlying32 infoStH rfl rfl _ _ rfl w2.heap.size _ _ rfl (HKB2.out.own_.alloc _) (some ⟨wr.heap.size, 0, none⟩) 1 1 [x.take e] rfl (oneG wr (x.take e) trivial 9 _ rfl) (by have h1 := HLL.out; omega) (by have := HBK2.out.size; simp; omega) M9 HM9.out.symm ?_); intro a14 c14 w14 ho hg ht; have HK14 := Lib.hid ((HKB2.out.below ((Below.refl _ _).alloc (Nat.le_refl _) _)).grow ho hg ht); have HB14 := Lib.hid ((HBK2.out.alloc HBK2.out.size _).grown hg (by have := HBK2.out.size; simp; omega) (fun k h => (HKB2.out.own_.lt k h).1)); clear ho hg ht)
                            go_roundg (gk - 1)
                            case measure => have h1 := HI2.out; have h2 := HIM.out; omega
                            case rel => exact ⟨i2 + 1, a14, M9, c14, by go_num, rfl, Lib.hid (by have h1 := HI2.out; have h2 := HIM.out; omega), Lib.hid (by rw [HEY.out, ← List.append_assoc]; exact HK14.out), HB14⟩
                          · have hq : ((((strB x)[e]'hks).toNat : Int) == 10) = false := by rw [hby]; exact ne_ten h10
                            have HEY := Lib.hid (HTM.out (x ++ [92]) (end_no hxn (by rw [show x.length - 1 = e from by omega]; exact h10)))
                            obtain ⟨X9, hX9⟩ : ∃ X, strB (x ++ [92]) = X := ⟨_, rfl⟩
                            have hc9 : ∀ W, (Op.stringOp .add (strB x) ⟨#[92]⟩).run Tryd.prog W = .ok (.string X9) W := fun W => by rw [← hX9]; exact run_catL x [92] (by simp only [List.length_cons, List.length_nil]; omega) W
                            have HC9 : Hid (#[Value.string X9] = (lnK.cells (x ++ [92])).toArray) := Lib.hid (by rw [← hX9]; rfl)
                            clear hby h10 hx hxm hxl hxn hpos he hi2l hA11 hX9
                            go_wp2_with (at_builtin; go_must (refine appG_told lnK Tryd.underlying32 infoStH rfl rfl _ _ rfl w2.heap.size _ _ rfl (HKB2.out.own_.alloc _) (some ⟨wr.heap.size, 0, none⟩) 1 1 [x ++ [92]] rfl (oneG wr (x ++ [92]) trivial 9 _ HC9.out) (by have h1 := HLL.out; omega) (by have := HBK2.out.size; simp; omega) M9 HM9.out.symm ?_); intro a14 c14 w14 ho hg ht; have HK14 := Lib.hid ((HKB2.out.below ((Below.refl _ _).alloc (Nat.le_refl _) _)).grow ho hg ht); have HB14 := Lib.hid ((HBK2.out.alloc HBK2.out.size _).grown hg (by have := HBK2.out.size; simp; omega) (fun k h => (HKB2.out.own_.lt k h).1)); clear ho hg ht)
                            go_roundg (gk - 1)
                            case measure => have h1 := HI2.out; have h2 := HIM.out; omega
                            case rel => exact ⟨i2 + 1, a14, M9, c14, by go_num, rfl, Lib.hid (by have h1 := HI2.out; have h2 := HIM.out; omega), Lib.hid (by rw [HEY.out, ← List.append_assoc]; exact HK14.out), HB14⟩
                        · have him : i2 = m := by have := HI2.out; omega
                          have HKE := HKB2
                          rw [him, List.take_of_length_le (by rw [HLM.out]; exact Nat.le_refl _), ← HAC.out] at HKE
                          clear him hA11
                          go_wp2
                          go_roundg (M - (j + 1))
                          case measure => have h1 := HJ.out; have h2 := HJM.out; omega
                          case rel => exact ⟨j + 1, ai, ni, ci, by go_num, rfl, Lib.hid (by have h1 := HJ.out; have h2 := HJM.out; omega), Lib.hid (by rw [HTS.out]; have h1 := HKE.out; simp only [List.append_assoc, List.cons_append, List.nil_append] at h1 ⊢; exact h1), HBK2⟩
                    · have hjM : j = M := by have := HJ.out; omega
                      have hZk : Z.take j = Z := List.take_of_length_le (by rw [← HV.out, List.length_map, HM.out, hjM]; exact Nat.le_refl _)
                      have HE := Lib.hid HKB.out.two
                      rw [hZk] at HE
                      have HEL : Hid ((A ++ (headL p true false :: toldF Z)).length ≤ (k + 1) * 67117057) := Lib.hid (by
                        have h1 := HAL.out
                        have h2 := gd_told HSM.out
                        rw [List.length_append, List.length_cons, Nat.succ_mul]; omega)
                      clear hjM hZk
                      go_wp2
                      go_roundg (P.length + 1 - (k + 1))
                      case measure => have h1 := HI.out; have h2 := HKL.out; omega
                      case rel => exact ⟨k + 1, _, aj, nj, cj, a9, k + 1, c9, rfl, rfl, Lib.hid (by have h1 := HI.out; have h2 := HKL.out; omega), Lib.hid HKL.out, HRR, HE, Lib.hid rfl, HEL, HBK⟩
              · have hr1 : ((r : Int) != 0) = true := by rw [bne_iff_ne]; omega
                have hr2 : ¬ ((r : Int) = 0) := by omega
                have HRR : Hid (([], r) = R) := Lib.hid (by have h1 := HGS.out; rw [HFE.out, if_neg hr] at h1; simpa [hr] using h1)
                clear HGS HFE
                as_aux_lemma =>
                  go_wp2_with (first
                    | ((with_reducible show wpList _ _ _ (⟨some 79, _, _, _, _, _⟩ :: _) _ _); go_must (refine appG_told lnK Tryd.underlying32 infoStH rfl rfl _ _ rfl w2.heap.size _ (P.take k) rfl (HTW.out.alloc _) (some ⟨wr.heap.size, 0, none⟩) 1 1 [p] rfl (oneG wr p trivial 9 _ rfl) (by have h1 := HK2.out; have h2 := HKG.out; omega) (by have := HBW2.out.size; simp; omega) (k + 1) HKG.out ?_); intro a9 c9 w6 ho hg ht; have HH6 : Hid (Holds w6 w2.heap.size [hG lnK 9 (.slice a7 n7 c7) A, hG lnK 9 (.slice a9 (k + 1) c9) (P.take (k + 1))]) := Lib.hid (by have h1 := ((HHW.out.below ((Below.refl _ _).alloc (Nat.le_refl _) _)).perm (List.Perm.swap _ _ _)).put (h' := hG lnK 9 (.slice a9 (k + 1) c9) (P.take k ++ [p])) hg ho.1 ht; rw [← HTK.out] at h1; exact h1.perm (List.Perm.swap _ _ _)); have HB6 := Lib.hid ((HBW2.out.alloc HBW2.out.size _).grown hg (by have := HBW2.out.size; simp; omega) (fun k h => (HTW.out.lt k h).1)); clear ho hg ht x0)
                    | (go_at_call 32; (with_reducible refine (HFI1.out w6 HB6.out).mono ?_); rintro e w7 ⟨rfl, hb⟩; obtain ⟨wA, hwA⟩ : ∃ W, w7.alloc (.cells #[.string (strB p1), .string (strB b1)] FileT) = W := ⟨_, rfl⟩; have eA : wA.heap[w7.heap.size]? = some (.cells #[.string (strB p1), .string (strB b1)] FileT (0, 0)) := hwA ▸ heap_alloc_new w7 _; have HEA := Lib.hid eA; have HSA : Hid (w7.heap.size < wA.heap.size) := Lib.hid (by rw [← hwA]; simp); have hb7 : Below w6.heap.size w6 wA := hwA ▸ hb.alloc hb.size _; have HHA := Lib.hid (HH6.out.below hb7); have HBA := Lib.hid (HB6.out.trans (hb7.mono HB6.out.size)); clear hb hb7 eA)
                    | (go_at_call 32; (with_reducible refine (HFI2.out wA HBA.out).mono ?_); rintro e w8 ⟨rfl, hb⟩; obtain ⟨wB, hwB⟩ : ∃ W, w8.alloc (.cells #[.string (strB p2), .string (strB b2)] FileT) = W := ⟨_, rfl⟩; have eB : wB.heap[w8.heap.size]? = some (.cells #[.string (strB p2), .string (strB b2)] FileT (0, 0)) := hwB ▸ heap_alloc_new w8 _; have hb8 : Below wA.heap.size wA wB := hwB ▸ hb.alloc hb.size _; have eA2 : wB.heap[w7.heap.size]? = some (.cells #[.string (strB p1), .string (strB b1)] FileT (0, 0)) := (hb8.block _ HSA.out).trans HEA.out; have m1 : wB.cell? ⟨w7.heap.size, 1, none⟩ = some (.string (strB b1)) := (cell_of_row _ _ _ _ _ _ eA2).trans rfl; have m2 : wB.cell? ⟨w8.heap.size, 1, none⟩ = some (.string (strB b2)) := (cell_of_row _ _ _ _ _ _ eB).trans rfl; have HHB := Lib.hid (HHA.out.below hb8); have HBB2 := Lib.hid (HBA.out.trans (hb8.mono HBA.out.size)); clear hb hb8 eA2 eB)
                    | (go_at_call 9; (with_reducible refine (HHK.out wB).mono ?_); rintro e w9 ⟨a5, c5, base, V, rfl, hv, hh, hbs, hb⟩; have HB9 := Lib.hid (HBB2.out.trans (hb.mono HBB2.out.size)); clear hv hh hbs hb m1 m2))
                  go_ret2
                  exact ⟨none, 0, 0, by rw [← HRR.out]; rfl, by rw [← HRR.out]; exact AtG.nil, HB2.out.trans (HB9.out.mono HB2.out.size)⟩
            | true =>
              by_cases hbb : b1 = b2
              · subst hbb
                have HRR : Hid (goL X Y A (P.drop (k + 1)) = R) := Lib.hid (by have h1 := HGS.out; rw [file_eq HQF.out.2.2.1 HQF.out.2.2.2 HQF.out.1 HQF.out.2.1] at h1; simpa using h1)
                have HEL : Hid (A.length ≤ (k + 1) * 67117057) := Lib.hid (by have h1 := HAL.out; exact Nat.le_trans h1 (Nat.mul_le_mul_right _ (Nat.le_succ k)))
                clear HGS HFN HHK HSM HNE
                as_aux_lemma =>
                  go_wp2_with (first
                    | ((with_reducible show wpList _ _ _ (⟨some 79, _, _, _, _, _⟩ :: _) _ _); go_must (refine appG_told lnK Tryd.underlying32 infoStH rfl rfl _ _ rfl w2.heap.size _ (P.take k) rfl (HTW.out.alloc _) (some ⟨wr.heap.size, 0, none⟩) 1 1 [p] rfl (oneG wr p trivial 9 _ rfl) (by have h1 := HK2.out; have h2 := HKG.out; omega) (by have := HBW2.out.size; simp; omega) (k + 1) HKG.out ?_); intro a9 c9 w6 ho hg ht; have HH6 : Hid (Holds w6 w2.heap.size [hG lnK 9 (.slice a7 n7 c7) A, hG lnK 9 (.slice a9 (k + 1) c9) (P.take (k + 1))]) := Lib.hid (by have h1 := ((HHW.out.below ((Below.refl _ _).alloc (Nat.le_refl _) _)).perm (List.Perm.swap _ _ _)).put (h' := hG lnK 9 (.slice a9 (k + 1) c9) (P.take k ++ [p])) hg ho.1 ht; rw [← HTK.out] at h1; exact h1.perm (List.Perm.swap _ _ _)); have HB6 := Lib.hid ((HBW2.out.alloc HBW2.out.size _).grown hg (by have := HBW2.out.size; simp; omega) (fun k h => (HTW.out.lt k h).1)); clear ho hg ht x0)
                    | (go_at_call 32; (with_reducible refine (HFI1.out w6 HB6.out).mono ?_); rintro e w7 ⟨rfl, hb⟩; obtain ⟨wA, hwA⟩ : ∃ W, w7.alloc (.cells #[.string (strB p1), .string (strB b1)] FileT) = W := ⟨_, rfl⟩; have eA : wA.heap[w7.heap.size]? = some (.cells #[.string (strB p1), .string (strB b1)] FileT (0, 0)) := hwA ▸ heap_alloc_new w7 _; have HEA := Lib.hid eA; have HSA : Hid (w7.heap.size < wA.heap.size) := Lib.hid (by rw [← hwA]; simp); have hb7 : Below w6.heap.size w6 wA := hwA ▸ hb.alloc hb.size _; have HHA := Lib.hid (HH6.out.below hb7); have HBA := Lib.hid (HB6.out.trans (hb7.mono HB6.out.size)); clear hb hb7 eA)
                    | (go_at_call 32; (with_reducible refine (HFI2.out wA HBA.out).mono ?_); rintro e w8 ⟨rfl, hb⟩; obtain ⟨wB, hwB⟩ : ∃ W, w8.alloc (.cells #[.string (strB p2), .string (strB b1)] FileT) = W := ⟨_, rfl⟩; have eB : wB.heap[w8.heap.size]? = some (.cells #[.string (strB p2), .string (strB b1)] FileT (0, 0)) := hwB ▸ heap_alloc_new w8 _; have hb8 : Below wA.heap.size wA wB := hwB ▸ hb.alloc hb.size _; have eA2 : wB.heap[w7.heap.size]? = some (.cells #[.string (strB p1), .string (strB b1)] FileT (0, 0)) := (hb8.block _ HSA.out).trans HEA.out; have m1 : wB.cell? ⟨w7.heap.size, 1, none⟩ = some (.string (strB b1)) := (cell_of_row _ _ _ _ _ _ eA2).trans rfl; have m2 : wB.cell? ⟨w8.heap.size, 1, none⟩ = some (.string (strB b1)) := (cell_of_row _ _ _ _ _ _ eB).trans rfl; have HHB := Lib.hid (HHA.out.below hb8); have HBB2 := Lib.hid (HBA.out.trans (hb8.mono HBA.out.size)); clear hb hb8 eA2 eB))
                  go_roundg (P.length + 1 - (k + 1))
                  case measure => have h1 := HI.out; have h2 := HKL.out; omega
                  case rel => exact ⟨k + 1, A, a7, n7, c7, a9, k + 1, c9, rfl, rfl, Lib.hid (by have h1 := HI.out; have h2 := HKL.out; omega), Lib.hid HKL.out, HRR, HHB, Lib.hid rfl, HEL, HBB2⟩
              · have hlt : (strB b1).toList == (strB b2).toList → b1 = b2 := fun h => by rw [Lib.toList_data, Lib.toList_data, strB_list, strB_list] at h; exact beq_iff_eq.1 h
                have hbn : (b1 == b2) = false := by rw [beq_eq_false_iff_ne]; exact hbb
                have HFE := Lib.hid (HFN.out (by rw [hbn]; rfl))
                have HT3 : Hid (strB (headL p true true) = T1) := Lib.hid (by rw [← HT1.out]; show strB (([102, 105, 108, 101, 32] ++ p) ++ []) = _; rw [List.append_nil])
                clear HFN HT1
                have HT1 := HT3
                have hbt : ((strB b1).toList == (strB b2).toList) = false := by cases hx : ((strB b1).toList == (strB b2).toList) with | false => rfl | true => exact absurd (hlt hx) hbb
                clear hlt hbb hbn
                by_cases hr : r = 0
                · subst hr
                  have HRR : Hid (goL X Y (A ++ (headL p true true :: toldF Z)) (P.drop (k + 1)) = R) := Lib.hid (by have h1 := HGS.out; rw [HFE.out, if_pos rfl] at h1; simpa using h1)
                  have HCS : Hid (#[Value.string T1] = (lnK.cells (headL p true true)).toArray) := Lib.hid (by rw [← HT1.out]; rfl)
                  clear HGS HFE
                  as_aux_lemma =>
                    go_wp2_with (first
                      | ((with_reducible show wpList _ _ _ (⟨some 79, _, _, _, _, _⟩ :: _) _ _); go_must (refine appG_told lnK Tryd.underlying32 infoStH rfl rfl _ _ rfl w2.heap.size _ (P.take k) rfl (HTW.out.alloc _) (some ⟨wr.heap.size, 0, none⟩) 1 1 [p] rfl (oneG wr p trivial 9 _ rfl) (by have h1 := HK2.out; have h2 := HKG.out; omega) (by have := HBW2.out.size; simp; omega) (k + 1) HKG.out ?_); intro a9 c9 w6 ho hg ht; have HH6 : Hid (Holds w6 w2.heap.size [hG lnK 9 (.slice a7 n7 c7) A, hG lnK 9 (.slice a9 (k + 1) c9) (P.take (k + 1))]) := Lib.hid (by have h1 := ((HHW.out.below ((Below.refl _ _).alloc (Nat.le_refl _) _)).perm (List.Perm.swap _ _ _)).put (h' := hG lnK 9 (.slice a9 (k + 1) c9) (P.take k ++ [p])) hg ho.1 ht; rw [← HTK.out] at h1; exact h1.perm (List.Perm.swap _ _ _)); have HB6 := Lib.hid ((HBW2.out.alloc HBW2.out.size _).grown hg (by have := HBW2.out.size; simp; omega) (fun k h => (HTW.out.lt k h).1)); clear ho hg ht x0)
                      | (go_at_call 32; (with_reducible refine (HFI1.out w6 HB6.out).mono ?_); rintro e w7 ⟨rfl, hb⟩; obtain ⟨wA, hwA⟩ : ∃ W, w7.alloc (.cells #[.string (strB p1), .string (strB b1)] FileT) = W := ⟨_, rfl⟩; have eA : wA.heap[w7.heap.size]? = some (.cells #[.string (strB p1), .string (strB b1)] FileT (0, 0)) := hwA ▸ heap_alloc_new w7 _; have HEA := Lib.hid eA; have HSA : Hid (w7.heap.size < wA.heap.size) := Lib.hid (by rw [← hwA]; simp); have hb7 : Below w6.heap.size w6 wA := hwA ▸ hb.alloc hb.size _; have HHA := Lib.hid (HH6.out.below hb7); have HBA := Lib.hid (HB6.out.trans (hb7.mono HB6.out.size)); clear hb hb7 eA)
                      | (go_at_call 32; (with_reducible refine (HFI2.out wA HBA.out).mono ?_); rintro e w8 ⟨rfl, hb⟩; obtain ⟨wB, hwB⟩ : ∃ W, w8.alloc (.cells #[.string (strB p2), .string (strB b2)] FileT) = W := ⟨_, rfl⟩; have eB : wB.heap[w8.heap.size]? = some (.cells #[.string (strB p2), .string (strB b2)] FileT (0, 0)) := hwB ▸ heap_alloc_new w8 _; have hb8 : Below wA.heap.size wA wB := hwB ▸ hb.alloc hb.size _; have eA2 : wB.heap[w7.heap.size]? = some (.cells #[.string (strB p1), .string (strB b1)] FileT (0, 0)) := (hb8.block _ HSA.out).trans HEA.out; have m1 : wB.cell? ⟨w7.heap.size, 1, none⟩ = some (.string (strB b1)) := (cell_of_row _ _ _ _ _ _ eA2).trans rfl; have m2 : wB.cell? ⟨w8.heap.size, 1, none⟩ = some (.string (strB b2)) := (cell_of_row _ _ _ _ _ _ eB).trans rfl; have HHB := Lib.hid (HHA.out.below hb8); have HBB2 := Lib.hid (HBA.out.trans (hb8.mono HBA.out.size)); clear hb hb8 eA2 eB)
                      | (go_at_call 9; (with_reducible refine (HHK.out wB).mono ?_); rintro e w9 ⟨a5, c5, base, V, rfl, hv, hh, hbs, hb⟩; have HK9 := Lib.hid (RkB.of hh (HHB.out.below hb) (Nat.le_trans HBB2.out.size hbs) (fun j hj => by rcases hj with hj | hj; exact Nat.lt_of_lt_of_le (HHB.out.lt (h := hG lnK 9 (.slice a7 n7 c7) A) (List.mem_cons_self ..) j hj).2 hbs; exact Nat.lt_of_lt_of_le (HHB.out.lt (h := hG lnK 9 (.slice a9 (k + 1) c9) (P.take (k + 1))) (List.mem_cons_of_mem _ (List.mem_cons_self ..)) j hj).2 hbs)); have HB9 := Lib.hid (HBB2.out.trans (hb.mono HBB2.out.size)); have HV := Lib.hid (show V.map (·.1) = Z from hv); obtain ⟨M, hM⟩ : ∃ M, V.length = M := ⟨_, rfl⟩; rw [hM]; have HM := Lib.hid hM; clear hv hh hbs hb hM m1 m2)
                      | ((with_reducible show wpList _ _ _ (⟨some 127, _, _, _, _, _⟩ :: _) _ _); go_must (refine appG_told lnK Tryd.underlying32 infoStH rfl rfl _ _ rfl w2.heap.size _ A rfl (HK9.out.own_.alloc _) (some ⟨w9.heap.size, 0, none⟩) 1 1 [headL p true true] rfl (oneG w9 (headL p true true) trivial 9 _ HCS.out) (by have h1 := HAL.out; have h2 := HK2.out; omega) (by have := HB9.out.size; simp; omega) (A.length + 1) rfl ?_); intro a10 c10 w10 ho hg ht; have HK10 := Lib.hid ((HK9.out.below ((Below.refl _ _).alloc (Nat.le_refl _) _)).grow ho hg ht); have HB10 := Lib.hid ((HB9.out.alloc HB9.out.size _).grown hg (by have := HB9.out.size; simp; omega) (fun k h => (HK9.out.own_.lt k h).1)); clear ho hg ht))
                    clear HK9 HB9
                    go_loopg [7, 19] M (fun gq v7 v19 W => ∃ (j : Nat) (aj : Option Addr) (nj cj : Nat), v19 = .int .i64 (j : Nat) ∧ v7 = .slice aj nj cj ∧ Hid (gq + j = M) ∧ Hid (RkB W w2.heap.size a5 c5 V (.slice aj nj cj) (A ++ (headL p true true :: toldF (Z.take j))) (.slice a9 (k + 1) c9) (P.take (k + 1))) ∧ Hid (Below w2.heap.size w2 W))
                    case atStart => exact ⟨0, a10, _, c10, rfl, rfl, Lib.hid rfl, HK10, HB10⟩
                    case round =>
                      clear HK10 HB10
                      obtain ⟨j, aj, nj, cj, rfl, rfl, HJ, HKB, HBK⟩ := hrel
                      by_cases hj : (j : Int) < (M : Int)
                      · have hjV : j < V.length := by have := HM.out; omega
                        obtain ⟨g, a11, c11, rfl, e2, g0, g1, g2, hA11⟩ := HKB.out.at_ hjV
                        have hjZ : j < Z.length := by rw [← HV.out, List.length_map]; exact hjV
                        have hz1 : (gd V j).1 = Z.getD j default := by
                          rw [← HV.out]; unfold gd; simp [List.getD_eq_getElem?_getD, hjV]
                        obtain ⟨⟨f, t, ls⟩, hy⟩ : ∃ y, Z.getD j default = y := ⟨_, rfl⟩
                        have hsm := HSM.out.2 _ (getD_mem (d := default) hjZ)
                        have hne := HNE.out _ (getD_mem (d := default) hjZ)
                        have HTS : Hid (toldF (Z.take (j + 1)) = toldF (Z.take j) ++ tellF f t ls) := Lib.hid (by rw [told_snoc Z j hjZ, hy])
                        have HGY : Hid ((gd V j).1 = ⟨f, t, ls⟩) := Lib.hid (hz1.trans hy)
                        rw [hz1, hy] at g0 g1 g2 hA11 e2
                        rw [hy] at hsm hne
                        obtain ⟨m, hm⟩ : ∃ m, ls.length = m := ⟨_, rfl⟩
                        simp only [hm] at e2 g2 hA11
                        have HE2 := Lib.hid e2
                        have HLM := Lib.hid hm
                        have HSY : Hid (f ≤ 8192 ∧ t ≤ 8192 ∧ m ≤ 8192 ∧ (∀ s ∈ ls, s.length ≤ 1001) ∧ (∀ s ∈ ls, s ≠ [])) := Lib.hid ⟨hsm.1, hsm.2.1, by have := hsm.2.2.1; simp only at this; omega, hsm.2.2.2, hne⟩
                        have HTL : Hid ((A ++ (headL p true true :: toldF (Z.take j))).length ≤ k * 67117057 + 67117057) := Lib.hid (by
                          have h1 := HAL.out
                          have h2 := gd_told (B := 1000) (V := Z.take j) ⟨by rw [List.length_take]; have := HSM.out.1; omega, fun x hx => HSM.out.2 x (List.mem_of_mem_take hx)⟩
                          rw [List.length_append, List.length_cons]; omega)
                        obtain ⟨ACC, hACC⟩ : ∃ ACC, A ++ (headL p true true :: toldF (Z.take j)) = ACC := ⟨_, rfl⟩
                        rw [hACC] at HKB HTL
                        have HAC := Lib.hid hACC
                        have HJM : Hid (j < M) := Lib.hid (by omega)
                        have hj0 : (0 : Int) ≤ (j : Int) := by omega
                        have W2 : IntKind.i64.wrap ((j : Int) + 1) = (j : Int) + 1 := IntWalk.i64_in _ (by have h1 := HSM.out.1; have h2 : Z.length ≤ 8192 := h1; omega)
                        obtain ⟨D1, hD1⟩ : ∃ D, strB (decDigits f) = D := ⟨_, rfl⟩
                        obtain ⟨D2, hD2⟩ : ∃ D, strB (decDigits t) = D := ⟨_, rfl⟩
                        obtain ⟨S1, hS1⟩ : ∃ S, strB ([64, 32] ++ decDigits f) = S := ⟨_, rfl⟩
                        obtain ⟨S2, hS2⟩ : ∃ S, strB (([64, 32] ++ decDigits f) ++ [32]) = S := ⟨_, rfl⟩
                        obtain ⟨S3, hS3⟩ : ∃ S, strB (headF f t) = S := ⟨_, rfl⟩
                        have hl1 := dec_len f (by have := HSY.out.1; omega)
                        have hl2 := dec_len t (by have := HSY.out.2.1; omega)
                        have DC1 : Hid (∀ W, (Op.stringOp .add ⟨#[64, 32]⟩ D1).run Tryd.prog W = .ok (.string S1) W) := Lib.hid (fun W => by rw [← hD1, ← hS1]; exact run_catL [64, 32] (decDigits f) (by simp only [List.length_cons, List.length_nil]; omega) W)
                        have DC2 : Hid (∀ W, (Op.stringOp .add S1 ⟨#[32]⟩).run Tryd.prog W = .ok (.string S2) W) := Lib.hid (fun W => by rw [← hS1, ← hS2]; exact run_catL ([64, 32] ++ decDigits f) [32] (by simp only [List.length_append, List.length_cons, List.length_nil]; omega) W)
                        have DC3 : Hid (∀ W, (Op.stringOp .add S2 D2).run Tryd.prog W = .ok (.string S3) W) := Lib.hid (fun W => by rw [← hS2, ← hD2, ← hS3, headF_eq]; exact run_catL (([64, 32] ++ decDigits f) ++ [32]) (decDigits t) (by simp only [List.length_append, List.length_cons, List.length_nil]; omega) W)
                        have HDF : Hid (∀ W, Calls Tryd.prog 33 #[.int .i64 (f : Nat)] W fun e w' => e = .returned (.string D1) ∧ W = w') := Lib.hid (fun W => by rw [← hD1]; exact digits_any f W (by have := HSY.out.1; omega))
                        have HDT : Hid (∀ W, Calls Tryd.prog 33 #[.int .i64 (t : Nat)] W fun e w' => e = .returned (.string D2) ∧ W = w') := Lib.hid (fun W => by rw [← hD2]; exact digits_any t W (by have := HSY.out.2.1; omega))
                        have HC3 : Hid (#[Value.string S3] = (lnK.cells (headF f t)).toArray) := Lib.hid (by rw [← hS3]; rfl)
                        have HKd := Lib.hid (HKB.out.below (Below.refl _ _).drew)
                        have HBd := Lib.hid HBK.out.drew
                        have HRow : Hid (∀ W v' acc', RkB W w2.heap.size (some ⟨g, 0, none⟩) c5 V v' acc' (.slice a9 (k + 1) c9) (P.take (k + 1)) → W.cell? ⟨g, j * 3, none⟩ = some (.int .i64 (f : Nat)) ∧ W.cell? ⟨g, j * 3 + 1, none⟩ = some (.int .i64 (t : Nat)) ∧ W.cell? ⟨g, j * 3 + 2, none⟩ = some (.slice a11 m c11) ∧ AtG lnK W a11 m c11 ls) := Lib.hid (fun W v' acc' hW => hW.line_at hjV HGY.out e2)
                        clear g0 g1 g2 hA11 e2 hjV hjZ hz1 hsm hne hy hm hACC hD1 hD2 hS1 hS2 hS3 hl1 hl2
                        go_wp2
                        refine wp_region_held_drew (S := fun W => W.cell? ⟨g, j * 3, none⟩ = some (.int .i64 (f : Nat)) ∧ W.cell? ⟨g, j * 3 + 1, none⟩ = some (.int .i64 (t : Nat))) (by kernel_rfl) (by have h1 := HRow.out _ _ _ HKd.out; exact ⟨h1.1, h1.2.1⟩) (fun hHeld => ?_)
                        generalize wr.drew = wd at HKd HBd hHeld ⊢
                        refine wpAnyH_take (i := 0) (oi := ⟨some 134, .move (.tmp 7), _, _, _, _⟩) (v := (.slice aj nj cj)) rfl (by kernel_rfl) (by kernel_rfl) (by kernel_rfl) (fun _ _ _ h => h) (Or.inl ⟨by rfl, fun W hW => by go_simp⟩) (by assumption) ?_
                        simp only [Act.put, List.setIfInBounds_toArray, List.set_cons_zero, List.set_cons_succ]
                        refine wpAnyH_take (i := 1) (oi := ⟨some 135, .move (.tmp 16), _, _, _, _⟩) (v := (.slice (some ⟨g, 0, none⟩) M c5)) rfl (by kernel_rfl) (by kernel_rfl) (by kernel_rfl) (fun _ _ _ h => h) (Or.inl ⟨by rfl, fun W hW => by go_simp⟩) (by assumption) ?_
                        simp only [Act.put, List.setIfInBounds_toArray, List.set_cons_zero, List.set_cons_succ]
                        refine wpAnyH_take (i := 2) (oi := ⟨some 136, .move (.tmp 19), _, _, _, _⟩) (v := (.int .i64 (j : Nat))) rfl (by kernel_rfl) (by kernel_rfl) (by kernel_rfl) (fun _ _ _ h => h) (Or.inl ⟨by rfl, fun W hW => by go_simp⟩) (by assumption) ?_
                        simp only [Act.put, List.setIfInBounds_toArray, List.set_cons_zero, List.set_cons_succ]
                        refine wpAnyH_take (i := 3) (oi := ⟨some 137, .indexAddr 26 (.tmp 135) (.tmp 136), _, _, _, _⟩) (v := (.pointer (some ⟨g, 0 + j * 3, none⟩))) rfl (by kernel_rfl) (by kernel_rfl) (by kernel_rfl) (fun _ _ _ h => h) (Or.inl ⟨by rfl, fun W hW => by go_simp⟩) (by assumption) ?_
                        simp only [Act.put, List.setIfInBounds_toArray, List.set_cons_zero, List.set_cons_succ]
                        refine wpAnyH_take (i := 4) (oi := ⟨some 138, .fieldAddr 55 (.tmp 137) 0, _, _, _, _⟩) (v := (.pointer (some ⟨g, 0 + j * 3, none⟩))) rfl (by kernel_rfl) (by kernel_rfl) (by kernel_rfl) (fun _ _ _ h => h) (Or.inl ⟨by rfl, fun W hW => by go_simp⟩) (by assumption) ?_
                        simp only [Act.put, List.setIfInBounds_toArray, List.set_cons_zero, List.set_cons_succ]
                        refine wpAnyH_take (i := 5) (oi := ⟨some 139, .load 3 (.tmp 138), _, _, _, _⟩) (v := (.int .i64 (f : Nat))) rfl (by kernel_rfl) (by kernel_rfl) (by kernel_rfl) (fun _ _ _ h => h) (Or.inl ⟨by rfl, fun W hW => by have hcell := hW.1; go_simp⟩) (by assumption) ?_
                        simp only [Act.put, List.setIfInBounds_toArray, List.set_cons_zero, List.set_cons_succ]
                        refine wpAnyH_take (i := 9) (oi := ⟨some 143, .move (.tmp 16), _, _, _, _⟩) (v := (.slice (some ⟨g, 0, none⟩) M c5)) rfl (by kernel_rfl) (by kernel_rfl) (by kernel_rfl) (fun _ _ _ h => h) (Or.inl ⟨by rfl, fun W hW => by go_simp⟩) (by assumption) ?_
                        simp only [Act.put, List.setIfInBounds_toArray, List.set_cons_zero, List.set_cons_succ]
                        refine wpAnyH_take (i := 10) (oi := ⟨some 144, .move (.tmp 19), _, _, _, _⟩) (v := (.int .i64 (j : Nat))) rfl (by kernel_rfl) (by kernel_rfl) (by kernel_rfl) (fun _ _ _ h => h) (Or.inl ⟨by rfl, fun W hW => by go_simp⟩) (by assumption) ?_
                        simp only [Act.put, List.setIfInBounds_toArray, List.set_cons_zero, List.set_cons_succ]
                        refine wpAnyH_take (i := 11) (oi := ⟨some 145, .indexAddr 26 (.tmp 143) (.tmp 144), _, _, _, _⟩) (v := (.pointer (some ⟨g, 0 + j * 3, none⟩))) rfl (by kernel_rfl) (by kernel_rfl) (by kernel_rfl) (fun _ _ _ h => h) (Or.inl ⟨by rfl, fun W hW => by go_simp⟩) (by assumption) ?_
                        simp only [Act.put, List.setIfInBounds_toArray, List.set_cons_zero, List.set_cons_succ]
                        refine wpAnyH_take (i := 12) (oi := ⟨some 146, .fieldAddr 55 (.tmp 145) 1, _, _, _, _⟩) (v := (.pointer (some ⟨g, 0 + j * 3 + 1, none⟩))) rfl (by kernel_rfl) (by kernel_rfl) (by kernel_rfl) (fun _ _ _ h => h) (Or.inl ⟨by rfl, fun W hW => by go_simp⟩) (by assumption) ?_
                        simp only [Act.put, List.setIfInBounds_toArray, List.set_cons_zero, List.set_cons_succ]
                        refine wpAnyH_take (i := 13) (oi := ⟨some 147, .load 3 (.tmp 146), _, _, _, _⟩) (v := (.int .i64 (t : Nat))) rfl (by kernel_rfl) (by kernel_rfl) (by kernel_rfl) (fun _ _ _ h => h) (Or.inl ⟨by rfl, fun W hW => by have hcell := hW.2; go_simp⟩) (by assumption) ?_
                        simp only [Act.put, List.setIfInBounds_toArray, List.set_cons_zero, List.set_cons_succ]
                        refine wpAnyH_ready (rs := [6]) (by kernel_rfl) (by simp) ?_
                        refine AllReadyH.cons (o := ⟨some 140, .call { callee := .value (.func 33), args := #[(.tmp 139)], argTypes := #[3] }, _, _, _, _⟩) rfl (fun K hK => ?_) AllReadyH.nil
                        go_simp
                        refine (HDF.out _).mono ?_
                        rintro e wt ⟨rfl, rfl⟩
                        refine hK.out _ _ hHeld (fun hHeld => ?_)
                        clear hK K
                        refine wpAnyH_take (i := 7) (oi := ⟨some 141, .binOp .add 9 (.const (.string ⟨#[64, 32]⟩)) (.tmp 140) 9, _, _, _, _⟩) (v := (.string S1)) rfl (by kernel_rfl) (by kernel_rfl) (by kernel_rfl) (fun _ _ _ h => h) (Or.inl ⟨by rfl, fun W hW => by have hq := DC1.out W; go_simp⟩) (by assumption) ?_
                        simp only [Act.put, List.setIfInBounds_toArray, List.set_cons_zero, List.set_cons_succ]
                        refine wpAnyH_take (i := 8) (oi := ⟨some 142, .binOp .add 9 (.tmp 141) (.const (.string ⟨#[32]⟩)) 9, _, _, _, _⟩) (v := (.string S2)) rfl (by kernel_rfl) (by kernel_rfl) (by kernel_rfl) (fun _ _ _ h => h) (Or.inl ⟨by rfl, fun W hW => by have hq := DC2.out W; go_simp⟩) (by assumption) ?_
                        simp only [Act.put, List.setIfInBounds_toArray, List.set_cons_zero, List.set_cons_succ]
                        refine wpAnyH_ready (rs := [14]) (by kernel_rfl) (by simp) ?_
                        refine AllReadyH.cons (o := ⟨some 148, .call { callee := .value (.func 33), args := #[(.tmp 147)], argTypes := #[3] }, _, _, _, _⟩) rfl (fun K hK => ?_) AllReadyH.nil
                        go_simp
                        refine (HDT.out _).mono ?_
                        rintro e wt ⟨rfl, rfl⟩
                        refine hK.out _ _ hHeld (fun hHeld => ?_)
                        clear hK K
                        refine wpAnyH_take (i := 15) (oi := ⟨some 149, .binOp .add 9 (.tmp 142) (.tmp 148) 9, _, _, _, _⟩) (v := (.string S3)) rfl (by kernel_rfl) (by kernel_rfl) (by kernel_rfl) (fun _ _ _ h => h) (Or.inl ⟨by rfl, fun W hW => by have hq := DC3.out W; go_simp⟩) (by assumption) ?_
                        simp only [Act.put, List.setIfInBounds_toArray, List.set_cons_zero, List.set_cons_succ]
                        refine wpAnyH_ready (rs := [16]) (by kernel_rfl) (by simp) ?_
                        refine AllReadyH.cons (o := ⟨some 150, .buildSlice 32 1 #[(0, (.tmp 149))], _, _, _, _⟩) rfl (fun K hK => ?_) AllReadyH.nil
                        refine wreadyH ?_
                        go_simp
                        obtain ⟨we, hwe⟩ : ∃ W, wd.alloc (.cells #[.string S3] 9) = W := ⟨_, rfl⟩
                        have HSe : Hid (AtG lnK we (some ⟨wd.heap.size, 0, none⟩) 1 1 [headF f t]) := Lib.hid (hwe ▸ oneG wd (headF f t) trivial 9 _ HC3.out)
                        have hbe : Below wd.heap.size wd we := hwe ▸ (Below.refl _ _).alloc (Nat.le_refl _) _
                        have HKe := Lib.hid (HKd.out.below hbe)
                        have HBe := Lib.hid (HBd.out.trans (hbe.mono HBd.out.size))
                        clear hbe
                        rw [hwe]
                        clear hwe
                        refine hK.out _ _ (by have h1 := HRow.out _ _ _ HKe.out; exact ⟨h1.1, h1.2.1⟩) (fun hHeld => ?_)
                        clear hK K
                        refine wpAnyH_ready (rs := [17]) (by kernel_rfl) (by simp) ?_
                        refine AllReadyH.cons (o := ⟨some 151, .call { callee := .builtin .append, args := #[(.tmp 134), (.tmp 150)], argTypes := #[32, 32] }, _, _, _, _⟩) rfl (fun K hK => ?_) AllReadyH.nil
                        refine wreadyH (wp_appG_told lnK Tryd.underlying32 infoStH rfl (.tmp 134) (.tmp 150) rfl w2.heap.size (.slice aj nj cj) ACC rfl HKe.out.own_ _ 1 1 [headF f t] rfl HSe.out (by have h1 := HTL.out; have h2 := HK2.out; omega) HBe.out.size (ACC.length + 1) rfl ?_)
                        intro a12 c12 w12 ho hg ht
                        have HK12 := Lib.hid (HKe.out.grow ho hg ht)
                        have HB12 := Lib.hid (HBe.out.grown hg HBe.out.size (fun k h => (HKe.out.own_.lt k h).1))
                        clear ho hg ht
                        refine hK.out _ _ (by have h1 := HRow.out _ _ _ HK12.out; exact ⟨h1.1, h1.2.1⟩) (fun hHeld => ?_)
                        clear hK K
                        refine wpAnyH_take (i := 18) (oi := ⟨some 7, .assign (.tmp 151), _, _, _, _⟩) (v := (.slice a12 (ACC.length + 1) c12)) rfl (by kernel_rfl) (by kernel_rfl) (by kernel_rfl) (fun _ _ _ h => h) (Or.inl ⟨by rfl, fun W hW => by go_simp⟩) (by assumption) ?_
                        simp only [Act.put, List.setIfInBounds_toArray, List.set_cons_zero, List.set_cons_succ]
                        refine wpAnyH_done (by kernel_rfl) ?_ _
                        clear hHeld
                        clear HKd HBd
                        go_wp2
                        go_loopg [7, 20] m (fun gr v7 v20 W => ∃ (i2 : Nat) (ai : Option Addr) (ni ci : Nat), v20 = .int .i64 (i2 : Nat) ∧ v7 = .slice ai ni ci ∧ Hid (gr + i2 = m) ∧ Hid (RkB W w2.heap.size (some ⟨g, 0, none⟩) c5 V (.slice ai ni ci) ((ACC ++ [headF f t]) ++ (ls.take i2).map endF) (.slice a9 (k + 1) c9) (P.take (k + 1))) ∧ Hid (Below w2.heap.size w2 W))
                        case atStart => exact ⟨0, a12, _, c12, rfl, rfl, Lib.hid rfl, Lib.hid (by rw [List.take_zero, List.map_nil, List.append_nil]; exact HK12.out), HB12⟩
                        case round =>
                          clear HK12 HB12
                          obtain ⟨i2, ai, ni, ci, rfl, rfl, HI2, HKB2, HBK2⟩ := hrel
                          obtain ⟨g0, g1, g2, hA11⟩ := HRow.out wr _ _ HKB2.out
                          by_cases hi2 : (i2 : Int) < (m : Int)
                          · have hi2l : i2 < ls.length := by have := HLM.out; omega
                            obtain ⟨b11, o11, rfl⟩ := hA11.some_ (by omega)
                            obtain ⟨x, hx⟩ : ∃ x, ls.getD i2 [] = x := ⟨_, rfl⟩
                            have y0 := ln_cell hA11 i2 (by omega)
                            rw [hx] at y0
                            have hxm : x ∈ ls := by rw [← hx]; exact getD_mem hi2l
                            have hxl := HSY.out.2.2.2.1 x hxm
                            have hxn := HSY.out.2.2.2.2 x hxm
                            have hpos : 0 < x.length := List.length_pos_iff.2 hxn
                            obtain ⟨e, he⟩ : ∃ e, e + 1 = x.length := ⟨x.length - 1, by omega⟩
                            obtain ⟨N1, hN1⟩ : ∃ N1, (strB x).size = N1 := ⟨_, rfl⟩
                            have hsz : x.length = N1 := by rw [← hN1, strB_size]
                            have hks : e < (strB x).size := by rw [hN1]; omega
                            have hby := byte_at hks
                            have W3 : IntKind.i64.wrap ((N1 : Int) - 1) = (e : Int) := by rw [IntWalk.i64_in _ (by omega)]; omega
                            have W4 : IntKind.i64.wrap ((i2 : Int) + 1) = (i2 : Int) + 1 := IntWalk.i64_in _ (by have := HSY.out; omega)
                            have e0 : (0 : Int) ≤ (e : Int) := by omega
                            have e1 : (e : Int) < (N1 : Int) := by omega
                            have e1n : e < N1 := by omega
                            have e2 : (e : Int) ≤ (N1 : Int) := by omega
                            have e2n : e ≤ N1 := by omega
                            have hi20 : (0 : Int) ≤ (i2 : Int) := by omega
                            have HTM : Hid (∀ y, endF x = y → (ls.take (i2 + 1)).map endF = (ls.take i2).map endF ++ [y]) := Lib.hid (fun y hy => by rw [take_snoc ls i2 [] hi2l, hx, List.map_append]; exact congrArg _ (congrArg (fun z => [z]) hy))
                            have HLL : Hid (((ACC ++ [headF f t]) ++ (ls.take i2).map endF).length ≤ 200000000000) := Lib.hid (by
                              have h1 := HTL.out; have h2 := HK2.out; have h3 := HSY.out.2.2.1; have h4 := HLM.out
                              rw [List.length_append, List.length_append, List.length_map, List.length_take, List.length_singleton]; omega)
                            have HXL : Hid (x.length ≤ 1001) := Lib.hid hxl
                            obtain ⟨M9, hM9⟩ : ∃ M, ((ACC ++ [headF f t]) ++ (ls.take i2).map endF).length + 1 = M := ⟨_, rfl⟩
                            have HM9 := Lib.hid hM9
                            clear hM9
                            have HIM : Hid (i2 < m) := Lib.hid (by omega)
                            by_cases h10 : x.getD e 0 = 10
                            · have hq : ((((strB x)[e]'hks).toNat : Int) == 10) = true := by rw [hby, h10]; rfl
                              have HEY := Lib.hid (HTM.out (x.take e) (by rw [end_yes hxn (by rw [show x.length - 1 = e from by omega]; exact h10), show x.length - 1 = e from by omega]))
                              have hex : (strB x).extract 0 e = strB (x.take e) := by rw [ext_strB, List.drop_zero]
                              clear hby h10 hx hxm hxl hxn hpos he hi2l hA11
                              go_wp2_with (at_builtin; go_must (refine appG_told lnK Tryd.underlying32 infoStH rfl rfl _ _ rfl w2.heap.size _ _ rfl (HKB2.out.own_.alloc _) (some ⟨wr.heap.size, 0, none⟩) 1 1 [x.take e] rfl (oneG wr (x.take e) trivial 9 _ rfl) (by have h1 := HLL.out; omega) (by have := HBK2.out.size; simp; omega) M9 HM9.out.symm ?_); intro a14 c14 w14 ho hg ht; have HK14 := Lib.hid ((HKB2.out.below ((Below.refl _ _).alloc (Nat.le_refl _) _)).grow ho hg ht); have HB14 := Lib.hid ((HBK2.out.alloc HBK2.out.size _).grown hg (by have := HBK2.out.size; simp; omega) (fun k h => (HKB2.out.own_.lt k h).1)); clear ho hg ht)
                              go_roundg (gk - 1)
                              case measure => have h1 := HI2.out; have h2 := HIM.out; omega
                              case rel => exact ⟨i2 + 1, a14, M9, c14, by go_num, rfl, Lib.hid (by have h1 := HI2.out; have h2 := HIM.out; omega), Lib.hid (by rw [HEY.out, ← List.append_assoc]; exact HK14.out), HB14⟩
                            · have hq : ((((strB x)[e]'hks).toNat : Int) == 10) = false := by rw [hby]; exact ne_ten h10
                              have HEY := Lib.hid (HTM.out (x ++ [92]) (end_no hxn (by rw [show x.length - 1 = e from by omega]; exact h10)))
                              obtain ⟨X9, hX9⟩ : ∃ X, strB (x ++ [92]) = X := ⟨_, rfl⟩
                              have hc9 : ∀ W, (Op.stringOp .add (strB x) ⟨#[92]⟩).run Tryd.prog W = .ok (.string X9) W := fun W => by rw [← hX9]; exact run_catL x [92] (by simp only [List.length_cons, List.length_nil]; omega) W
                              have HC9 : Hid (#[Value.string X9] = (lnK.cells (x ++ [92])).toArray) := Lib.hid (by rw [← hX9]; rfl)
                              clear hby h10 hx hxm hxl hxn hpos he hi2l hA11 hX9
                              go_wp2_with (at_builtin; go_must (refine appG_told lnK Tryd.underlying32 infoStH rfl rfl _ _ rfl w2.heap.size _ _ rfl (HKB2.out.own_.alloc _) (some ⟨wr.heap.size, 0, none⟩) 1 1 [x ++ [92]] rfl (oneG wr (x ++ [92]) trivial 9 _ HC9.out) (by have h1 := HLL.out; omega) (by have := HBK2.out.size; simp; omega) M9 HM9.out.symm ?_); intro a14 c14 w14 ho hg ht; have HK14 := Lib.hid ((HKB2.out.below ((Below.refl _ _).alloc (Nat.le_refl _) _)).grow ho hg ht); have HB14 := Lib.hid ((HBK2.out.alloc HBK2.out.size _).grown hg (by have := HBK2.out.size; simp; omega) (fun k h => (HKB2.out.own_.lt k h).1)); clear ho hg ht)
                              go_roundg (gk - 1)
                              case measure => have h1 := HI2.out; have h2 := HIM.out; omega
                              case rel => exact ⟨i2 + 1, a14, M9, c14, by go_num, rfl, Lib.hid (by have h1 := HI2.out; have h2 := HIM.out; omega), Lib.hid (by rw [HEY.out, ← List.append_assoc]; exact HK14.out), HB14⟩
                          · have him : i2 = m := by have := HI2.out; omega
                            have HKE := HKB2
                            rw [him, List.take_of_length_le (by rw [HLM.out]; exact Nat.le_refl _), ← HAC.out] at HKE
                            clear him hA11
                            go_wp2
                            go_roundg (M - (j + 1))
                            case measure => have h1 := HJ.out; have h2 := HJM.out; omega
                            case rel => exact ⟨j + 1, ai, ni, ci, by go_num, rfl, Lib.hid (by have h1 := HJ.out; have h2 := HJM.out; omega), Lib.hid (by rw [HTS.out]; have h1 := HKE.out; simp only [List.append_assoc, List.cons_append, List.nil_append] at h1 ⊢; exact h1), HBK2⟩
                      · have hjM : j = M := by have := HJ.out; omega
                        have hZk : Z.take j = Z := List.take_of_length_le (by rw [← HV.out, List.length_map, HM.out, hjM]; exact Nat.le_refl _)
                        have HE := Lib.hid HKB.out.two
                        rw [hZk] at HE
                        have HEL : Hid ((A ++ (headL p true true :: toldF Z)).length ≤ (k + 1) * 67117057) := Lib.hid (by
                          have h1 := HAL.out
                          have h2 := gd_told HSM.out
                          rw [List.length_append, List.length_cons, Nat.succ_mul]; omega)
                        clear hjM hZk
                        go_wp2
                        go_roundg (P.length + 1 - (k + 1))
                        case measure => have h1 := HI.out; have h2 := HKL.out; omega
                        case rel => exact ⟨k + 1, _, aj, nj, cj, a9, k + 1, c9, rfl, rfl, Lib.hid (by have h1 := HI.out; have h2 := HKL.out; omega), Lib.hid HKL.out, HRR, HE, Lib.hid rfl, HEL, HBK⟩
                · have hr1 : ((r : Int) != 0) = true := by rw [bne_iff_ne]; omega
                  have hr2 : ¬ ((r : Int) = 0) := by omega
                  have HRR : Hid (([], r) = R) := Lib.hid (by have h1 := HGS.out; rw [HFE.out, if_neg hr] at h1; simpa [hr] using h1)
                  clear HGS HFE
                  as_aux_lemma =>
                    go_wp2_with (first
                      | ((with_reducible show wpList _ _ _ (⟨some 79, _, _, _, _, _⟩ :: _) _ _); go_must (refine appG_told lnK Tryd.underlying32 infoStH rfl rfl _ _ rfl w2.heap.size _ (P.take k) rfl (HTW.out.alloc _) (some ⟨wr.heap.size, 0, none⟩) 1 1 [p] rfl (oneG wr p trivial 9 _ rfl) (by have h1 := HK2.out; have h2 := HKG.out; omega) (by have := HBW2.out.size; simp; omega) (k + 1) HKG.out ?_); intro a9 c9 w6 ho hg ht; have HH6 : Hid (Holds w6 w2.heap.size [hG lnK 9 (.slice a7 n7 c7) A, hG lnK 9 (.slice a9 (k + 1) c9) (P.take (k + 1))]) := Lib.hid (by have h1 := ((HHW.out.below ((Below.refl _ _).alloc (Nat.le_refl _) _)).perm (List.Perm.swap _ _ _)).put (h' := hG lnK 9 (.slice a9 (k + 1) c9) (P.take k ++ [p])) hg ho.1 ht; rw [← HTK.out] at h1; exact h1.perm (List.Perm.swap _ _ _)); have HB6 := Lib.hid ((HBW2.out.alloc HBW2.out.size _).grown hg (by have := HBW2.out.size; simp; omega) (fun k h => (HTW.out.lt k h).1)); clear ho hg ht x0)
                      | (go_at_call 32; (with_reducible refine (HFI1.out w6 HB6.out).mono ?_); rintro e w7 ⟨rfl, hb⟩; obtain ⟨wA, hwA⟩ : ∃ W, w7.alloc (.cells #[.string (strB p1), .string (strB b1)] FileT) = W := ⟨_, rfl⟩; have eA : wA.heap[w7.heap.size]? = some (.cells #[.string (strB p1), .string (strB b1)] FileT (0, 0)) := hwA ▸ heap_alloc_new w7 _; have HEA := Lib.hid eA; have HSA : Hid (w7.heap.size < wA.heap.size) := Lib.hid (by rw [← hwA]; simp); have hb7 : Below w6.heap.size w6 wA := hwA ▸ hb.alloc hb.size _; have HHA := Lib.hid (HH6.out.below hb7); have HBA := Lib.hid (HB6.out.trans (hb7.mono HB6.out.size)); clear hb hb7 eA)
                      | (go_at_call 32; (with_reducible refine (HFI2.out wA HBA.out).mono ?_); rintro e w8 ⟨rfl, hb⟩; obtain ⟨wB, hwB⟩ : ∃ W, w8.alloc (.cells #[.string (strB p2), .string (strB b2)] FileT) = W := ⟨_, rfl⟩; have eB : wB.heap[w8.heap.size]? = some (.cells #[.string (strB p2), .string (strB b2)] FileT (0, 0)) := hwB ▸ heap_alloc_new w8 _; have hb8 : Below wA.heap.size wA wB := hwB ▸ hb.alloc hb.size _; have eA2 : wB.heap[w7.heap.size]? = some (.cells #[.string (strB p1), .string (strB b1)] FileT (0, 0)) := (hb8.block _ HSA.out).trans HEA.out; have m1 : wB.cell? ⟨w7.heap.size, 1, none⟩ = some (.string (strB b1)) := (cell_of_row _ _ _ _ _ _ eA2).trans rfl; have m2 : wB.cell? ⟨w8.heap.size, 1, none⟩ = some (.string (strB b2)) := (cell_of_row _ _ _ _ _ _ eB).trans rfl; have HHB := Lib.hid (HHA.out.below hb8); have HBB2 := Lib.hid (HBA.out.trans (hb8.mono HBA.out.size)); clear hb hb8 eA2 eB)
                      | (go_at_call 9; (with_reducible refine (HHK.out wB).mono ?_); rintro e w9 ⟨a5, c5, base, V, rfl, hv, hh, hbs, hb⟩; have HB9 := Lib.hid (HBB2.out.trans (hb.mono HBB2.out.size)); clear hv hh hbs hb m1 m2))
                    go_ret2
                    exact ⟨none, 0, 0, by rw [← HRR.out]; rfl, by rw [← HRR.out]; exact AtG.nil, HB2.out.trans (HB9.out.mono HB2.out.size)⟩
#print axioms refLines_any
end Go.Proofs.YtfoalaoanpbmeaaDoor
