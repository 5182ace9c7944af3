/-
  The law of a closed part, walked.
-/
import Derived.Test.YtmenhbdapikpeaaTreeLaws1
import Derived.Test.YtmenhbdapikpeaaTreePartW
namespace Go.Proofs.Ytmenhbdapikpeaa
open Go.RowKit

set_option maxRecDepth 100000 in
set_option maxHeartbeats 8000000 in
theorem treeParts_any (a : Option Addr) (n c : Nat) (L : List NodeV) (aQ : Option Addr) (nQ cQ : Nat) (Q : List Nat) (w : World) (h : NodesAt w a n c L) (hQ : At1 Bl w aQ nQ cQ Q) :
    Calls Try.prog 5 #[.slice a n c, .slice aQ nQ cQ] w fun e w' => e = .returned (.bool true) ∧ Below w.heap.size w w' := by
  have AW := Lib.hid (fun W => awake_any W)
  by_cases hn : (60 : Int) < (n : Int)
  · clear h hQ
    go_enter Try.func5, Try.ntmps5
    go_wp2
    go_ret
    exact ⟨rfl, Below.refl _ _⟩
  have hn1 : n ≤ 1000 := by omega
  have TO := Lib.hid (told_in h hn1)
  have HM := Lib.hid hn1
  have HL := Lib.hid h.1
  have HN := Lib.hid h
  have HQ := Lib.hid hQ
  have hnI : (n : Int) ≤ 60 := by omega
  have HB := Lib.hid (Below.refl w.heap.size w)
  by_cases hR : RightT L
  · obtain ⟨l, hl⟩ := ord_ex hR.2
    have HOL := Lib.hid hl
    have HR := Lib.hid hR
    have RI := Lib.hid (fun a c W (h : NodesAt W a n c L) => right_any a n c L W h hn1 true ⟨fun _ => hR, fun _ => rfl⟩)
    have OR := Lib.hid (fun a c W (h : NodesAt W a n c L) => order_in hR hl a n c W h hn1)
    clear h hQ hn1 hR hl
    go_enter Try.func5, Try.ntmps5
    go_wp2_with (first
      | (go_at_call 11; (with_reducible refine (TO.out _ HB.out).mono ?_); rintro e W1 ⟨a1, c1, rfl, hnd, hb⟩; have HND := Lib.hid hnd; have HB := Lib.hid (HB.out.trans (hb.mono HB.out.size)); clear hb hnd)
      | (go_at_call 10; (with_reducible refine (RI.out _ _ _ HND.out).mono ?_); rintro e W2 ⟨rfl, hb⟩; have HND := Lib.hid (HND.out.below hb); have HB := Lib.hid (HB.out.trans (hb.mono HB.out.size)); clear hb)
      | (at_make; refine make1 M Try.underlying27 infoM rfl rfl _ _ rfl n rfl rfl (by have := HM.out; omega) (by decide) ?_; intro W3 ho3 hg3; have HO3 := Lib.hid ho3; have HG3 := Lib.hid hg3; clear ho3 hg3)
      | (at_make; refine make1 Bl Try.underlying37 infoBl rfl rfl _ _ rfl n rfl rfl (by have := HM.out; omega) (by decide) ?_; intro W4 ho4 hg4; have HO4 := Lib.hid ho4; have HG4 := Lib.hid hg4; clear ho4 hg4))
    have HPW0 : Hid (PartW W2 W4 n W2.heap.size W3.heap.size (List.replicate n 1) (List.replicate n 0) none 0 0 []) := Lib.hid (by
      have hlt := (HO3.out.lt _ rfl).2
      have hlt4 := (HO4.out.lt _ rfl).2
      have hb3 := (Below.refl W2.heap.size W2).grown HG3.out (Nat.le_refl _) (fun k hk => by cases hk)
      exact ⟨HO3.out.kept HG4.out (.inr (by simp [Value.ownBlock])), HO4.out, OwnT.nil, hlt, Nat.le_refl _, hlt4, hb3.grown HG4.out hb3.size (fun k hk => by cases hk)⟩)
    clear HO3 HO4 HG3 HG4
    generalize W2.heap.size = gA at HPW0 ⊢
    generalize W3.heap.size = gK at HPW0 ⊢
    go_loopg [9] (2 * n + 1) (fun g v9 W => ∃ (T : List Nat) (mo : Bool), v9 = .bool mo ∧ g = 2 * zeros T + (if mo = true then 1 else 0) ∧ Hid (PartW W2 W n gA gK (List.replicate n 1) T none 0 0 []) ∧ Hid (ClT L T ∧ T.length = n))
    case atStart => exact ⟨_, true, rfl, by simp [zeros, List.countP_replicate], HPW0, Lib.hid ⟨clT_zero L n, by simp⟩⟩
    case round =>
      obtain ⟨T0, mo0, rfl, hg0, HPW1, HC1⟩ := hrel
      have HG0 := Lib.hid hg0
      cases mo0
      · clear hg0
        have HC := HC1
        have HPW2 : Hid (PartW W2 wr n gA gK (atL T0 n 0) T0 none 0 0 ((keptL T0 0).map (nd L))) := Lib.hid (by rw [atL_zero]; exact HPW1.out)
        go_wp2
        go_loopg [7, 11] n (fun g v7 v11 W => ∃ (i m : Nat) (aP : Option Addr) (cP : Nat), v11 = .int .i64 i ∧ v7 = .slice aP m cP ∧ g + i = n ∧ Hid (m = idxT T0 i) ∧ Hid (PartW W2 W n gA gK (atL T0 n i) T0 aP m cP ((keptL T0 i).map (nd L))))
        case atStart => exact ⟨0, 0, none, 0, rfl, rfl, rfl, Lib.hid rfl, HPW2⟩
        case round =>
          obtain ⟨i, m, aP, cP, rfl, rfl, hg, HMI, HPW⟩ := hrel
          have HG := Lib.hid hg
          have hi0 : (0 : Int) ≤ (i : Int) := by omega
          have hiI : (i : Int) ≤ (n : Int) := by omega
          have hmI : (m : Int) ≤ (n : Int) := by have := keptL_len T0 i; have := HMI.out; unfold idxT at this; omega
          have hm0 : (0 : Int) ≤ (m : Int) := by omega
          by_cases hi : (i : Int) < (n : Int)
          · have hin : i < n := by omega
            have HI := Lib.hid hin
            have ca := HPW.out.cellA hin
            have fa := HPW.out.frzA i (by omega)
            have P2 := Lib.hid (HPW.out.setAt i 0 (-1) rfl)
            have ck := P2.out.cellK hin
            clear hg
            cases hk : (T0.getD i 0 == 1)
            · rw [hk] at ck
              have hk0 : T0.getD i 0 ≠ 1 := by simpa using hk
              have HK := Lib.hid hk0
              clear hk hk0 hin
              go_wp2
              go_roundg (n - (i + 1))
              case measure => have := HG.out; have := HI.out; omega
              case rel =>
                refine ⟨i + 1, m, aP, cP, by go_num, rfl, by have := HG.out; have := HI.out; omega, Lib.hid ?_, Lib.hid ?_⟩
                · rw [HMI.out]; unfold idxT; rw [keptL_no HK.out]
                · rw [keptL_no HK.out, ← atL_step (x := 0) (by rw [if_neg HK.out])]
                  exact P2.out
            · rw [hk] at ck
              have hk1 : T0.getD i 0 = 1 := by simpa using hk
              have HK := Lib.hid hk1
              have ca2 := P2.out.cellA hin
              have fa2 := P2.out.frzA i (by omega)
              have P3 := Lib.hid (P2.out.setAt i (m + 1) (m : Int) (by omega))
              obtain ⟨b1, o1, rfl⟩ := HND.out.some_ (by omega)
              have HCt := Lib.hid ((HND.out.below P3.out.below).at_ i hin)
              have HX := Lib.hid (HN.out.ok hin)
              have HP48 := Lib.hid (show ((keptL T0 i).map (nd L)).length + 1 ≤ 1000000000 by rw [List.length_map]; have := keptL_len T0 i; have := HM.out; omega)
              have HPM := Lib.hid (show m + 1 = ((keptL T0 i).map (nd L)).length + 1 by rw [List.length_map, HMI.out]; rfl)
              obtain ⟨X, hX⟩ : ∃ X, X = nd L i := ⟨_, rfl⟩
              have HXE := Lib.hid hX
              rw [← hX] at HCt HX
              clear hk hk1 hin hX
              go_wp2_with (first
                | (refine wl_ex rfl (exec_loadNode _ rfl _ _ X HX.out rfl HCt.out) ?_)
                | (refine wpList_plain rfl (fun K hK => wp_sl_node Try.underlying25 infoT _ rfl X HX.out rfl (hK _ _ ?_)))
                | (at_builtin; go_must (refine app_nodes Try.underlying25 infoT (by decide) rfl _ _ rfl (gK + 1) _ ((keptL T0 i).map (nd L)) rfl (P3.out.part.alloc _) _ 1 1 [X] rfl (one_node _ X HX.out _ _ rfl) HP48.out (Nat.le_trans P3.out.size (by simp)) (m + 1) HPM.out ?_); intro a2 c2 W5 ho2 hg2; have HP5 := Lib.hid ((P3.out.later ((Below.refl _ _).alloc (Nat.le_refl _) (.cells (nodeC X) 44))).grown hg2 ho2); clear ho2 hg2))
              go_roundg (n - (i + 1))
              case measure => have := HG.out; have := HI.out; omega
              case rel =>
                refine ⟨i + 1, m + 1, a2, c2, by go_num, rfl, by have := HG.out; have := HI.out; omega, Lib.hid ?_, Lib.hid ?_⟩
                · rw [HMI.out]; unfold idxT; rw [keptL_yes HK.out]; simp
                · have h5 := HP5.out
                  rw [List.set_set, atL_step (by rw [if_pos HK.out, HMI.out])] at h5
                  rw [keptL_yes HK.out, List.map_append, List.map_cons, List.map_nil, ← HXE.out]
                  exact h5
          · have hin : i = n := by omega
            subst hin
            have HMK : Hid ((keptL T0 i).length = m) := Lib.hid HMI.out.symm
            have HPJ : Hid (PartW W2 wr i gA gK (atL T0 i i) T0 aP m cP (partJ L T0 0)) := Lib.hid (by rw [partJ_zero, HL.out]; exact HPW.out)
            have OR2 := Lib.hid (fun W (hb : Below W2.heap.size W2 W) => OR.out _ _ W (HND.out.below hb))
            clear hg HPW
            go_wp2
            go_loopg [12] m (fun g v12 W => ∃ j : Nat, v12 = .int .i64 j ∧ g + j = m ∧ Hid (PartW W2 W i gA gK (atL T0 i i) T0 aP m cP (partJ L T0 j)))
            case atStart => exact ⟨0, rfl, rfl, HPJ⟩
            case round =>
              obtain ⟨j, rfl, hg, HPW⟩ := hrel
              have HG := Lib.hid hg
              have hj0 : (0 : Int) ≤ (j : Int) := by omega
              have hjI : (j : Int) ≤ (m : Int) := by omega
              by_cases hj : (j : Int) < (m : Int)
              · have hjm : j < m := by omega
                have HJ := Lib.hid hjm
                have HJK := Lib.hid (show j < (keptL T0 L.length).length by rw [HL.out, HMK.out]; exact hjm)
                obtain ⟨gP, rfl, hgb, _, hfr⟩ := HPW.out.part.row (by omega)
                have fp := hfr (j * 37 + 34)
                have hlen : (partJ L T0 j).length = m := by rw [partJ_length, HL.out, HMK.out]
                have cp := HPW.out.part.isNodes.par j hjm
                rw [partJ_get HJK.out, Nat.zero_add] at cp
                have KG := keptL_get HJK.out
                obtain ⟨q, hq⟩ : ∃ q, q = (keptL T0 L.length).getD j 0 := ⟨_, rfl⟩
                have HQE := Lib.hid hq
                rw [← hq] at cp KG
                obtain ⟨p, hp⟩ : ∃ p, p = (nd L q).p := ⟨_, rfl⟩
                have HP := Lib.hid hp
                rw [← hp] at cp
                have PO := HC.out.1 q KG.1 KG.2.1
                rw [← hp] at PO
                clear hg hq hp hfr
                by_cases hp0 : 0 ≤ p
                · obtain ⟨u, rfl, huL, huT⟩ : ∃ u : Nat, p = (u : Int) ∧ u < L.length ∧ T0.getD u 0 = 1 := by
                    rcases PO with h | h
                    · omega
                    · exact h
                  have hui : u < i := by rw [← HL.out]; exact huL
                  have hu0 : (0 : Int) ≤ (u : Int) := by omega
                  have huI : (u : Int) < (i : Int) := by omega
                  have cA := HPW.out.cellA hui
                  rw [atL_get hui, if_pos huT, show (((idxT T0 u + 1 : Nat) : Int) - 1) = (idxT T0 u : Int) by omega] at cA
                  have P2 : Hid (PartW W2 (wr.setCell ⟨gP, j * 37 + 34, none⟩ (.int .i64 (idxT T0 u : Int))) i gA gK (atL T0 i i) T0 (some ⟨gP, 0, none⟩) m cP (partJ L T0 (j + 1))) := Lib.hid (by
                    have h := HPW.out.setPart hlen hjm (idxT T0 u : Int)
                    rw [partJ_step (by
                      rw [← HQE.out, partJ_get HJK.out, ← HQE.out, remap_in (by rw [← HP.out]; omega), ← HP.out]
                      rfl)] at h
                    exact h)
                  obtain ⟨x, hx⟩ : ∃ x, x = idxT T0 u := ⟨_, rfl⟩
                  rw [← hx] at P2 cA
                  clear PO KG hlen hjm hui huL huT hx hgb
                  go_wp2
                  go_roundg (m - (j + 1))
                  case measure => have := HG.out; have := HJ.out; omega
                  case rel => exact ⟨j + 1, by go_num, by have := HG.out; have := HJ.out; omega, P2⟩
                · have HP0 := Lib.hid (show ¬ 0 ≤ (nd L ((keptL T0 L.length).getD j 0)).p by rw [← HQE.out, ← HP.out]; exact hp0)
                  clear PO KG hlen hjm hgb
                  go_wp2
                  go_roundg (m - (j + 1))
                  case measure => have := HG.out; have := HJ.out; omega
                  case rel =>
                    refine ⟨j + 1, by go_num, by have := HG.out; have := HJ.out; omega, Lib.hid ?_⟩
                    rw [partJ_same HJK.out (Int.not_le.2 HP0.out)]
                    exact HPW.out
              · have hjm : j = m := by omega
                subst hjm
                have HPF : Hid (PartW W2 wr i gA gK (atL T0 i i) T0 aP j cP (partL L T0)) := Lib.hid (by
                  have h := HPW.out
                  rwa [← partJ_end, HL.out, HMK.out])
                clear hg HPW HPJ
                go_wp2_with (go_at_call 12; (with_reducible refine (OR2.out _ HPF.out.below).mono ?_); rintro e W6 ⟨ao, co, rfl, ho, hb⟩; have HO := Lib.hid ho; have HP6 := Lib.hid (HPF.out.later hb); clear hb ho)
                have HLL := Lib.hid (show l.length = i from (ordT_length HOL.out).trans HL.out)
                go_loopg [13, 15] i (fun g v13 v15 W => ∃ (t mW : Nat) (aW : Option Addr) (cW : Nat), v15 = .int .i64 t ∧ v13 = .slice aW mW cW ∧ g + t = i ∧ Hid (mW ≤ t) ∧ Hid (Below W6.heap.size W6 W) ∧ Hid (Own1 N 3 W W6.heap.size (.slice aW mW cW) (((l.take t).filter fun i => T0.getD i 0 == 1).map (idxT T0))))
                case atStart => exact ⟨0, 0, none, 0, rfl, rfl, rfl, Lib.hid (Nat.le_refl _), Lib.hid (Below.refl _ _), Lib.hid Own1.nil⟩
                case round =>
                  obtain ⟨t, mW, aW, cW, rfl, rfl, hg, HMW, HBW, HW⟩ := hrel
                  have HG := Lib.hid hg
                  have ht0 : (0 : Int) ≤ (t : Int) := by omega
                  have htI : (t : Int) ≤ (i : Int) := by omega
                  by_cases ht : (t : Int) < (i : Int)
                  · have htn : t < i := by omega
                    have HTN := Lib.hid htn
                    obtain ⟨b, o, rfl⟩ := HO.out.some_ (by omega)
                    have co := (HO.out.below HBW.out).cell t htn
                    obtain ⟨u, hu⟩ : ∃ u, u = l.getD t 0 := ⟨_, rfl⟩
                    have HU := Lib.hid hu
                    rw [← hu] at co
                    unfold N at co
                    have hui : u < i := by
                      have := (HOL.out.2 u).1 (by rw [hu]; exact getD_mem (by rw [HLL.out]; exact htn))
                      rwa [HL.out] at this
                    have hu0 : (0 : Int) ≤ (u : Int) := by omega
                    have huI : (u : Int) < (i : Int) := by omega
                    have cA := (HP6.out.later HBW.out).cellA hui
                    rw [atL_get hui] at cA
                    have HTK : Hid (l.take (t + 1) = l.take t ++ [u]) := Lib.hid (by
                      have h := HLL.out
                      rw [List.take_succ_eq_append_getElem (by omega), hu]
                      simp [show t < l.length by omega])
                    clear hg hu htn hui
                    by_cases hk : T0.getD u 0 = 1
                    · rw [if_pos hk, show (((idxT T0 u + 1 : Nat) : Int) - 1) = (idxT T0 u : Int) by omega] at cA
                      have HX : Hid (((l.take (t + 1)).filter fun i => T0.getD i 0 == 1).map (idxT T0) = ((l.take t).filter fun i => T0.getD i 0 == 1).map (idxT T0) ++ [idxT T0 u]) := Lib.hid (by
                        rw [HTK.out, List.filter_append, List.map_append]
                        have : (T0.getD u 0 == 1) = true := beq_iff_eq.2 hk
                        simp only [List.filter_cons, this, List.filter_nil, if_true, List.map_cons, List.map_nil])
                      have H48 := Lib.hid (show ((((l.take t).filter fun i => T0.getD i 0 == 1).map (idxT T0)).length + 1) * (8 + 1) ≤ 140737488355328 by rw [HW.out.len]; have := HMW.out; have := HTN.out; have := HM.out; omega)
                      have H1 := Lib.hid (show mW + 1 = (((l.take t).filter fun i => T0.getD i 0 == 1).map (idxT T0)).length + 1 by rw [HW.out.len])
                      obtain ⟨x, hx⟩ : ∃ x, x = idxT T0 u := ⟨_, rfl⟩
                      rw [← hx] at cA HX
                      have hx0 : (0 : Int) ≤ (x : Int) := by omega
                      obtain ⟨acc, hacc⟩ : ∃ acc, acc = ((l.take t).filter fun i => T0.getD i 0 == 1).map (idxT T0) := ⟨_, rfl⟩
                      rw [← hacc] at HX H48 H1 HW
                      clear hk hx hacc
                      go_wp2_with (at_builtin; go_must (refine app1 N oneN Try.underlying27 infoN rfl rfl _ _ rfl W6.heap.size _ acc rfl (HW.out.alloc _) _ 1 1 [x] rfl (litAt _ _ x 3 rfl) H48.out (Nat.le_trans HBW.out.size (by simp)) (mW + 1) H1.out ?_); intro a2 c2 W7 ho2 hg2)
                      go_roundg (i - (t + 1))
                      case measure => have := HG.out; have := HTN.out; omega
                      case rel =>
                        refine ⟨t + 1, mW + 1, a2, c2, by go_num, rfl, by have := HG.out; have := HTN.out; omega, Lib.hid (by have := HMW.out; omega), Lib.hid ?_, Lib.hid (by rw [HX.out]; exact ho2)⟩
                        exact (HBW.out.alloc HBW.out.size _).grown hg2 (Nat.le_trans HBW.out.size (by simp)) (fun g hg => (HW.out.lt g hg).1)
                    · rw [if_neg hk] at cA
                      have HX : Hid (((l.take (t + 1)).filter fun i => T0.getD i 0 == 1).map (idxT T0) = ((l.take t).filter fun i => T0.getD i 0 == 1).map (idxT T0)) := Lib.hid (by
                        rw [HTK.out, List.filter_append, List.map_append]
                        have : (T0.getD u 0 == 1) = false := by simpa using hk
                        simp only [List.filter_cons, this, List.filter_nil, Bool.false_eq_true, if_false, List.map_nil, List.append_nil])
                      clear hk
                      go_wp2
                      go_roundg (i - (t + 1))
                      case measure => have := HG.out; have := HTN.out; omega
                      case rel => exact ⟨t + 1, mW, aW, cW, by go_num, rfl, by have := HG.out; have := HTN.out; omega, Lib.hid (by have := HMW.out; omega), HBW, Lib.hid (by rw [HX.out]; exact HW.out)⟩
                  · have htn : t = l.length := by rw [HLL.out]; omega
                    have HR2 := right_part HR.out HC.out.1
                    obtain ⟨mm, hmm⟩ := ord_ex HR2.2
                    have e1 := ord_part HR.out.2 HC.out.1 HOL.out hmm
                    have OP := Lib.hid (order_in HR2 hmm aP j cP wr ((HP6.out.later HBW.out).part.isNodes) (by have := HMK.out; have := keptL_len T0 i; have := HM.out; omega))
                    have HWF : Hid (Own1 N 3 wr W6.heap.size (.slice aW mW cW) mm) := Lib.hid (by
                      have h := HW.out
                      rw [htn, List.take_length] at h
                      rw [e1]
                      exact h)
                    have HJ1 := Lib.hid (show j ≤ 1000000000 by have := HMK.out; have := keptL_len T0 i; have := HM.out; omega)
                    have HBF := Lib.hid (HB.out.trans ((HP6.out.later HBW.out).below.mono HB.out.size))
                    clear hg htn HR2 hmm e1 HW
                    go_wp2_with (first
                      | (go_at_call 12; (with_reducible refine OP.out.mono ?_); rintro e W7 ⟨a7, c7, rfl, ho, hb⟩; have HO7 := Lib.hid ho; have HW7 := Lib.hid (HWF.out.below hb); have HBF := Lib.hid (HBF.out.trans (hb.mono HBF.out.size)); clear hb ho)
                      | (go_at_call 15; go_must (refine (ints_any a7 j c7 mm aW mW cW mm _ HO7.out HW7.out.at1 HJ1.out).mono ?_); rintro e W8 ⟨rfl, hb⟩; have HBF := Lib.hid (HBF.out.trans (hb.mono HBF.out.size)); clear hb; rw [decide_eq_true rfl])
                      | (go_at_call 14; (with_reducible refine (AW.out _).mono ?_); rintro e W9 ⟨rfl, hb⟩; have HBF := Lib.hid (HBF.out.trans (hb.mono HBF.out.size)); clear hb))
                    go_ret
                    exact ⟨rfl, HBF.out⟩
      · clear hg0
        have HG1 : Hid (gk = 2 * zeros T0 + 1) := Lib.hid (by rw [HG0.out]; rfl)
        go_wp2
        go_loopg [9, 10] n (fun g v9 v10 W => ∃ (i : Nat) (T : List Nat) (mo : Bool), v9 = .bool mo ∧ v10 = .int .i64 i ∧ g + i = n ∧ Hid (PartW W2 W n gA gK (List.replicate n 1) T none 0 0 []) ∧ Hid (ClT L T ∧ T.length = n) ∧ Hid (zeros T ≤ zeros T0 ∧ (mo = true → zeros T < zeros T0)))
        case atStart => exact ⟨0, T0, false, rfl, rfl, rfl, HPW1, HC1, Lib.hid ⟨Nat.le_refl _, fun h => by cases h⟩⟩
        case round =>
          obtain ⟨i, T, mo, rfl, rfl, hg, HPW, HC, HZ⟩ := hrel
          have HG := Lib.hid hg
          have hi0 : (0 : Int) ≤ (i : Int) := by omega
          have hiI : (i : Int) ≤ (n : Int) := by omega
          by_cases hi : (i : Int) < (n : Int)
          · have hin : i < n := by omega
            have HI := Lib.hid hin
            have ck := HPW.out.cellK hin
            have hfz := HPW.out.frzK i (by omega)
            obtain ⟨b, o, rfl⟩ := HN.out.some_ (by omega)
            have HBw := Lib.hid (HB.out.trans (HPW.out.below.mono HB.out.size))
            have cp := (HN.out.below HBw.out).par i hin
            obtain ⟨p, hp⟩ : ∃ p, p = (nd L i).p := ⟨_, rfl⟩
            rw [← hp] at cp
            have HP := Lib.hid hp
            have HPO : Hid ((nd L i).p = -1 ∨ ∃ j : Nat, (nd L i).p = (j : Int) ∧ j < n) := Lib.hid (by
              rcases HR.out.2.par i (by rw [HL.out]; exact hin) with h | ⟨j, h, hj, _⟩
              · exact .inl h
              · exact .inr ⟨j, h, by rw [← HL.out]; exact hj⟩)
            clear hg hp
            cases hk : (T.getD i 0 == 1)
            · rw [hk] at ck
              have HT0 := Lib.hid (show T.getD i 0 ≠ 1 by simpa using hk)
              clear hk
              by_cases hq : (nQ : Int) ≤ (i : Int)
              · clear hin
                by_cases hp0 : p < 0
                · have HPN := Lib.hid (show (nd L i).p = -1 by
                    rcases HPO.out with h | ⟨j, h, _⟩
                    · exact h
                    · rw [← HP.out] at h; omega)
                  have HP2 := Lib.hid (HPW.out.setKept i)
                  have HC2 : Hid (ClT L (T.set i 1) ∧ (T.set i 1).length = n) := Lib.hid ⟨HC.out.1.put (by rw [HC.out.2, HL.out]) (by rw [HL.out]; exact HI.out) (.inl HPN.out), by rw [List.length_set]; exact HC.out.2⟩
                  have HZ2 : Hid (zeros (T.set i 1) ≤ zeros T0 ∧ zeros (T.set i 1) < zeros T0) := Lib.hid (by
                    have h1 := zeros_set (T := T) (i := i) (by rw [HC.out.2]; exact HI.out) HT0.out
                    have h2 := HZ.out.1
                    exact ⟨by omega, by omega⟩)
                  go_wp2
                  go_roundg (n - (i + 1))
                  case measure => have := HG.out; have := HI.out; omega
                  case rel => exact ⟨i + 1, T.set i 1, true, rfl, by go_num, by have := HG.out; have := HI.out; omega, HP2, HC2, Lib.hid ⟨HZ2.out.1, fun _ => HZ2.out.2⟩⟩
                obtain ⟨j, hpj, hjn⟩ : ∃ j : Nat, p = (j : Int) ∧ j < n := by
                  rcases HPO.out with h | ⟨j, h, hj⟩
                  · rw [← HP.out] at h; omega
                  · exact ⟨j, by rw [HP.out]; exact h, hj⟩
                subst hpj
                have hj0 : (0 : Int) ≤ (j : Int) := by omega
                have hjI : (j : Int) < (n : Int) := by omega
                have cj := HPW.out.cellK hjn
                have HJN := Lib.hid hjn
                cases hj : (T.getD j 0 == 1)
                · rw [hj] at cj
                  clear hj hjn
                  go_wp2
                  go_roundg (n - (i + 1))
                  case measure => have := HG.out; have := HI.out; omega
                  case rel => exact ⟨i + 1, T, mo, rfl, by go_num, by have := HG.out; have := HI.out; omega, HPW, HC, HZ⟩
                · rw [hj] at cj
                  have HTJ := Lib.hid (show T.getD j 0 = 1 by simpa using hj)
                  clear hj hjn
                  have HP2 := Lib.hid (HPW.out.setKept i)
                  have HC2 : Hid (ClT L (T.set i 1) ∧ (T.set i 1).length = n) := Lib.hid ⟨HC.out.1.put (by rw [HC.out.2, HL.out]) (by rw [HL.out]; exact HI.out) (.inr ⟨j, HP.out.symm, by rw [HL.out]; exact HJN.out, HTJ.out⟩), by rw [List.length_set]; exact HC.out.2⟩
                  have HZ2 : Hid (zeros (T.set i 1) ≤ zeros T0 ∧ zeros (T.set i 1) < zeros T0) := Lib.hid (by
                    have h1 := zeros_set (T := T) (i := i) (by rw [HC.out.2]; exact HI.out) HT0.out
                    have h2 := HZ.out.1
                    exact ⟨by omega, by omega⟩)
                  go_wp2
                  go_roundg (n - (i + 1))
                  case measure => have := HG.out; have := HI.out; omega
                  case rel => exact ⟨i + 1, T.set i 1, true, rfl, by go_num, by have := HG.out; have := HI.out; omega, HP2, HC2, Lib.hid ⟨HZ2.out.1, fun _ => HZ2.out.2⟩⟩
              · have hqn : i < nQ := by omega
                obtain ⟨bQ, oQ, rfl⟩ := HQ.out.some_ (by omega)
                have cq := (HQ.out.below HBw.out).cell i hqn
                unfold Bl at cq
                cases hqb : (Q.getD i 0 == 1)
                · rw [hqb] at cq
                  clear hqb hin hqn
                  go_wp2
                  go_roundg (n - (i + 1))
                  case measure => have := HG.out; have := HI.out; omega
                  case rel => exact ⟨i + 1, T, mo, rfl, by go_num, by have := HG.out; have := HI.out; omega, HPW, HC, HZ⟩
                · rw [hqb] at cq
                  clear hqb hin hqn
                  by_cases hp0 : p < 0
                  · have HPN := Lib.hid (show (nd L i).p = -1 by
                      rcases HPO.out with h | ⟨j, h, _⟩
                      · exact h
                      · rw [← HP.out] at h; omega)
                    have HP2 := Lib.hid (HPW.out.setKept i)
                    have HC2 : Hid (ClT L (T.set i 1) ∧ (T.set i 1).length = n) := Lib.hid ⟨HC.out.1.put (by rw [HC.out.2, HL.out]) (by rw [HL.out]; exact HI.out) (.inl HPN.out), by rw [List.length_set]; exact HC.out.2⟩
                    have HZ2 : Hid (zeros (T.set i 1) ≤ zeros T0 ∧ zeros (T.set i 1) < zeros T0) := Lib.hid (by
                      have h1 := zeros_set (T := T) (i := i) (by rw [HC.out.2]; exact HI.out) HT0.out
                      have h2 := HZ.out.1
                      exact ⟨by omega, by omega⟩)
                    go_wp2
                    go_roundg (n - (i + 1))
                    case measure => have := HG.out; have := HI.out; omega
                    case rel => exact ⟨i + 1, T.set i 1, true, rfl, by go_num, by have := HG.out; have := HI.out; omega, HP2, HC2, Lib.hid ⟨HZ2.out.1, fun _ => HZ2.out.2⟩⟩
                  obtain ⟨j, hpj, hjn⟩ : ∃ j : Nat, p = (j : Int) ∧ j < n := by
                    rcases HPO.out with h | ⟨j, h, hj⟩
                    · rw [← HP.out] at h; omega
                    · exact ⟨j, by rw [HP.out]; exact h, hj⟩
                  subst hpj
                  have hj0 : (0 : Int) ≤ (j : Int) := by omega
                  have hjI : (j : Int) < (n : Int) := by omega
                  have cj := HPW.out.cellK hjn
                  have HJN := Lib.hid hjn
                  cases hj : (T.getD j 0 == 1)
                  · rw [hj] at cj
                    clear hj hjn
                    go_wp2
                    go_roundg (n - (i + 1))
                    case measure => have := HG.out; have := HI.out; omega
                    case rel => exact ⟨i + 1, T, mo, rfl, by go_num, by have := HG.out; have := HI.out; omega, HPW, HC, HZ⟩
                  · rw [hj] at cj
                    have HTJ := Lib.hid (show T.getD j 0 = 1 by simpa using hj)
                    clear hj hjn
                    have HP2 := Lib.hid (HPW.out.setKept i)
                    have HC2 : Hid (ClT L (T.set i 1) ∧ (T.set i 1).length = n) := Lib.hid ⟨HC.out.1.put (by rw [HC.out.2, HL.out]) (by rw [HL.out]; exact HI.out) (.inr ⟨j, HP.out.symm, by rw [HL.out]; exact HJN.out, HTJ.out⟩), by rw [List.length_set]; exact HC.out.2⟩
                    have HZ2 : Hid (zeros (T.set i 1) ≤ zeros T0 ∧ zeros (T.set i 1) < zeros T0) := Lib.hid (by
                      have h1 := zeros_set (T := T) (i := i) (by rw [HC.out.2]; exact HI.out) HT0.out
                      have h2 := HZ.out.1
                      exact ⟨by omega, by omega⟩)
                    go_wp2
                    go_roundg (n - (i + 1))
                    case measure => have := HG.out; have := HI.out; omega
                    case rel => exact ⟨i + 1, T.set i 1, true, rfl, by go_num, by have := HG.out; have := HI.out; omega, HP2, HC2, Lib.hid ⟨HZ2.out.1, fun _ => HZ2.out.2⟩⟩
            · rw [hk] at ck
              clear hk hin
              go_wp2
              go_roundg (n - (i + 1))
              case measure => have := HG.out; have := HI.out; omega
              case rel => exact ⟨i + 1, T, mo, rfl, by go_num, by have := HG.out; have := HI.out; omega, HPW, HC, HZ⟩
          · clear hg
            go_wp2
            go_roundg (2 * zeros T + (if mo = true then 1 else 0))
            case measure =>
              rw [HG1.out]
              have h1 := HZ.out.1
              have h2 := HZ.out.2
              cases mo
              · simp; omega
              · have := h2 rfl; simp; omega
            case rel => exact ⟨T, mo, rfl, rfl, HPW, HC⟩
  · have RI := Lib.hid (fun a c W (h : NodesAt W a n c L) => right_any a n c L W h hn1 false ⟨fun h => (Bool.false_ne_true h).elim, fun h => absurd h hR⟩)
    clear h hQ hn1 hR
    go_enter Try.func5, Try.ntmps5
    go_wp2_with (first
      | (go_at_call 11; (with_reducible refine (TO.out _ HB.out).mono ?_); rintro e W1 ⟨a1, c1, rfl, hnd, hb⟩; have HND := Lib.hid hnd; have HB := Lib.hid (HB.out.trans (hb.mono HB.out.size)); clear hb hnd)
      | (go_at_call 10; (with_reducible refine (RI.out _ _ _ HND.out).mono ?_); rintro e W2 ⟨rfl, hb⟩; have HB := Lib.hid (HB.out.trans (hb.mono HB.out.size)); clear hb)
      | (go_at_call 14; (with_reducible refine (AW.out _).mono ?_); rintro e W3 ⟨rfl, hb⟩; have HB := Lib.hid (HB.out.trans (hb.mono HB.out.size)); clear hb))
    go_ret
    exact ⟨rfl, HB.out⟩
#print axioms treeParts_any
end Go.Proofs.Ytmenhbdapikpeaa
